import PyProof.Rows.All
import Wide.All
import OpenK.AllK
import Wide.FinOn
import HandS.ForMost
import HandS.Exc
import HandS.ExcOwn
import HandS.WordsExc
import HandS.CallSlots
import HandS.TryOnly
import HandS.Lambda
import HandS.AnyAll
import HandS.TupAny
import HandS.Text
import HandS.More
import HandS.Wide
import HandS.Rev
import HandS.Star
import HandS.Style
import HandS.FStr
import HandS.RaiseMore
import HandS.Iter
import KE.DataEq
import HandS.Zip
import HandS.Conv
import PyProof.AutoSeq1
import HandS.Walk
import HandS.DictComp
import HandS.RaiseOp
import HandS.WordsDict
import HandS.SortInts
import HandS.ListItems
import HandS.HeadHook4
import KE.KNest
import KE.KRevSl
import HandS.SortRule
import PyProof.TupleOfGen
import HandS.Nested
import HandS.Head0
import HandS.Head1
import HandS.Head2
import HandS.HeadEnd
import HandS.HeadHook1
import HandS.HeadHook2
import HandS.HeadHook3
import HandS.HeadWalk
import PySem.Challenge.RW_landstack_k08_votes_owners_and_remarks
set_option Elab.async false
set_option linter.all false
set_option maxRecDepth 100000
section
set_option maxHeartbeats 0
/-! PD: readings by data. Values that are never changed are plain data (D); lists that a def changes are its slots' own. -/
namespace PD
open PySem L2

/-! ### data, what represents it -/
inductive D where
  | non | bl (b : Bool) | int (i : Int) | str (x : Str) | tup (xs : List D) | lst (xs : List D) | dct (kvs : List (Key × D)) | frz (xs : List D)

mutual
inductive Rep (K : PySem.W.Frag) (W : Hp) : V → D → Prop
  | non : Rep K W .non .non
  | bl (b : Bool) : Rep K W (.bl b) (.bl b)
  | int (i : Int) : Rep K W (.int i) (.int i)
  | str (x : Str) : Rep K W (.str x) (.str x)
  | tup {a : Addr} {vs : List V} {ds : List D} : SqT K W a vs → Reps K W vs ds → Rep K W (.ref a) (.tup ds)
  | lst {a : Addr} {vs : List V} {ds : List D} : W a = some (.lst vs) → Reps K W vs ds → Rep K W (.ref a) (.lst ds)
  | frz {a : Addr} {vs : List V} {ds : List D} : SqL K W a vs → Reps K W vs ds → Rep K W (.ref a) (.frz ds)
  | dct {a : Addr} {kv : List (Key × V)} {kd : List (Key × D)} : W a = some (.dK kv) → RepK K W kv kd → Rep K W (.ref a) (.dct kd)
inductive Reps (K : PySem.W.Frag) (W : Hp) : List V → List D → Prop
  | nil : Reps K W [] []
  | cons {v : V} {vs : List V} {d : D} {ds : List D} : Rep K W v d → Reps K W vs ds → Reps K W (v :: vs) (d :: ds)
inductive RepK (K : PySem.W.Frag) (W : Hp) : List (Key × V) → List (Key × D) → Prop
  | nil : RepK K W [] []
  | cons {k : Key} {v : V} {vs : List (Key × V)} {d : D} {ds : List (Key × D)} : Rep K W v d → RepK K W vs ds → RepK K W ((k, v) :: vs) ((k, d) :: ds)
end

def Ex (H H' : Hp) : Prop := ∀ a o, H a = some o → H' a = some o
theorem Ex.refl (H : Hp) : Ex H H := fun _ _ h => h
theorem Ex.trans {H H1 H2 : Hp} (a : Ex H H1) (b : Ex H1 H2) : Ex H H2 := fun x o h => b x o (a x o h)
theorem Ex.rd {H H' : Hp} {a : Addr} {u : HO} (e : Ex H H') (h : Rd H a u) : Rd H' a u := by
  rcases h with h | ⟨o, h⟩
  · exact .inl (e a _ h)
  · exact .inr ⟨o, e a _ h⟩
theorem Ex.sl {K : PySem.W.Frag} {H H' : Hp} {a : Addr} {xs : List V} (e : Ex H H') (h : SqL K H a xs) : SqL K H' a xs := by
  rcases h with h | h
  · exact .inl (e.rd h)
  · exact .inr h
theorem Ex.st {K : PySem.W.Frag} {H H' : Hp} {a : Addr} {xs : List V} (e : Ex H H') (h : SqT K H a xs) : SqT K H' a xs := by
  rcases h with h | h
  · exact .inl (e.rd h)
  · exact .inr h

section
variable {K : PySem.W.Frag} {W W' H : Hp}
mutual
theorem Rep.mono (e : Ex W W') : ∀ {v : V} {d : D}, Rep K W v d → Rep K W' v d
  | _, _, .non => .non
  | _, _, .bl b => .bl b
  | _, _, .int i => .int i
  | _, _, .str x => .str x
  | _, _, .tup h r => .tup (e.st h) (Reps.mono e r)
  | _, _, .lst h r => .lst (e _ _ h) (Reps.mono e r)
  | _, _, .frz h r => .frz (e.sl h) (Reps.mono e r)
  | _, _, .dct h r => .dct (e _ _ h) (RepK.mono e r)
theorem Reps.mono (e : Ex W W') : ∀ {vs : List V} {ds : List D}, Reps K W vs ds → Reps K W' vs ds
  | _, _, .nil => .nil
  | _, _, .cons h r => .cons (Rep.mono e h) (Reps.mono e r)
theorem RepK.mono (e : Ex W W') : ∀ {vs : List (Key × V)} {ds : List (Key × D)}, RepK K W vs ds → RepK K W' vs ds
  | _, _, .nil => .nil
  | _, _, .cons h r => .cons (Rep.mono e h) (RepK.mono e r)
end
theorem Reps.length : ∀ {vs : List V} {ds : List D}, Reps K W vs ds → vs.length = ds.length
  | _, _, .nil => rfl
  | _, _, .cons _ r => by rw [List.length_cons, List.length_cons, Reps.length r]
theorem Reps.get : ∀ {vs : List V} {ds : List D} {i : Nat} {v : V}, Reps K W vs ds → vs[i]? = some v → ∃ d, ds[i]? = some d ∧ Rep K W v d
  | _, _, _, _, .nil, e => by simp at e
  | _, _, 0, _, .cons r _, e => by simp at e; subst e; exact ⟨_, rfl, r⟩
  | _, _, i + 1, v, .cons _ t, e => by
    obtain ⟨d, h1, h2⟩ := Reps.get (i := i) t (by simpa using e)
    exact ⟨d, by simpa using h1, h2⟩
theorem Reps.getD : ∀ {vs : List V} {ds : List D} {i : Nat} {d : D}, Reps K W vs ds → ds[i]? = some d → ∃ v, vs[i]? = some v ∧ Rep K W v d
  | _, _, _, _, .nil, e => by simp at e
  | _, _, 0, _, .cons r _, e => by simp at e; subst e; exact ⟨_, rfl, r⟩
  | _, _, i + 1, v, .cons _ t, e => by
    obtain ⟨d, h1, h2⟩ := Reps.getD (i := i) t (by simpa using e)
    exact ⟨d, by simpa using h1, h2⟩
theorem Reps.append : ∀ {vs us : List V} {ds es : List D}, Reps K W vs ds → Reps K W us es → Reps K W (vs ++ us) (ds ++ es)
  | _, _, _, _, .nil, s => s
  | _, _, _, _, .cons r t, s => .cons r (Reps.append t s)
theorem Reps.take : ∀ {vs : List V} {ds : List D} (n : Nat), Reps K W vs ds → Reps K W (vs.take n) (ds.take n)
  | _, _, 0, _ => .nil
  | _, _, _ + 1, .nil => .nil
  | _, _, n + 1, .cons r t => .cons r (Reps.take n t)
theorem Reps.drop : ∀ {vs : List V} {ds : List D} (n : Nat), Reps K W vs ds → Reps K W (vs.drop n) (ds.drop n)
  | _, _, 0, r => r
  | _, _, _ + 1, .nil => .nil
  | _, _, n + 1, .cons _ t => Reps.drop n t
theorem Reps.set {v : V} {d : D} (r : Rep K W v d) : ∀ {vs : List V} {ds : List D} (i : Nat), Reps K W vs ds → Reps K W (vs.set i v) (ds.set i d)
  | _, _, _, .nil => .nil
  | _, _, 0, .cons _ t => .cons r t
  | _, _, i + 1, .cons q t => .cons q (Reps.set r i t)
theorem Reps.reverse {vs : List V} {ds : List D} (r : Reps K W vs ds) : Reps K W vs.reverse ds.reverse := by
  induction r using Reps.rec (motive_1 := fun _ _ _ => True) (motive_3 := fun _ _ _ => True) with
  | nil => exact .nil
  | cons r _ _ ih => rw [List.reverse_cons, List.reverse_cons]; exact ih.append (.cons r .nil)
  | _ => trivial
theorem Reps.dropLast {vs : List V} {ds : List D} (r : Reps K W vs ds) : Reps K W vs.dropLast ds.dropLast := by
  rw [List.dropLast_eq_take, List.dropLast_eq_take, r.length]
  exact r.take _
theorem Reps.replicate {v : V} {d : D} (r : Rep K W v d) : ∀ n : Nat, Reps K W (List.replicate n v) (List.replicate n d)
  | 0 => .nil
  | n + 1 => .cons r (Reps.replicate r n)
theorem Reps.eraseIdx : ∀ {vs : List V} {ds : List D} (i : Nat), Reps K W vs ds → Reps K W (vs.eraseIdx i) (ds.eraseIdx i)
  | _, _, _, .nil => .nil
  | _, _, 0, .cons _ t => t
  | _, _, i + 1, .cons q t => .cons q (Reps.eraseIdx i t)
theorem Reps.nilL {ds : List D} (r : Reps K W [] ds) : ds = [] := by cases r; rfl
theorem Reps.nilR {vs : List V} (r : Reps K W vs []) : vs = [] := by cases r; rfl
end

/-! ### tables of code objects -/
def NTbl (o : HO) : Prop := ∀ ps, o ≠ .tbl ps
/-- LT: tables with the name of the code objects in them; GT: tables of which nothing more is known -/
structure TBs where
  LT : List (Addr × Str)
  GT : List Addr
def TBok (tb : TBs) (H : Hp) : Prop := LamX.Tabs tb.LT H ∧ ∀ P ∈ tb.GT, GxR.TabG H P
theorem TBok.ext {tb : TBs} {H H' : Hp} (t : TBok tb H) (e : ∀ a o, H a = some o → (∀ xs, o ≠ .lst xs) → (∀ kv, o ≠ .dK kv) → H' a = some o) : TBok tb H' := by
  refine ⟨fun p hp => ?_, fun P hP => ?_⟩
  · obtain ⟨ps, h1, h2, h3⟩ := t.1 p hp
    refine ⟨ps, e _ _ h1 (fun _ z => nomatch z) (fun _ z => nomatch z), h2, fun pos cv hc => ?_⟩
    obtain ⟨c, e1, e2⟩ := h3 pos cv hc
    exact ⟨c, e1, e _ _ e2 (fun _ z => nomatch z) (fun _ z => nomatch z)⟩
  · obtain ⟨ps, h1, h2⟩ := t.2 P hP
    exact ⟨ps, e _ _ h1 (fun _ z => nomatch z) (fun _ z => nomatch z), h2⟩
theorem TBok.Ex {tb : TBs} {H H' : Hp} (t : TBok tb H) (e : Ex H H') : TBok tb H' := t.ext fun a o h _ _ => e a o h

/-! ### one step of the world: what is known grows, what stood stays -/
def NoT (W : Hp) : Prop := ∀ a o, W a = some o → NTbl o
structure Nw (tb : TBs) (W H W' H' : Hp) : Prop where
  w : Ex W W'
  x : Ex W' H'
  nt : NoT W'
  n : ∀ a, H a ≠ none → W a = none → W' a = none
  f : ∀ a o, H a = some o → NTbl o → H' a = some o
  p : ∀ a, H a ≠ none → H' a ≠ none
  t : TBok tb H'
section
variable {tb : TBs} {W H W' H' W2 H2 : Hp}
theorem Nw.refl (x : Ex W H) (nt : NoT W) (t : TBok tb H) : Nw tb W H W H := ⟨Ex.refl _, x, nt, fun _ _ h => h, fun _ _ h _ => h, fun _ h => h, t⟩
theorem Nw.trans (a : Nw tb W H W' H') (b : Nw tb W' H' W2 H2) : Nw tb W H W2 H2 :=
  ⟨a.w.trans b.w, b.x, b.nt, fun c h1 h2 => b.n c (a.p c h1) (a.n c h1 h2), fun c o h1 h2 => b.f c o (a.f c o h1 h2) h2, fun c h => b.p c (a.p c h), b.t⟩
/-- a new object, known for good -/
theorem Nw.new (x : Ex W H) (nt : NoT W) (t : TBok tb H) {p : Addr} {o : HO} (hp : H p = none) (ho : NTbl o) : Nw tb W H (upd W p o) (upd H p o) := by
  have wp : W p = none := by
    cases e : W p with
    | none => rfl
    | some u => rw [x p u e] at hp; cases hp
  have eH : Ex H (upd H p o) := fun a u e => by rw [upd_ne (ne_of_none e hp)]; exact e
  refine ⟨fun a u e => by rw [upd_ne (ne_of_none e wp)]; exact e, fun a u e => ?_, fun a u e => ?_, fun a h1 h2 => ?_, fun a u e _ => eH a u e, fun a h => ?_, t.Ex eH⟩
  · by_cases ha : a = p
    · rw [ha, upd_same] at e; rw [ha, upd_same]; exact e
    · rw [upd_ne ha] at e; rw [upd_ne ha]; exact x a u e
  · by_cases ha : a = p
    · rw [ha, upd_same] at e; cases e; exact ho
    · rw [upd_ne ha] at e; exact nt a u e
  · have ha : a ≠ p := fun z => h1 (z ▸ hp)
    rw [upd_ne ha]; exact h2
  · have ha : a ≠ p := fun z => h (z ▸ hp)
    rw [upd_ne ha]; exact h
/-- a new object, not known -/
theorem Nw.own (x : Ex W H) (nt : NoT W) (t : TBok tb H) {p : Addr} {o : HO} (hp : H p = none) : Nw tb W H W (upd H p o) := by
  have eH : Ex H (upd H p o) := fun a u e => by rw [upd_ne (ne_of_none e hp)]; exact e
  refine ⟨Ex.refl _, x.trans eH, nt, fun a _ h => h, fun a u e _ => eH a u e, fun a h => ?_, t.Ex eH⟩
  have ha : a ≠ p := fun z => h (z ▸ hp)
  rw [upd_ne ha]; exact h
end

/-! ### the slots -/
inductive Own where
  | lst (ds : List D) | dct (kvs : List (Key × D))
def Own.d : Own → D
  | .lst ds => .lst ds
  | .dct kvs => .dct kvs
/-- a slot: nothing that is known; data; a list or dict of its own; one that was handed in to be changed -/
inductive Loc where
  | non | dat (d : D) | own (o : Own) | pin (o : Own)
abbrev Env := List Loc
structure Ws where
  W : Hp
  H : Hp
  A : Nat → Option Addr
section
variable (K : PySem.W.Frag) (tb : TBs)
def OwnOk (W H : Hp) (p : Addr) : Own → Prop
  | .lst ds => ∃ vs, H p = some (.lst vs) ∧ Reps K W vs ds
  | .dct kd => ∃ kv, H p = some (.dK kv) ∧ RepK K W kv kd
def LocOk (W H : Hp) (ov : Option V) (oa : Option Addr) : Loc → Prop
  | .non => oa = none
  | .dat d => oa = none ∧ ∃ v, ov = some v ∧ Rep K W v d
  | .own o => ∃ p, oa = some p ∧ ov = some (.ref p) ∧ W p = none ∧ OwnOk K W H p o
  | .pin o => ∃ p, oa = some p ∧ ov = some (.ref p) ∧ W p = none ∧ OwnOk K W H p o
structure SR (ρ : Env) (s : Ws) (σ : L2.St) : Prop where
  len : σ.length = ρ.length
  loc : ∀ i l, ρ[i]? = some l → LocOk K s.W s.H ((σ[i]?).getD none) (s.A i) l
  out : ∀ i, ρ.length ≤ i → s.A i = none
  inj : ∀ i j p, s.A i = some p → s.A j = some p → i = j
  ex : Ex s.W s.H
  nt : NoT s.W
  tb : TBok tb s.H
end
def OwnsA (s : Ws) (a : Addr) : Prop := ∃ i, s.A i = some a
/-- P: the slots whose objects were handed in -/
structure Tr (P : Nat → Bool) (s s' : Ws) : Prop where
  w : Ex s.W s'.W
  n : ∀ a, s.H a ≠ none → ¬ OwnsA s a → s.W a = none → s'.W a = none
  f : ∀ a o, ¬ OwnsA s a → s.H a = some o → NTbl o → s'.H a = some o
  o : ∀ a, OwnsA s' a → OwnsA s a ∨ s.H a = none
  p : ∀ a, s.H a ≠ none → s'.H a ≠ none
  pin : ∀ i, P i = true → s'.A i = s.A i
section
variable {P : Nat → Bool} {s s1 s2 : Ws}
theorem Tr.refl : Tr P s s := ⟨Ex.refl _, fun _ _ _ h => h, fun _ _ _ h _ => h, fun _ h => .inl h, fun _ h => h, fun _ _ => rfl⟩
theorem Tr.trans (a : Tr P s s1) (b : Tr P s1 s2) : Tr P s s2 := by
  have no : ∀ c, s.H c ≠ none → ¬ OwnsA s c → ¬ OwnsA s1 c := fun c h1 h2 h3 => (a.o c h3).elim h2 h1
  refine ⟨a.w.trans b.w, fun c h1 h2 h3 => b.n c (a.p c h1) (no c h1 h2) (a.n c h1 h2 h3), fun c u h1 h2 h3 => ?_, fun c h => ?_, fun c h => b.p c (a.p c h), fun i h => (b.pin i h).trans (a.pin i h)⟩
  · exact b.f c u (no c (by rw [h2]; exact fun z => nomatch z) h1) (a.f c u h1 h2 h3) h3
  · rcases b.o c h with h1 | h1
    · exact a.o c h1
    · refine .inr ?_
      cases e : s.H c with
      | none => rfl
      | some u => exact absurd h1 (a.p c (by rw [e]; exact fun z => nomatch z))
theorem Tr.nw {tb : TBs} {W' H' : Hp} (n : Nw tb s.W s.H W' H') : Tr P s ⟨W', H', s.A⟩ :=
  ⟨n.w, fun a h1 _ h3 => n.n a h1 h3, fun a u _ h2 h3 => n.f a u h2 h3, fun a h => .inl h, n.p, fun _ _ => rfl⟩
end
section
variable {K : PySem.W.Frag} {tb : TBs} {P : Nat → Bool} {ρ : Env} {s : Ws} {σ : L2.St}
theorem OwnOk.mono {W H W' H' : Hp} {p : Addr} {o : Own} (h : OwnOk K W H p o) (e : Ex W W') (k : ∀ u, NTbl u → H p = some u → H' p = some u) : OwnOk K W' H' p o := by
  cases o with
  | lst ds => obtain ⟨vs, h1, h2⟩ := h; exact ⟨vs, k _ (fun _ z => nomatch z) h1, h2.mono e⟩
  | dct kd => obtain ⟨vs, h1, h2⟩ := h; exact ⟨vs, k _ (fun _ z => nomatch z) h1, h2.mono e⟩
theorem OwnOk.there {W H : Hp} {p : Addr} {o : Own} (h : OwnOk K W H p o) : ∃ u, H p = some u ∧ NTbl u := by
  cases o with
  | lst ds => obtain ⟨vs, h1, _⟩ := h; exact ⟨_, h1, fun _ z => nomatch z⟩
  | dct kd => obtain ⟨vs, h1, _⟩ := h; exact ⟨_, h1, fun _ z => nomatch z⟩
theorem LocOk.mono {W H W' H' : Hp} {ov : Option V} {oa : Option Addr} {l : Loc} (h : LocOk K W H ov oa l) (e : Ex W W') (n : ∀ p, oa = some p → H p ≠ none → W p = none → W' p = none) (k : ∀ p, oa = some p → ∀ u, NTbl u → H p = some u → H' p = some u) : LocOk K W' H' ov oa l := by
  cases l with
  | non => exact h
  | dat d => obtain ⟨h1, v, h2, h3⟩ := h; exact ⟨h1, v, h2, h3.mono e⟩
  | own o =>
    obtain ⟨p, h1, h2, h3, h4⟩ := h
    obtain ⟨u, hu, _⟩ := h4.there
    exact ⟨p, h1, h2, n p h1 (by rw [hu]; exact fun z => nomatch z) h3, h4.mono e (k p h1)⟩
  | pin o =>
    obtain ⟨p, h1, h2, h3, h4⟩ := h
    obtain ⟨u, hu, _⟩ := h4.there
    exact ⟨p, h1, h2, n p h1 (by rw [hu]; exact fun z => nomatch z) h3, h4.mono e (k p h1)⟩
theorem SR.nw {W' H' : Hp} (h : SR K tb ρ s σ) (n : Nw tb s.W s.H W' H') : SR K tb ρ ⟨W', H', s.A⟩ σ :=
  ⟨h.len, fun i l e => (h.loc i l e).mono n.w (fun p _ h1 h2 => n.n p h1 h2) fun p _ u hu e => n.f p u e hu, h.out, h.inj, n.x, n.nt, n.t⟩
theorem SR.nref (h : SR K tb ρ s σ) : Nw tb s.W s.H s.W s.H := .refl h.ex h.nt h.tb
end
end PD
end
section
set_option maxHeartbeats 0
namespace PD
open PySem L2

/-! ### mirrors -/
inductive Res (α : Type) where
  | ok (a : α) (ρ : Env) | er (c : Str) (ρ : Env)
abbrev MM (α : Type) := Env → Option (Res α)
def ret {α : Type} (a : α) : MM α := fun ρ => some (.ok a ρ)
def bnd {α β : Type} (m : MM α) (f : α → MM β) : MM β := fun ρ => match m ρ with
  | some (.ok a ρ') => f a ρ'
  | some (.er c ρ') => some (.er c ρ')
  | none => none
def lft {α : Type} (o : Option α) : MM α := fun ρ => match o with
  | some a => some (.ok a ρ)
  | none => none
theorem bnd_ok {α β : Type} {m : MM α} {f : α → MM β} {ρ ρ' : Env} {a : α} (h : m ρ = some (.ok a ρ')) : bnd m f ρ = f a ρ' := by unfold bnd; rw [h]
theorem bnd_ret {α β : Type} {a : α} {f : α → MM β} : bnd (ret a) f = f a := rfl
theorem bnd_some {α β : Type} {a : α} {f : α → MM β} : bnd (lft (some a)) f = f a := rfl
theorem bnd_cases {α β : Type} {m : MM α} {f : α → MM β} {ρ : Env} {r : Res β} (h : bnd m f ρ = some r) : (∃ a ρ', m ρ = some (.ok a ρ') ∧ f a ρ' = some r) ∨ (∃ c ρ', m ρ = some (.er c ρ') ∧ r = .er c ρ') := by
  unfold bnd at h
  split at h
  · rename_i a ρ' e; exact .inl ⟨a, ρ', e, h⟩
  · rename_i c ρ' e; exact .inr ⟨c, ρ', e, (Option.some.inj h).symm⟩
  · cases h
theorem lft_cases {α : Type} {o : Option α} {ρ : Env} {r : Res α} (h : lft o ρ = some r) : ∃ a, o = some a ∧ r = .ok a ρ := by
  unfold lft at h
  split at h
  · rename_i a; exact ⟨a, rfl, (Option.some.inj h).symm⟩
  · cases h

/-- what a body's judgements share: the written part, the tables, the slots handed in, what is wished of an exception -/
structure Cc where
  K : PySem.W.Frag
  tb : TBs
  P : Nat → Bool
  xw : Str → L2.St → Hp → Prop

abbrev TX (τ : Type) := L2.St → Hp → (τ → Hp → Prop) → Prop
section
variable (c : Cc)
def PostX {τ δ : Type} (rep : Hp → τ → δ → Prop) (s : Ws) (σ : L2.St) (Q : τ → Hp → Prop) : Res δ → Prop
  | .ok d ρ' => ∀ v s', SR c.K c.tb ρ' s' σ → Tr c.P s s' → rep s'.W v d → Q v s'.H
  | .er x ρ' => ∀ s', SR c.K c.tb ρ' s' σ → Tr c.P s s' → c.xw x σ s'.H
def Sx {τ δ : Type} (rep : Hp → τ → δ → Prop) (t : TX τ) (m : MM δ) : Prop :=
  ∀ ρ r, m ρ = some r → ∀ s σ, SR c.K c.tb ρ s σ → ∀ Q, PostX c rep s σ Q r → t σ s.H Q
abbrev SE (te : TE) (m : MM D) : Prop := Sx c (Rep c.K) te m
abbrev ST (t : TT) (m : MM Bool) : Prop := Sx c (fun _ b d => b = d) t m
abbrev SA (t : TA) (m : MM (List D)) : Prop := Sx c (Reps c.K) t m
abbrev SO (t : TO) (m : MM (Option Int)) : Prop := Sx c (fun _ b d => b = d) t m
end
section
variable {c : Cc}
theorem PostX.after {τ δ : Type} {rep : Hp → τ → δ → Prop} {s s1 : Ws} {σ : L2.St} {Q : τ → Hp → Prop} {r : Res δ} (h : PostX c rep s σ Q r) (t : Tr c.P s s1) : PostX c rep s1 σ Q r := by
  cases r with
  | ok d ρ' => exact fun v s' a b k => h v s' a (t.trans b) k
  | er x ρ' => exact fun s' a b => h s' a (t.trans b)
/-- one after another -/
theorem sx_bnd {τ δ υ ε : Type} {rep : Hp → τ → δ → Prop} {rep2 : Hp → υ → ε → Prop} {t : TX τ} {m : MM δ} {f : δ → MM ε} {k : τ → TX υ} (h : Sx c rep t m)
    (hk : ∀ v d ρ r, f d ρ = some r → ∀ s σ, SR c.K c.tb ρ s σ → rep s.W v d → ∀ Q, PostX c rep2 s σ Q r → k v σ s.H Q) :
    Sx c rep2 (fun σ H Q => t σ H fun v H1 => k v σ H1 Q) (bnd m f) := by
  intro ρ r e s σ hs Q q
  rcases bnd_cases e with ⟨d, ρ', e1, e2⟩ | ⟨x, ρ', e1, rfl⟩
  · exact h ρ _ e1 s σ hs _ fun v s' a b kk => hk v d ρ' r e2 s' σ a kk Q (q.after b)
  · exact h ρ _ e1 s σ hs _ fun s' a b => q s' a b

/-- the same, in the midst -/
theorem sx_go {τ δ υ ε : Type} {rep : Hp → τ → δ → Prop} {rep2 : Hp → υ → ε → Prop} {t : TX τ} {m : MM δ} {f : δ → MM ε} {ρ : Env} {r : Res ε} {s : Ws} {σ : L2.St} {Q2 : υ → Hp → Prop} {R : τ → Hp → Prop} (h : Sx c rep t m) (e : bnd m f ρ = some r) (hs : SR c.K c.tb ρ s σ)
    (q : PostX c rep2 s σ Q2 r) (hk : ∀ v d ρ' s', f d ρ' = some r → SR c.K c.tb ρ' s' σ → rep s'.W v d → PostX c rep2 s' σ Q2 r → Tr c.P s s' → R v s'.H) : t σ s.H R := by
  rcases bnd_cases e with ⟨d, ρ', e1, e2⟩ | ⟨x, ρ', e1, rfl⟩
  · exact h ρ _ e1 s σ hs _ fun v s' a b kk => hk v d ρ' s' e2 a kk (q.after b) b
  · exact h ρ _ e1 s σ hs _ fun s' a b => q s' a b

/-! ### names, constants -/
def rd (i : Nat) : MM D := fun ρ => match ρ[i]? with
  | some (.dat d) => some (.ok d ρ)
  | some (.own o) => some (.ok o.d (ρ.set i (.dat o.d)))
  | _ => none
def updA (A : Nat → Option Addr) (i : Nat) (o : Option Addr) : Nat → Option Addr := fun j => if j = i then o else A j
theorem updA_same {A : Nat → Option Addr} {i : Nat} {o : Option Addr} : updA A i o i = o := if_pos rfl
theorem updA_ne {A : Nat → Option Addr} {i j : Nat} {o : Option Addr} (h : j ≠ i) : updA A i o j = A j := if_neg h
theorem OwnOk.rep {K : PySem.W.Frag} {W H : Hp} {p : Addr} {o : Own} (h : OwnOk K W H p o) (wp : W p = none) : ∃ u, H p = some u ∧ NTbl u ∧ Rep K (upd W p u) (.ref p) o.d := by
  have e : ∀ u, Ex W (upd W p u) := fun u a x q => by rw [upd_ne (ne_of_none q wp)]; exact q
  cases o with
  | lst ds => obtain ⟨vs, h1, h2⟩ := h; exact ⟨_, h1, (fun _ z => nomatch z), .lst upd_same (h2.mono (e _))⟩
  | dct ds => obtain ⟨vs, h1, h2⟩ := h; exact ⟨_, h1, (fun _ z => nomatch z), .dct upd_same (h2.mono (e _))⟩
theorem SR.freeze {ρ : Env} {s : Ws} {σ : L2.St} {i : Nat} {o : Own} (h : SR c.K c.tb ρ s σ) (e : ρ[i]? = some (.own o)) (hP : c.P i = false) :
    ∃ v s', SR c.K c.tb (ρ.set i (.dat o.d)) s' σ ∧ Tr c.P s s' ∧ σ[i]? = some (some v) ∧ Rep c.K s'.W v o.d ∧ s'.H = s.H := by
  obtain ⟨p, hA, hv, wp, ho⟩ := h.loc i _ e
  obtain ⟨u, hu, nu, r⟩ := ho.rep wp
  have hi : i < ρ.length := (List.getElem?_eq_some_iff.mp e).1
  have hv' : σ[i]? = some (some (.ref p)) := by
    cases q : σ[i]? with
    | none => rw [q] at hv; cases hv
    | some x => rw [q] at hv; exact congrArg some hv
  have eW : Ex s.W (upd s.W p u) := fun a x q => by rw [upd_ne (ne_of_none q wp)]; exact q
  refine ⟨.ref p, ⟨upd s.W p u, s.H, updA s.A i none⟩, ⟨by rw [List.length_set]; exact h.len, fun j l ej => ?_, fun j hj => ?_, fun j k q a b => ?_, fun a x q => ?_, fun a x q => ?_, h.tb⟩, ⟨eW, fun a h1 h2 h3 => ?_, fun a x _ h2 _ => h2, fun a ⟨j, ha⟩ => ?_, fun _ h => h, fun j hj => ?_⟩, hv', r, rfl⟩
  · by_cases hj : j = i
    · subst hj
      rw [List.getElem?_set_self hi] at ej
      cases ej
      exact ⟨updA_same, _, hv, r⟩
    · rw [List.getElem?_set_ne (Ne.symm hj)] at ej
      have q := h.loc j l ej
      show LocOk c.K (upd s.W p u) s.H _ (updA s.A i none j) l
      rw [updA_ne hj]
      refine q.mono eW (fun p' hp' _ w => ?_) fun p' _ u _ e => e
      have np : p' ≠ p := fun z => hj (h.inj j i p' hp' (by rw [hA, z]))
      show upd s.W p _ p' = none
      rw [upd_ne np]; exact w
  · rw [List.length_set] at hj
    by_cases hji : j = i
    · subst hji; exact updA_same
    · exact (updA_ne hji).trans (h.out j hj)
  · by_cases hj : j = i
    · subst hj; cases updA_same.symm.trans a
    · by_cases hk : k = i
      · subst hk; cases updA_same.symm.trans b
      · exact h.inj j k q ((updA_ne hj).symm.trans a) ((updA_ne hk).symm.trans b)
  · by_cases ha : a = p
    · subst ha
      cases upd_same.symm.trans q; exact hu
    · exact h.ex a x ((upd_ne ha).symm.trans q)
  · by_cases ha : a = p
    · subst ha
      cases upd_same.symm.trans q; exact nu
    · exact h.nt a x ((upd_ne ha).symm.trans q)
  · have ha : a ≠ p := fun z => h2 ⟨i, by rw [hA, z]⟩
    show upd s.W p u a = none
    rw [upd_ne ha]; exact h3
  · by_cases hj : j = i
    · subst hj; cases updA_same.symm.trans ha
    · exact .inl ⟨j, (updA_ne hj).symm.trans ha⟩
  · have hji : j ≠ i := fun z => by rw [z, hP] at hj; cases hj
    exact updA_ne hji
def rdOk (c : Cc) (i : Nat) : Prop := c.P i = false
theorem se_var {i : Nat} (hP : c.P i = false) : SE c (tVar i) (rd i) := by
  intro ρ r e s σ hs Q q
  unfold rd at e
  split at e
  · rename_i d ed
    cases e
    obtain ⟨_, v, hv, rv⟩ := hs.loc i _ ed
    have hv' : σ[i]? = some (some v) := by
      cases z : σ[i]? with
      | none => rw [z] at hv; cases hv
      | some x => rw [z] at hv; exact congrArg some hv
    exact ⟨v, hv', q v s hs .refl rv⟩
  · rename_i o eo
    cases e
    obtain ⟨v, s', h1, h2, h3, h4, h5⟩ := hs.freeze eo hP
    refine ⟨v, h3, ?_⟩
    have z := q v s' h1 h2 h4
    rw [h5] at z
    exact z
  · cases e
/-- a slot of data alone (also one handed in) -/
def rdD (i : Nat) : MM D := fun ρ => match ρ[i]? with
  | some (.dat d) => some (.ok d ρ)
  | _ => none
theorem se_varD {i : Nat} : SE c (tVar i) (rdD i) := by
  intro ρ r e s σ hs Q q
  unfold rdD at e
  split at e
  · rename_i d ed
    cases e
    obtain ⟨_, v, hv, rv⟩ := hs.loc i _ ed
    have hv' : σ[i]? = some (some v) := by
      cases z : σ[i]? with
      | none => rw [z] at hv; cases hv
      | some x => rw [z] at hv; exact congrArg some hv
    exact ⟨v, hv', q v s hs .refl rv⟩
  · cases e
theorem se_c {v : V} {d : D} (h : ∀ W, Rep c.K W v d) : SE c (tC v) (ret d) := by
  intro ρ r e s σ hs Q q
  cases e
  exact q v s hs .refl (h _)

/-! ### operators on values -/
section
variable (c)
def RX {τ δ : Type} (rep : Hp → τ → δ → Prop) (r : Hp → (τ → Hp → Prop) → Prop) (W : Hp) (H : Hp) (d : δ) : Prop := ∀ Q, (∀ v W' H', Nw c.tb W H W' H' → rep W' v d → Q v H') → r H Q
structure Wd (W H : Hp) : Prop where
  ex : Ex W H
  nt : NoT W
  tb : TBok c.tb H
def ROp (r : R2) (op : D → D → Option D) : Prop := ∀ W H x y a b d, Wd c W H → Rep c.K W x a → Rep c.K W y b → op a b = some d → RX c (Rep c.K) (r x y) W H d
def RUn (r : V → Hp → VK → Prop) (op : D → Option D) : Prop := ∀ W H x a d, Wd c W H → Rep c.K W x a → op a = some d → RX c (Rep c.K) (r x) W H d
def RCa (r : List V → Hp → VK → Prop) (op : List D → Option D) : Prop := ∀ W H xs as d, Wd c W H → Reps c.K W xs as → op as = some d → RX c (Rep c.K) (r xs) W H d
def RTr (r : V → Hp → (Bool → Hp → Prop) → Prop) (op : D → Option Bool) : Prop := ∀ W H x a b, Wd c W H → Rep c.K W x a → op a = some b → RX c (fun _ u d => u = d) (r x) W H b
end
theorem Wd.nref {W H : Hp} (h : Wd c W H) : Nw c.tb W H W H := .refl h.ex h.nt h.tb
theorem SR.wd {ρ : Env} {s : Ws} {σ : L2.St} (h : SR c.K c.tb ρ s σ) : Wd c s.W s.H := ⟨h.ex, h.nt, h.tb⟩
/-- the end of an operation -/
theorem post_nw {τ δ : Type} {rep : Hp → τ → δ → Prop} {ρ : Env} {s : Ws} {σ : L2.St} {Q : τ → Hp → Prop} {d : δ} (hs : SR c.K c.tb ρ s σ) (q : PostX c rep s σ Q (.ok d ρ)) : ∀ v W' H', Nw c.tb s.W s.H W' H' → rep W' v d → Q v H' :=
  fun v _ _ n rv => q v _ (hs.nw n) (.nw n) rv
theorem rx_val {τ δ : Type} {rep : Hp → τ → δ → Prop} {r : Hp → (τ → Hp → Prop) → Prop} {W H : Hp} {d : δ} (w : Wd c W H) (v : τ) (rv : rep W v d) (h : ∀ Q : τ → Hp → Prop, Q v H → r H Q) : RX c rep r W H d := fun Q q => h Q (q v W H w.nref rv)
theorem se_op {r : R2} {op : D → D → Option D} {ta tb : TE} {ma mb : MM D} (ho : ROp c r op) (ha : SE c ta ma) (hb : SE c tb mb) : SE c (tOp r ta tb) (bnd ma fun a => bnd mb fun b => lft (op a b)) := by
  intro ρ rr e s σ hs Q q
  refine sx_go (t := ta) ha e hs q fun x a ρ s e hs rx q tr => ?_
  refine sx_go (t := tb) hb e hs q fun y b ρ' s' e hs' ry q tr => ?_
  obtain ⟨d, e3, rfl⟩ := lft_cases e
  exact ho _ _ x y a b d hs'.wd (rx.mono tr.w) ry e3 _ (post_nw hs' q)
theorem se_un {r : V → Hp → VK → Prop} {op : D → Option D} {ta : TE} {ma : MM D} (ho : RUn c r op) (ha : SE c ta ma) : SE c (tUn r ta) (bnd ma fun a => lft (op a)) := by
  intro ρ rr e s σ hs Q q
  refine sx_go (t := ta) ha e hs q fun x a ρ s e hs rx q tr => ?_
  obtain ⟨d, e3, rfl⟩ := lft_cases e
  exact ho _ _ x a d hs.wd rx e3 _ (post_nw hs q)
/-- a value, then a step of its own -/
theorem se_then {r : V → Hp → VK → Prop} {op : D → Option D} {ta : TE} {ma : MM D} (ho : RUn c r op) (ha : SE c ta ma) : SE c (fun σ H Q => ta σ H fun x H1 => r x H1 Q) (bnd ma fun a => lft (op a)) := se_un ho ha
theorem se_cb {r : List V → Hp → VK → Prop} {op : List D → Option D} {ta : TA} {ma : MM (List D)} (ho : RCa c r op) (ha : SA c ta ma) : SE c (tCB r ta) (bnd ma fun a => lft (op a)) := by
  intro ρ rr e s σ hs Q q
  refine sx_go (t := ta) ha e hs q fun x a ρ s e hs rx q tr => ?_
  obtain ⟨d, e3, rfl⟩ := lft_cases e
  exact ho _ _ x a d hs.wd rx e3 _ (post_nw hs q)
theorem sa_nil : SA c tNil (ret []) := by
  intro ρ r e s σ hs Q q
  cases e
  exact q [] s hs .refl .nil
theorem sa_cons {te : TE} {t : TA} {m : MM D} {ms : MM (List D)} (h : SE c te m) (hr : SA c t ms) : SA c (tCons te t) (bnd m fun d => bnd ms fun ds => ret (d :: ds)) := by
  intro ρ rr e s σ hs Q q
  refine sx_go (t := te) h e hs q fun x a ρ s e hs rx q tr => ?_
  refine sx_go (t := t) hr e hs q fun y b ρ' s' e hs' ry q tr => ?_
  cases e
  exact q _ s' hs' .refl (.cons (rx.mono tr.w) ry)

def cap : Nat := 100000
theorem cap_le {n : Nat} (h : n ≤ cap) : n ≤ sizeLine := Nat.le_trans h (by decide)
theorem cap_lt {n : Nat} (h : n < cap) : n < sizeLine := Nat.lt_of_lt_of_le h (by decide)
def mTup (ds : List D) : Option D := if ds.length ≤ cap then some (.tup ds) else none
def mLst (ds : List D) : Option D := if ds.length ≤ cap then some (.lst ds) else none
theorem mTup_some {ds : List D} {d : D} (h : mTup ds = some d) : ds.length ≤ cap ∧ d = .tup ds := by
  unfold mTup at h; split at h
  · rename_i q; exact ⟨q, (Option.some.inj h).symm⟩
  · cases h
theorem mLst_some {ds : List D} {d : D} (h : mLst ds = some d) : ds.length ≤ cap ∧ d = .lst ds := by
  unfold mLst at h; split at h
  · rename_i q; exact ⟨q, (Option.some.inj h).symm⟩
  · cases h
/-- a new tuple, a new list, known for good -/
theorem rx_tup {W H : Hp} {vs : List V} {ds : List D} (w : Wd c W H) (r : Reps c.K W vs ds) : RX c (Rep c.K) (fun H Q => ∀ p, H p = none → Q (.ref p) (upd H p (.tup vs))) W H (.tup ds) := fun Q q p hp => by
  have n := Nw.new (o := .tup vs) w.ex w.nt w.tb hp (fun _ z => nomatch z)
  exact q _ _ _ n (.tup (.inl (.inl upd_same)) (r.mono n.w))
theorem rx_lst {W H : Hp} {vs : List V} {ds : List D} (w : Wd c W H) (r : Reps c.K W vs ds) : RX c (Rep c.K) (fun H Q => ∀ p, H p = none → Q (.ref p) (upd H p (.lst vs))) W H (.lst ds) := fun Q q p hp => by
  have n := Nw.new (o := .lst vs) w.ex w.nt w.tb hp (fun _ z => nomatch z)
  exact q _ _ _ n (.lst upd_same (r.mono n.w))
theorem se_tup {t : TA} {ms : MM (List D)} (h : SA c t ms) : SE c (tTup t) (bnd ms fun ds => lft (mTup ds)) := by
  intro ρ rr e s σ hs Q q
  refine sx_go (t := t) h e hs q fun xs ds ρ s e hs rx q tr => ?_
  obtain ⟨d, e3, rfl⟩ := lft_cases e
  obtain ⟨hl, rfl⟩ := mTup_some e3
  exact ⟨cap_le (by rw [rx.length]; exact hl), rx_tup hs.wd rx _ (post_nw hs q)⟩
theorem se_lst {t : TA} {ms : MM (List D)} (h : SA c t ms) : SE c (tLst t) (bnd ms fun ds => lft (mLst ds)) := by
  intro ρ rr e s σ hs Q q
  refine sx_go (t := t) h e hs q fun xs ds ρ s e hs rx q tr => ?_
  obtain ⟨d, e3, rfl⟩ := lft_cases e
  obtain ⟨hl, rfl⟩ := mLst_some e3
  exact ⟨cap_le (by rw [rx.length]; exact hl), rx_lst hs.wd rx _ (post_nw hs q)⟩

/-! ### tests -/
def asB : D → Option Bool
  | .bl b => some b
  | _ => none
theorem st_val {te : TE} {m : MM D} (h : SE c te m) : ST c (tB te) (bnd m fun d => lft (asB d)) := by
  intro ρ rr e s σ hs Q q
  refine sx_go (t := te) h e hs q fun x a ρ s e hs rx q tr => ?_
  obtain ⟨b, e3, rfl⟩ := lft_cases e
  cases a <;> cases e3
  cases rx
  exact ⟨_, rfl, q _ s hs .refl rfl⟩
theorem st_test {te : TE} {m : MM D} (h : SE c te m) : ST c (tTest te) (bnd m fun d => lft (asB d)) := by
  intro ρ rr e s σ hs Q q
  refine sx_go (t := te) h e hs q fun x a ρ s e hs rx q tr => ?_
  obtain ⟨b, e3, rfl⟩ := lft_cases e
  cases a <;> cases e3
  cases rx
  exact ⟨_, rfl, q _ s hs .refl rfl⟩
theorem st_and {t u : TT} {m n : MM Bool} (h : ST c t m) (k : ST c u n) : ST c (tAnd t u) (bnd m fun a => if a = true then n else ret false) := by
  intro ρ rr e s σ hs Q q
  refine sx_go (t := t) h e hs q fun x a ρ s e hs rx q tr => ?_
  subst rx
  cases x with
  | true => exact k ρ _ e s σ hs Q q
  | false => cases e; exact q false s hs .refl rfl
theorem st_or {t u : TT} {m n : MM Bool} (h : ST c t m) (k : ST c u n) : ST c (tOr t u) (bnd m fun a => if a = true then ret true else n) := by
  intro ρ rr e s σ hs Q q
  refine sx_go (t := t) h e hs q fun x a ρ s e hs rx q tr => ?_
  subst rx
  cases x with
  | true => cases e; exact q true s hs .refl rfl
  | false => exact k ρ _ e s σ hs Q q
theorem st_not {t : TT} {m : MM Bool} (h : ST c t m) : ST c (tNot t) (bnd m fun a => ret (!a)) := by
  intro ρ rr e s σ hs Q q
  refine sx_go (t := t) h e hs q fun x a ρ s e hs rx q tr => ?_
  subst rx
  cases e
  exact q _ s hs .refl rfl
theorem se_and {ta tb : TE} {m n : MM D} (h : SE c ta m) (k : SE c tb n) : SE c (tAndV ta tb) (bnd m fun a => bnd (lft (asB a)) fun b => if b = true then n else ret (.bl false)) := by
  intro ρ rr e s σ hs Q q
  refine sx_go (t := ta) h e hs q fun x a ρ s e hs rx q tr => ?_
  cases a <;> try (cases e; done)
  rename_i b
  cases rx
  refine ⟨b, rfl, ?_⟩
  cases b with
  | true => exact k ρ _ e s σ hs Q q
  | false => cases e; exact q _ s hs .refl (.bl _)
theorem se_or {ta tb : TE} {m n : MM D} (h : SE c ta m) (k : SE c tb n) : SE c (tOrV ta tb) (bnd m fun a => bnd (lft (asB a)) fun b => if b = true then ret (.bl true) else n) := by
  intro ρ rr e s σ hs Q q
  refine sx_go (t := ta) h e hs q fun x a ρ s e hs rx q tr => ?_
  cases a <;> try (cases e; done)
  rename_i b
  cases rx
  refine ⟨b, rfl, ?_⟩
  cases b with
  | true => cases e; exact q _ s hs .refl (.bl _)
  | false => exact k ρ _ e s σ hs Q q
theorem se_not {ta : TE} {m : MM D} (h : SE c ta m) : SE c (tNotV ta) (bnd m fun a => bnd (lft (asB a)) fun b => ret (.bl (!b))) := by
  intro ρ rr e s σ hs Q q
  refine sx_go (t := ta) h e hs q fun x a ρ s e hs rx q tr => ?_
  cases a <;> try (cases e; done)
  rename_i b
  cases rx
  cases e
  exact ⟨b, rfl, q _ s hs .refl (.bl _)⟩
theorem se_if {t : TT} {ta tb : TE} {m : MM Bool} {ma mb : MM D} (h : ST c t m) (ha : SE c ta ma) (hb : SE c tb mb) : SE c (tIf t ta tb) (bnd m fun a => if a = true then ma else mb) := by
  intro ρ rr e s σ hs Q q
  refine sx_go (t := t) h e hs q fun x a ρ s e hs rx q tr => ?_
  subst rx
  cases x with
  | true => exact ha ρ _ e s σ hs Q q
  | false => exact hb ρ _ e s σ hs Q q
end
end PD
end
section
set_option maxHeartbeats 0
namespace PD
open PySem L2

/-! ### statements -/
inductive Out where
  | nx (ρ : Env) | rt (d : D) (ρ : Env) | bk (ρ : Env) | ct (ρ : Env) | er (x : Str) (ρ : Env)
abbrev MS := Env → Option Out
section
variable (c : Cc)
def PostS (E : Ends) (s : Ws) : Out → Prop
  | .nx ρ => ∀ s' σ', SR c.K c.tb ρ s' σ' → Tr c.P s s' → E.nx σ' s'.H
  | .rt d ρ => ∀ v s' σ', SR c.K c.tb ρ s' σ' → Tr c.P s s' → Rep c.K s'.W v d → E.rt v s'.H
  | .bk ρ => ∀ s' σ', SR c.K c.tb ρ s' σ' → Tr c.P s s' → E.bk σ' s'.H
  | .ct ρ => ∀ s' σ', SR c.K c.tb ρ s' σ' → Tr c.P s s' → E.ct σ' s'.H
  | .er x ρ => ∀ s' σ', SR c.K c.tb ρ s' σ' → Tr c.P s s' → c.xw x σ' s'.H
def SS (t : TS) (m : MS) : Prop := ∀ ρ o, m ρ = some o → ∀ s σ, SR c.K c.tb ρ s σ → ∀ E : Ends, PostS c E s o → t E σ s.H
/-- a target -/
def SG (g : TG) (m : D → Env → Option Env) : Prop := ∀ d ρ ρ', m d ρ = some ρ' → ∀ v s σ, SR c.K c.tb ρ s σ → Rep c.K s.W v d → ∀ Q : L2.St → Hp → Prop, (∀ s' σ', SR c.K c.tb ρ' s' σ' → Tr c.P s s' → Q σ' s'.H) → g v σ s.H Q
def SGs (g : TGs) (m : List D → Env → Option Env) : Prop := ∀ ds ρ ρ', m ds ρ = some ρ' → ∀ vs s σ, SR c.K c.tb ρ s σ → Reps c.K s.W vs ds → ∀ Q : L2.St → Hp → Prop, (∀ s' σ', SR c.K c.tb ρ' s' σ' → Tr c.P s s' → Q σ' s'.H) → g vs σ s.H Q
end
section
variable {c : Cc}
theorem PostS.after {E : Ends} {s s1 : Ws} {o : Out} (h : PostS c E s o) (t : Tr c.P s s1) : PostS c E s1 o := by
  cases o with
  | nx ρ => exact fun s' σ' a b => h s' σ' a (t.trans b)
  | rt d ρ => exact fun v s' σ' a b => h v s' σ' a (t.trans b)
  | bk ρ => exact fun s' σ' a b => h s' σ' a (t.trans b)
  | ct ρ => exact fun s' σ' a b => h s' σ' a (t.trans b)
  | er x ρ => exact fun s' σ' a b => h s' σ' a (t.trans b)
/-- the end of an expression in a statement -/
def mE {α : Type} (m : MM α) (f : α → MS) : MS := fun ρ => match m ρ with
  | some (.ok a ρ') => f a ρ'
  | some (.er x ρ') => some (.er x ρ')
  | none => none
theorem mE_cases {α : Type} {m : MM α} {f : α → MS} {ρ : Env} {o : Out} (h : mE m f ρ = some o) : (∃ a ρ', m ρ = some (.ok a ρ') ∧ f a ρ' = some o) ∨ (∃ x ρ', m ρ = some (.er x ρ') ∧ o = .er x ρ') := by
  unfold mE at h
  split at h
  · rename_i a ρ' e; exact .inl ⟨a, ρ', e, h⟩
  · rename_i x ρ' e; exact .inr ⟨x, ρ', e, (Option.some.inj h).symm⟩
  · cases h
theorem mE_ok {α : Type} {m : MM α} {f : α → MS} {ρ ρ' : Env} {a : α} (h : m ρ = some (.ok a ρ')) : mE m f ρ = f a ρ' := by unfold mE; rw [h]
theorem ss_go {τ δ : Type} {rep : Hp → τ → δ → Prop} {t : TX τ} {m : MM δ} {f : δ → MS} {ρ : Env} {o : Out} {s : Ws} {σ : L2.St} {E : Ends} {R : τ → Hp → Prop} (h : Sx c rep t m) (e : mE m f ρ = some o) (hs : SR c.K c.tb ρ s σ)
    (q : PostS c E s o) (hk : ∀ v d ρ' s', f d ρ' = some o → SR c.K c.tb ρ' s' σ → rep s'.W v d → PostS c E s' o → Tr c.P s s' → R v s'.H) : t σ s.H R := by
  rcases mE_cases e with ⟨d, ρ', e1, e2⟩ | ⟨x, ρ', e1, rfl⟩
  · exact h ρ _ e1 s σ hs _ fun v s' a b kk => hk v d ρ' s' e2 a kk (q.after b) b
  · exact h ρ _ e1 s σ hs _ fun s' a b => q s' σ a b

def mNext : MS := fun ρ => some (.nx ρ)
theorem ss_next : SS c tNext mNext := by
  intro ρ o e s σ hs E q
  cases e
  exact q s σ hs .refl
def mSeq (m n : MS) : MS := fun ρ => match m ρ with
  | some (.nx ρ') => n ρ'
  | o => o
theorem mSeq_nx {m n : MS} {ρ ρ' : Env} (h : m ρ = some (.nx ρ')) : mSeq m n ρ = n ρ' := by unfold mSeq; rw [h]
theorem ss_seq {t u : TS} {m n : MS} (h : SS c t m) (k : SS c u n) : SS c (tSeq t u) (mSeq m n) := by
  intro ρ o e s σ hs E q
  unfold mSeq at e
  split at e
  · rename_i ρ' e1
    exact h ρ _ e1 s σ hs _ fun s' σ' a b => k ρ' o e s' σ' a E (q.after b)
  · rename_i e1
    refine h ρ _ e s σ hs _ ?_
    cases o with
    | nx ρ' => exact absurd e (e1 ρ')
    | rt d ρ' => exact q
    | bk ρ' => exact q
    | ct ρ' => exact q
    | er x ρ' => exact q
def mIf (t : MM Bool) (m n : MS) : MS := mE t fun b => if b = true then m else n
theorem ss_if {tc : TT} {t u : TS} {mt : MM Bool} {m n : MS} (h : ST c tc mt) (k1 : SS c t m) (k2 : SS c u n) : SS c (tIfS tc t u) (mIf mt m n) := by
  intro ρ o e s σ hs E q
  refine ss_go (t := tc) h e hs q fun b d ρ s e hs rx q tr => ?_
  subst rx
  cases b with
  | true => exact k1 ρ o e s σ hs E q
  | false => exact k2 ρ o e s σ hs E q
def mRet (m : MM D) : MS := mE m fun d ρ => some (.rt d ρ)
theorem ss_ret {te : TE} {m : MM D} (h : SE c te m) : SS c (tRet te) (mRet m) := by
  intro ρ o e s σ hs E q
  refine ss_go (t := te) h e hs q fun v d ρ s e hs rx q tr => ?_
  cases e
  exact q v s σ hs .refl rx
def mRetN : MS := fun ρ => some (.rt .non ρ)
theorem ss_retN : SS c tRetN mRetN := by
  intro ρ o e s σ hs E q
  cases e
  exact q _ s σ hs .refl .non
def mDrop {α : Type} (m : MM α) : MS := mE m fun _ ρ => some (.nx ρ)
theorem ss_drop {te : TE} {m : MM D} (h : SE c te m) : SS c (tDrop te) (mDrop m) := by
  intro ρ o e s σ hs E q
  refine ss_go (t := te) h e hs q fun v d ρ s e hs rx q tr => ?_
  cases e
  exact q s σ hs .refl
def mBreak : MS := fun ρ => some (.bk ρ)
def mCont : MS := fun ρ => some (.ct ρ)
theorem ss_break : SS c tBreak mBreak := by
  intro ρ o e s σ hs E q
  cases e
  exact q s σ hs .refl
theorem ss_cont : SS c tCont mCont := by
  intro ρ o e s σ hs E q
  cases e
  exact q s σ hs .refl
def mNever : MS := fun _ => none
theorem ss_never : SS c tNever mNever := by
  intro ρ o e
  cases e

/-! ### stores -/
def setD (i : Nat) (d : D) (ρ : Env) : Option Env := if i < ρ.length then some (ρ.set i (.dat d)) else none
theorem getElem_set {α : Type} {l : List α} {i j : Nat} {a b : α} (h : (l.set i a)[j]? = some b) : (j = i ∧ b = a ∧ i < l.length) ∨ (j ≠ i ∧ l[j]? = some b) := by
  by_cases e : j = i
  · subst e
    have hl := (List.getElem?_eq_some_iff.mp h).1
    rw [List.length_set] at hl
    rw [List.getElem?_set_self hl] at h
    exact .inl ⟨rfl, (Option.some.inj h).symm, hl⟩
  · rw [List.getElem?_set_ne (Ne.symm e)] at h
    exact .inr ⟨e, h⟩
theorem setV_self {σ : L2.St} {i : Nat} {o : Option V} (h : i < σ.length) : (((σ.set i o)[i]?).getD none) = o := by rw [List.getElem?_set_self h]; rfl
theorem setV_ne {σ : L2.St} {i j : Nat} {o : Option V} (h : j ≠ i) : (σ.set i o)[j]? = σ[j]? := List.getElem?_set_ne (Ne.symm h)
/-- what slot i held is let go; the heap, what is known stay -/
theorem SR.letgo {ρ : Env} {s : Ws} {σ : L2.St} {i : Nat} {ov : Option V} {l : Loc} {oa : Option Addr} (h : SR c.K c.tb ρ s σ) (hi : i < ρ.length) (hl : LocOk c.K s.W s.H ov oa l) (hn : ∀ p, oa = some p → ∀ j, s.A j ≠ some p) :
    SR c.K c.tb (ρ.set i l) ⟨s.W, s.H, updA s.A i oa⟩ (σ.set i ov) := by
  refine ⟨by rw [List.length_set, List.length_set]; exact h.len, fun j k e => ?_, fun j hj => ?_, fun j k p a b => ?_, h.ex, h.nt, h.tb⟩
  · rcases getElem_set e with ⟨rfl, rfl, _⟩ | ⟨hj, e⟩
    · show LocOk c.K s.W s.H _ (updA s.A j oa j) k
      rw [updA_same, setV_self (by rw [h.len]; exact hi)]
      exact hl
    · show LocOk c.K s.W s.H _ (updA s.A i oa j) k
      rw [updA_ne hj, setV_ne hj]
      exact h.loc j k e
  · rw [List.length_set] at hj
    show updA s.A i oa j = none
    rw [updA_ne (by omega)]
    exact h.out j hj
  · have a' : updA s.A i oa j = some p := a
    have b' : updA s.A i oa k = some p := b
    by_cases hj : j = i
    · by_cases hk : k = i
      · rw [hj, hk]
      · rw [hj, updA_same] at a'
        rw [updA_ne hk] at b'
        exact absurd b' (hn p a' k)
    · by_cases hk : k = i
      · rw [hk, updA_same] at b'
        rw [updA_ne hj] at a'
        exact absurd a' (hn p b' j)
      · rw [updA_ne hj] at a'
        rw [updA_ne hk] at b'
        exact h.inj j k p a' b'
theorem tr_letgo {s : Ws} {i : Nat} {oa : Option Addr} (hP : c.P i = false) (hn : ∀ p, oa = some p → s.H p = none ∨ OwnsA s p) : Tr c.P s ⟨s.W, s.H, updA s.A i oa⟩ := by
  refine ⟨Ex.refl _, fun _ _ _ h => h, fun _ _ _ h _ => h, fun a ⟨j, hj⟩ => ?_, fun _ h => h, fun j hj => ?_⟩
  · have hj' : updA s.A i oa j = some a := hj
    by_cases e : j = i
    · rw [e, updA_same] at hj'
      exact (hn a hj').symm
    · rw [updA_ne e] at hj'
      exact .inl ⟨j, hj'⟩
  · exact updA_ne fun z => by rw [z, hP] at hj; cases hj
theorem SR.put {ρ : Env} {s : Ws} {σ : L2.St} {i : Nat} {v : V} {d : D} (h : SR c.K c.tb ρ s σ) (hi : i < ρ.length) (hP : c.P i = false) (r : Rep c.K s.W v d) :
    ∃ s', SR c.K c.tb (ρ.set i (.dat d)) s' (σ.set i (some v)) ∧ Tr c.P s s' ∧ s'.H = s.H ∧ s'.W = s.W :=
  ⟨_, h.letgo (l := .dat d) hi ⟨rfl, v, rfl, r⟩ (fun _ z => nomatch z), tr_letgo hP (fun _ z => nomatch z), rfl, rfl⟩
theorem sg_name {i : Nat} (hP : c.P i = false) : SG c (gName i) (setD i) := by
  intro d ρ ρ' e v s σ hs r Q q
  unfold setD at e
  split at e
  · rename_i hi
    cases e
    obtain ⟨s', h1, h2, h3, _⟩ := hs.put hi hP r
    have z := q s' _ h1 h2
    rw [h3] at z
    exact z
  · cases e
def setNil : List D → Env → Option Env
  | [], ρ => some ρ
  | _ :: _, _ => none
def setCons (g : D → Env → Option Env) (gs : List D → Env → Option Env) : List D → Env → Option Env
  | d :: ds, ρ => (g d ρ).bind (gs ds)
  | [], _ => none
theorem sgs_nil : SGs c gNil setNil := by
  intro ds ρ ρ' e vs s σ hs r Q q
  cases ds with
  | cons d ds => cases e
  | nil =>
    cases e
    cases r
    exact ⟨rfl, q s σ hs .refl⟩
theorem sgs_cons {t : TG} {u : TGs} {m : D → Env → Option Env} {n : List D → Env → Option Env} (h : SG c t m) (k : SGs c u n) : SGs c (gCons t u) (setCons m n) := by
  intro ds ρ ρ' e vs s σ hs r Q q
  cases ds with
  | nil => cases e
  | cons d ds =>
    obtain ⟨ρ1, e1, e2⟩ := Option.bind_eq_some_iff.mp e
    cases r with
    | cons r rr => exact ⟨_, _, rfl, h d ρ ρ1 e1 _ s σ hs r _ fun s' σ' a b => k ds ρ1 ρ' e2 _ s' σ' a (rr.mono b.w) _ fun s2 σ2 a2 b2 => q s2 σ2 a2 (b.trans b2)⟩
def setTup (n : Nat) (g : List D → Env → Option Env) : D → Env → Option Env
  | .tup ds, ρ => if ds.length = n then g ds ρ else none
  | _, _ => none
theorem sg_tup {n : Nat} {t : TGs} {m : List D → Env → Option Env} (h : SGs c t m) : SG c (gTup c.K n t) (setTup n m) := by
  intro d ρ ρ' e v s σ hs r Q q
  cases d <;> try (cases e; done)
  rename_i ds
  have e : (if ds.length = n then m ds ρ else none) = some ρ' := e
  split at e
  · rename_i hn
    cases r with
    | tup hq rr => exact ⟨_, _, rfl, hs.ex.st hq, by rw [rr.length]; exact hn, h ds ρ ρ' e _ s σ hs rr Q q⟩
  · cases e
def mAsg (m : MM D) (g : D → Env → Option Env) : MS := mE m fun d ρ => (g d ρ).map .nx
theorem ss_asg {te : TE} {g : TG} {m : MM D} {mg : D → Env → Option Env} (h : SE c te m) (k : SG c g mg) : SS c (tAsg te g) (mAsg m mg) := by
  intro ρ o e s σ hs E q
  refine ss_go (t := te) h e hs q fun v d ρ s e hs rx q tr => ?_
  obtain ⟨ρ', e1, rfl⟩ := Option.map_eq_some_iff.mp e
  exact k d ρ ρ' e1 v s σ hs rx _ q
/-- x, y = a, b -/
def mPar (i j : Nat) (m : MM (List D)) : MS := mE m fun ds ρ => match ds with
  | [a, b] => ((setD i a ρ).bind (setD j b)).map .nx
  | _ => none
theorem ss_par {i j : Nat} {ta : TA} {m : MM (List D)} (hi : c.P i = false) (hj : c.P j = false) (h : SA c ta m) : SS c (tPar i j ta) (mPar i j m) := by
  intro ρ o e s σ hs E q
  refine ss_go (t := ta) h e hs q fun vs ds ρ s e hs rx q tr => ?_
  cases rx with
  | nil => cases e
  | cons r1 rx =>
    cases rx with
    | nil => cases e
    | cons r2 rx =>
      cases rx with
      | cons _ _ => cases e
      | nil =>
        obtain ⟨ρ', e1, rfl⟩ := Option.map_eq_some_iff.mp e
        obtain ⟨ρ1, e1, e2⟩ := Option.bind_eq_some_iff.mp e1
        refine ⟨_, _, rfl, ?_⟩
        exact sg_name (c := c) hi _ ρ ρ1 e1 _ s σ hs r1 (fun σ' H' => E.nx (σ'.set j (some _)) H') fun s1 σ1 a b => sg_name (c := c) hj _ ρ1 ρ' e2 _ s1 σ1 a (r2.mono b.w) _ fun s2 σ2 a2 b2 => q s2 σ2 a2 (b.trans b2)
def mPar3 (i j l : Nat) (m : MM (List D)) : MS := mE m fun ds ρ => match ds with
  | [a, b, d] => (((setD i a ρ).bind (setD j b)).bind (setD l d)).map .nx
  | _ => none
/-- x op= e -/
def mAug (i : Nat) (op : D → D → Option D) (m : MM D) : MS := mE (bnd (rdD i) fun a => bnd m fun b => lft (op a b)) fun d ρ => (setD i d ρ).map .nx
def RIp (c : Cc) (r : TIp) (op : D → D → Option D) : Prop := ROp c r op
theorem ss_aug {i : Nat} {te : TE} {ti : TIp} {op : D → D → Option D} {m : MM D} (hi : c.P i = false) (ho : ROp c ti op) (h : SE c te m) : SS c (tAug i te ti) (mAug i op m) := by
  intro ρ o e s σ hs E q
  have z : SE c (tOp ti (tVar i) te) (bnd (rdD i) fun a => bnd m fun b => lft (op a b)) := se_op ho se_varD h
  have y := ss_go (t := tOp ti (tVar i) te) (R := fun z H2 => E.nx (σ.set i (some z)) H2) z e hs q fun v d ρ s e hs rx q tr => by
    obtain ⟨ρ', e1, rfl⟩ := Option.map_eq_some_iff.mp e
    exact sg_name (c := c) hi d ρ ρ' e1 v s σ hs rx _ q
  exact y

/-! ### loops -/
def loopL (g : D → Env → Option Env) (b : MS) : List D → MS
  | [], ρ => some (.nx ρ)
  | d :: ds, ρ => match g d ρ with
    | none => none
    | some ρ1 => match b ρ1 with
      | some (.nx ρ2) => loopL g b ds ρ2
      | some (.ct ρ2) => loopL g b ds ρ2
      | some (.bk ρ2) => some (.nx ρ2)
      | some (.rt d ρ2) => some (.rt d ρ2)
      | some (.er x ρ2) => some (.er x ρ2)
      | none => none
/-- where a loop over data stands ahead of turn i -/
def LoopAt (c : Cc) (g : D → Env → Option Env) (b : MS) (ds : List D) (s : Ws) (o : Out) (i : Nat) (σ : L2.St) (H : Hp) : Prop :=
  ∃ ρ s', SR c.K c.tb ρ s' σ ∧ s'.H = H ∧ Tr c.P s s' ∧ loopL g b (ds.drop i) ρ = some o
theorem loop_turn {g : TG} {tb : TS} {mg : D → Env → Option Env} {mb : MS} {ds : List D} {s : Ws} {o : Out} {E : Ends} (hg : SG c g mg) (hb : SS c tb mb) (q : PostS c E s o) {i : Nat} {d : D} {v : V} {σ : L2.St} {H : Hp} (hd : ds[i]? = some d) (W0 : Hp) (hr : ∀ s', Tr c.P s s' → Rep c.K s'.W v d)
    (h : LoopAt c mg mb ds s o i σ H) : g v σ H fun σ2 H2 => tb { E with nx := LoopAt c mg mb ds s o (i + 1), ct := LoopAt c mg mb ds s o (i + 1), bk := E.nx } σ2 H2 := by
  obtain ⟨ρ, s1, hs, rfl, tr, e⟩ := h
  have hi := (List.getElem?_eq_some_iff.mp hd).1
  have hd2 : ds.drop i = d :: ds.drop (i + 1) := by
    rw [List.drop_eq_getElem_cons hi, (List.getElem?_eq_some_iff.mp hd).2]
  rw [hd2] at e
  unfold loopL at e
  split at e
  · cases e
  · rename_i ρ1 e1
    refine hg d ρ ρ1 e1 v s1 σ hs (hr s1 tr) _ fun s2 σ2 hs2 tr2 => ?_
    have t2 := tr.trans tr2
    split at e
    · rename_i ρ2 e2
      exact hb ρ1 _ e2 s2 σ2 hs2 _ fun s3 σ3 a b => ⟨ρ2, s3, a, rfl, t2.trans b, e⟩
    · rename_i ρ2 e2
      exact hb ρ1 _ e2 s2 σ2 hs2 _ fun s3 σ3 a b => ⟨ρ2, s3, a, rfl, t2.trans b, e⟩
    · rename_i ρ2 e2
      cases e
      exact hb ρ1 _ e2 s2 σ2 hs2 _ fun s3 σ3 a b => q s3 σ3 a (t2.trans b)
    · rename_i d' ρ2 e2
      cases e
      exact hb ρ1 _ e2 s2 σ2 hs2 _ fun v s3 σ3 a b r => q v s3 σ3 a (t2.trans b) r
    · rename_i x ρ2 e2
      cases e
      exact hb ρ1 _ e2 s2 σ2 hs2 _ fun s3 σ3 a b => q s3 σ3 a (t2.trans b)
    · cases e
theorem loop_end {mg : D → Env → Option Env} {mb : MS} {ds : List D} {s : Ws} {o : Out} {E : Ends} (q : PostS c E s o) {σ : L2.St} {H : Hp} (h : LoopAt c mg mb ds s o ds.length σ H) : E.nx σ H := by
  obtain ⟨ρ, s1, hs, rfl, tr, e⟩ := h
  rw [List.drop_length] at e
  cases e
  exact q s1 σ hs tr
/-- what is walked -/
def elems : D → Option (List D)
  | .tup ds => some ds
  | .lst ds => some ds
  | _ => none
def mFor (m : MM D) (g : D → Env → Option Env) (b : MS) : MS := mE m fun d => match elems d with
  | some ds => loopL g b ds
  | none => fun _ => none
theorem ss_forL {tl : TE} {g : TG} {tb : TS} {m : MM D} {mg : D → Env → Option Env} {mb : MS} (h : SE c tl m) (hg : SG c g mg) (hb : SS c tb mb) : SS c (tFor (fun σ H R => tl σ H fun x H1 => ∃ a, x = .ref a ∧ (((∃ xs, SqL c.K H1 a xs) ∧ R (Itl c.K a) H1) ∨ ((∃ xs, SqT c.K H1 a xs) ∧ R (Itt c.K a) H1))) g tb) (mFor m mg mb) := by
  intro ρ o e s σ hs E q
  refine ss_go (t := tl) h e hs q fun v d ρ s e hs rx q tr => ?_
  cases d <;> try (cases e; done)
  · rename_i ds
    cases rx with
    | @tup a vs _ hq rr =>
      have e' : loopL mg mb ds ρ = some o := e
      refine ⟨a, rfl, .inr ⟨⟨vs, hs.ex.st hq⟩, for_tup (K := c.K) (a := a) (xs := vs) (LoopAt c mg mb ds s o) ⟨ρ, s, hs, rfl, .refl, e'⟩ (fun i σ H _ ⟨ρ', s', hs', eH, tr', _⟩ => eH ▸ hs'.ex.st (tr'.w.st hq)) (fun i x σ H hx hp => ?_) fun σ H hp => ?_⟩⟩
      · obtain ⟨d, hd, rd'⟩ := rr.get hx
        exact loop_turn hg hb q hd s.W (fun s' t => rd'.mono t.w) hp
      · rw [rr.length] at hp
        exact loop_end q hp
  · rename_i ds
    cases rx with
    | @lst a vs _ hq rr =>
      have e' : loopL mg mb ds ρ = some o := e
      have hq' : SqL c.K s.W a vs := .inl (.inl hq)
      refine ⟨a, rfl, .inl ⟨⟨vs, hs.ex.sl hq'⟩, for_list (K := c.K) (a := a) (xs := vs) (LoopAt c mg mb ds s o) ⟨ρ, s, hs, rfl, .refl, e'⟩ (fun i σ H _ ⟨ρ', s', hs', eH, tr', _⟩ => eH ▸ hs'.ex.sl (tr'.w.sl hq')) (fun i x σ H hx hp => ?_) fun σ H hp => ?_⟩⟩
      · obtain ⟨d, hd, rd'⟩ := rr.get hx
        exact loop_turn hg hb q hd s.W (fun s' t => rd'.mono t.w) hp
      · rw [rr.length] at hp
        exact loop_end q hp
def rangeD (lo : Int) (n : Nat) : List D := (List.range n).map fun (i : Nat) => .int (lo + (i : Int))
theorem rangeD_get {lo : Int} {n i : Nat} (h : i < n) : (rangeD lo n)[i]? = some (.int (lo + (i : Int))) := by
  unfold rangeD
  rw [List.getElem?_map, List.getElem?_range h]
  rfl
theorem rangeD_len {lo : Int} {n : Nat} : (rangeD lo n).length = n := by unfold rangeD; rw [List.length_map, List.length_range]
/-- the ints of a range, within the bounds that the rules ask -/
def rgOk (i : Int) : Bool := decide (-(2 ^ 62) ≤ i) && decide (i < 2 ^ 62)
theorem rgOk_of {i : Int} (h : rgOk i = true) : -(2 ^ 62) ≤ i ∧ i < 2 ^ 62 := by
  unfold rgOk at h
  rw [Bool.and_eq_true] at h
  exact ⟨of_decide_eq_true h.1, of_decide_eq_true h.2⟩
def rg1 : List D → Option (List D)
  | [.int j] => if rgOk j = true then some (rangeD 0 j.toNat) else none
  | _ => none
def rg2 : List D → Option (List D)
  | [.int i, .int j] => if rgOk i = true ∧ rgOk j = true then some (rangeD i (j - i).toNat) else none
  | _ => none
def mForR (rg : List D → Option (List D)) (m : MM (List D)) (g : D → Env → Option Env) (b : MS) : MS := mE m fun ds => match rg ds with
  | some ds => loopL g b ds
  | none => fun _ => none
theorem for_rg {g : TG} {tb : TS} {mg : D → Env → Option Env} {mb : MS} {lo : Int} {n : Nat} {s : Ws} {o : Out} {E : Ends} {ρ : Env} {σ : L2.St} (hg : SG c g mg) (hb : SS c tb mb) (hs : SR c.K c.tb ρ s σ) (q : PostS c E s o) (e : loopL mg mb (rangeD lo n) ρ = some o) :
    ∃ W : Nat → Nat → L2.St → Hp → Prop, (∃ m, W 0 m σ s.H) ∧ ∀ i m σ H, W i m σ H →
      ((Itr lo n).stop i H ∧ E.nx σ H) ∨ ((Itr lo n).go i H ∧ ∃ N : L2.St → Hp → Prop, (∀ σ' H', N σ' H' → ∃ m', m' < m ∧ W (i + 1) m' σ' H') ∧ ∀ x H', (Itr lo n).yld i H x H' → g x σ H' fun σ2 H2 => tb { E with nx := N, ct := N, bk := E.nx } σ2 H2) :=
  for_range (lo := lo) (n := n) (LoopAt c mg mb (rangeD lo n) s o) ⟨ρ, s, hs, rfl, .refl, e⟩ (fun i σ H hi hp => loop_turn hg hb q (rangeD_get hi) s.W (fun s' _ => .int _) hp) fun σ H hp => loop_end q (by rw [rangeD_len]; exact hp)
theorem ss_for1 {ta : TA} {g : TG} {tb : TS} {m : MM (List D)} {mg : D → Env → Option Env} {mb : MS} (h : SA c ta m) (hg : SG c g mg) (hb : SS c tb mb) : SS c (tFor (iRng1 ta) g tb) (mForR rg1 m mg mb) := by
  intro ρ o e s σ hs E q
  refine ss_go (t := ta) h e hs q fun vs ds ρ s e hs rx q tr => ?_
  cases rx with
  | nil => cases e
  | cons r1 rx =>
    cases rx with
    | cons _ _ => cases r1 <;> cases e
    | nil =>
      cases r1 <;> try (cases e; done)
      rename_i j
      by_cases hj : rgOk j = true
      · have e' : loopL mg mb (rangeD 0 j.toNat) ρ = some o := by
          have z : rg1 [.int j] = some (rangeD 0 j.toNat) := if_pos hj
          simp only [z] at e
          exact e
        exact ⟨j, rfl, (rgOk_of hj).1, (rgOk_of hj).2, for_rg hg hb hs q e'⟩
      · have z : rg1 [.int j] = none := if_neg hj
        simp only [z] at e
        cases e
theorem ss_for2 {ta : TA} {g : TG} {tb : TS} {m : MM (List D)} {mg : D → Env → Option Env} {mb : MS} (h : SA c ta m) (hg : SG c g mg) (hb : SS c tb mb) : SS c (tFor (iRng2 ta) g tb) (mForR rg2 m mg mb) := by
  intro ρ o e s σ hs E q
  refine ss_go (t := ta) h e hs q fun vs ds ρ s e hs rx q tr => ?_
  cases rx with
  | nil => cases e
  | cons r1 rx =>
    cases rx with
    | nil => cases r1 <;> cases e
    | cons r2 rx =>
      cases rx with
      | cons _ _ => cases r1 <;> cases r2 <;> cases e
      | nil =>
        cases r1 <;> try (cases e; done)
        cases r2 <;> try (cases e; done)
        rename_i i j
        by_cases hj : rgOk i = true ∧ rgOk j = true
        · have e' : loopL mg mb (rangeD i (j - i).toNat) ρ = some o := by
            have z : rg2 [.int i, .int j] = some (rangeD i (j - i).toNat) := if_pos hj
            simp only [z] at e
            exact e
          exact ⟨i, j, rfl, ⟨(rgOk_of hj.1).1, (rgOk_of hj.1).2, (rgOk_of hj.2).1, (rgOk_of hj.2).2⟩, for_rg hg hb hs q e'⟩
        · have z : rg2 [.int i, .int j] = none := if_neg hj
          simp only [z] at e
          cases e
def loopW (t : MM Bool) (b : MS) : Nat → MS
  | 0, _ => none
  | n + 1, ρ => match t ρ with
    | some (.ok true ρ1) => match b ρ1 with
      | some (.nx ρ2) => loopW t b n ρ2
      | some (.ct ρ2) => loopW t b n ρ2
      | some (.bk ρ2) => some (.nx ρ2)
      | some (.rt d ρ2) => some (.rt d ρ2)
      | some (.er x ρ2) => some (.er x ρ2)
      | none => none
    | some (.ok false ρ1) => some (.nx ρ1)
    | some (.er x ρ1) => some (.er x ρ1)
    | none => none
def mWhile (fuel : Env → Nat) (t : MM Bool) (b : MS) : MS := fun ρ => loopW t b (fuel ρ) ρ
theorem ss_while {tc : TT} {tb : TS} {mt : MM Bool} {mb : MS} {fuel : Env → Nat} (h : ST c tc mt) (hb : SS c tb mb) : SS c (tWhile tc tb) (mWhile fuel mt mb) := by
  intro ρ o e s σ hs E q
  refine ⟨fun m σ H => ∃ ρ' s', SR c.K c.tb ρ' s' σ ∧ s'.H = H ∧ Tr c.P s s' ∧ loopW mt mb m ρ' = some o, ⟨fuel ρ, ρ, s, hs, rfl, .refl, e⟩, ?_⟩
  rintro m σ H ⟨ρ1, s1, hs1, rfl, tr1, e⟩
  cases m with
  | zero => cases e
  | succ m =>
    unfold loopW at e
    split at e
    · rename_i ρ2 e2
      refine h ρ1 _ e2 s1 σ hs1 _ fun b s2 hs2 tr2 hb' => ?_
      subst hb'
      refine ⟨fun σ H => ∃ ρ' s', SR c.K c.tb ρ' s' σ ∧ s'.H = H ∧ Tr c.P s s' ∧ loopW mt mb m ρ' = some o, fun σ' H' z => ⟨m, Nat.lt_succ_self m, z⟩, ?_⟩
      have t2 := tr1.trans tr2
      split at e
      · rename_i ρ3 e3
        exact hb ρ2 _ e3 s2 σ hs2 _ fun s3 σ3 a b => ⟨ρ3, s3, a, rfl, t2.trans b, e⟩
      · rename_i ρ3 e3
        exact hb ρ2 _ e3 s2 σ hs2 _ fun s3 σ3 a b => ⟨ρ3, s3, a, rfl, t2.trans b, e⟩
      · rename_i ρ3 e3
        cases e
        exact hb ρ2 _ e3 s2 σ hs2 _ fun s3 σ3 a b => q s3 σ3 a (t2.trans b)
      · rename_i d' ρ3 e3
        cases e
        exact hb ρ2 _ e3 s2 σ hs2 _ fun v s3 σ3 a b r => q v s3 σ3 a (t2.trans b) r
      · rename_i x ρ3 e3
        cases e
        exact hb ρ2 _ e3 s2 σ hs2 _ fun s3 σ3 a b => q s3 σ3 a (t2.trans b)
      · cases e
    · rename_i ρ2 e2
      cases e
      refine h ρ1 _ e2 s1 σ hs1 _ fun b s2 hs2 tr2 hb' => ?_
      subst hb'
      exact q s2 σ hs2 (tr1.trans tr2)
    · rename_i x ρ2 e2
      cases e
      exact h ρ1 _ e2 s1 σ hs1 _ fun s2 hs2 tr2 => q s2 σ hs2 (tr1.trans tr2)
    · cases e
end
end PD
end
section
set_option maxHeartbeats 0
namespace PD
open PySem L2
section
variable {c : Cc}
theorem SR.there {ρ : Env} {s : Ws} {σ : L2.St} {i : Nat} {p : Addr} (h : SR c.K c.tb ρ s σ) (e : s.A i = some p) : ∃ u, s.H p = some u ∧ NTbl u := by
  by_cases hi : i < ρ.length
  · have q := h.loc i ρ[i] (List.getElem?_eq_getElem hi)
    revert q
    cases ρ[i] with
    | non => intro q; rw [show s.A i = none from q] at e; cases e
    | dat d => intro q; rw [q.1] at e; cases e
    | own o => rintro ⟨p', h1, _, _, h4⟩; rw [h1] at e; cases e; exact h4.there
    | pin o => rintro ⟨p', h1, _, _, h4⟩; rw [h1] at e; cases e; exact h4.there
  · rw [h.out i (by omega)] at e; cases e
theorem SR.free {ρ : Env} {s : Ws} {σ : L2.St} {p : Addr} (h : SR c.K c.tb ρ s σ) (e : s.H p = none) : ¬ OwnsA s p := fun ⟨i, hi⟩ => by
  obtain ⟨u, hu, _⟩ := h.there hi
  rw [e] at hu; cases hu
theorem SR.wfree {ρ : Env} {s : Ws} {σ : L2.St} {p : Addr} (h : SR c.K c.tb ρ s σ) (e : s.H p = none) : s.W p = none := by
  cases q : s.W p with
  | none => rfl
  | some u => rw [h.ex p u q] at e; cases e

/-! ### what is made anew, for a slot's own -/
section
variable (c)
def PostF (s : Ws) (σ : L2.St) (Q : VK) : Res Own → Prop
  | .ok o ρ' => ∀ p s', SR c.K c.tb ρ' s' σ → Tr c.P s s' → s.H p = none → s'.W p = none → ¬ OwnsA s' p → OwnOk c.K s'.W s'.H p o → Q (.ref p) s'.H
  | .er x ρ' => ∀ s', SR c.K c.tb ρ' s' σ → Tr c.P s s' → c.xw x σ s'.H
def SF (te : TE) (m : MM Own) : Prop := ∀ ρ r, m ρ = some r → ∀ s σ, SR c.K c.tb ρ s σ → ∀ Q, PostF c s σ Q r → te σ s.H Q
end
theorem PostF.after {s s1 : Ws} {σ : L2.St} {Q : VK} {r : Res Own} (h : PostF c s σ Q r) (t : Tr c.P s s1) : PostF c s1 σ Q r := by
  cases r with
  | ok d ρ' => exact fun p s' a b hp k1 k2 k3 => h p s' a (t.trans b) (by
      cases e : s.H p with
      | none => rfl
      | some u => exact absurd hp (t.p p (by rw [e]; exact fun z => nomatch z))) k1 k2 k3
  | er x ρ' => exact fun s' a b => h s' a (t.trans b)
theorem sf_go {τ δ : Type} {rep : Hp → τ → δ → Prop} {t : TX τ} {m : MM δ} {f : δ → MM Own} {ρ : Env} {r : Res Own} {s : Ws} {σ : L2.St} {Q2 : VK} {R : τ → Hp → Prop} (h : Sx c rep t m) (e : bnd m f ρ = some r) (hs : SR c.K c.tb ρ s σ)
    (q : PostF c s σ Q2 r) (hk : ∀ v d ρ' s', f d ρ' = some r → SR c.K c.tb ρ' s' σ → rep s'.W v d → PostF c s' σ Q2 r → Tr c.P s s' → R v s'.H) : t σ s.H R := by
  rcases bnd_cases e with ⟨d, ρ', e1, e2⟩ | ⟨x, ρ', e1, rfl⟩
  · exact h ρ _ e1 s σ hs _ fun v s' a b kk => hk v d ρ' s' e2 a kk (q.after b) b
  · exact h ρ _ e1 s σ hs _ fun s' a b => q s' a b
theorem post_own {ρ : Env} {s : Ws} {σ : L2.St} {Q : VK} {vs : List V} {ds : List D} (hs : SR c.K c.tb ρ s σ) (q : PostF c s σ Q (.ok (.lst ds) ρ)) (r : Reps c.K s.W vs ds) : ∀ p, s.H p = none → Q (.ref p) (upd s.H p (.lst vs)) := fun p hp => by
  have n := Nw.own (p := p) (o := .lst vs) hs.ex hs.nt hs.tb hp
  exact q p _ (hs.nw n) (.nw n) hp (hs.wfree hp) (fun ⟨i, hi⟩ => hs.free hp ⟨i, hi⟩) ⟨vs, upd_same, r⟩
/-- a list made by values -/
def ROwn2 (c : Cc) (r : R2) (op : D → D → Option (List D)) : Prop := ∀ W H x y a b ds, Wd c W H → Rep c.K W x a → Rep c.K W y b → op a b = some ds → ∀ Q : VK, (∀ vs, Reps c.K W vs ds → (∀ p, H p = none → Q (.ref p) (upd H p (.lst vs))) → r x y H Q) ∧ ∃ vs, Reps c.K W vs ds
theorem sf_lst {t : TA} {ms : MM (List D)} (h : SA c t ms) : SF c (tLst t) (bnd ms fun ds => lft (if ds.length ≤ cap then some (.lst ds) else none)) := by
  intro ρ r e s σ hs Q q
  refine sf_go (t := t) h e hs q fun xs ds ρ s e hs rx q tr => ?_
  obtain ⟨d, e3, rfl⟩ := lft_cases e
  split at e3
  · rename_i hl
    cases e3
    exact ⟨cap_le (by rw [rx.length]; exact hl), post_own hs q rx⟩
  · cases e3
/-- a value, then a new list of it -/
theorem sf_un {r : V → Hp → VK → Prop} {op : D → Option (List D)} {ta : TE} {ma : MM D} (ho : ∀ W H x a ds, Wd c W H → Rep c.K W x a → op a = some ds → ∃ vs, Reps c.K W vs ds ∧ ∀ Q : VK, (∀ p, H p = none → Q (.ref p) (upd H p (.lst vs))) → r x H Q) (ha : SE c ta ma) :
    SF c (fun σ H Q => ta σ H fun x H1 => r x H1 Q) (bnd ma fun a => lft ((op a).map .lst)) := by
  intro ρ rr e s σ hs Q q
  refine sf_go (t := ta) ha e hs q fun x a ρ s e hs rx q tr => ?_
  obtain ⟨d, e3, rfl⟩ := lft_cases e
  obtain ⟨ds, e4, rfl⟩ := Option.map_eq_some_iff.mp e3
  obtain ⟨vs, hv, h⟩ := ho _ _ x a ds hs.wd rx e4
  exact h Q (post_own hs q hv)
theorem sf_op {r : R2} {op : D → D → Option (List D)} {ta tb : TE} {ma mb : MM D} (ho : ∀ W H x y a b ds, Wd c W H → Rep c.K W x a → Rep c.K W y b → op a b = some ds → ∃ vs, Reps c.K W vs ds ∧ ∀ Q : VK, (∀ p, H p = none → Q (.ref p) (upd H p (.lst vs))) → r x y H Q) (ha : SE c ta ma) (hb : SE c tb mb) :
    SF c (tOp r ta tb) (bnd ma fun a => bnd mb fun b => lft ((op a b).map .lst)) := by
  intro ρ rr e s σ hs Q q
  refine sf_go (t := ta) ha e hs q fun x a ρ s e hs rx q tr => ?_
  refine sf_go (t := tb) hb e hs q fun y b ρ s e hs ry q tr => ?_
  obtain ⟨d, e3, rfl⟩ := lft_cases e
  obtain ⟨ds, e4, rfl⟩ := Option.map_eq_some_iff.mp e3
  obtain ⟨vs, hv, h⟩ := ho _ _ x y a b ds hs.wd (rx.mono tr.w) ry e4
  exact h Q (post_own hs q hv)
/-- .. and known for good -/
theorem rop_of {r : R2} {op : D → D → Option (List D)} (ho : ∀ W H x y a b ds, Wd c W H → Rep c.K W x a → Rep c.K W y b → op a b = some ds → ∃ vs, Reps c.K W vs ds ∧ ∀ Q : VK, (∀ p, H p = none → Q (.ref p) (upd H p (.lst vs))) → r x y H Q) :
    ROp c r (fun a b => (op a b).map .lst) := by
  intro W H x y a b d w rx ry e Q q
  obtain ⟨ds, e4, rfl⟩ := Option.map_eq_some_iff.mp e
  obtain ⟨vs, hv, h⟩ := ho _ _ x y a b ds w rx ry e4
  exact h Q (rx_lst w hv Q q)
def mSetO (i : Nat) (m : MM Own) : MS := mE m fun o ρ => if i < ρ.length then some (.nx (ρ.set i (.own o))) else none
theorem ss_setO {i : Nat} {te : TE} {m : MM Own} (hP : c.P i = false) (h : SF c te m) : SS c (tAsg te (gName i)) (mSetO i m) := by
  intro ρ o e s σ hs E q
  rcases mE_cases e with ⟨d, ρ', e1, e2⟩ | ⟨x, ρ', e1, rfl⟩
  · split at e2
    · rename_i hi
      cases e2
      refine h ρ _ e1 s σ hs _ fun p s' hs' tr hp wp np ho => ?_
      have no : ∀ j, s'.A j ≠ some p := fun j hj => np ⟨j, hj⟩
      refine q ⟨s'.W, s'.H, updA s'.A i (some p)⟩ (σ.set i (some (.ref p))) (hs'.letgo (l := .own d) (ov := some (.ref p)) (oa := some p) hi ⟨p, rfl, rfl, wp, ho⟩ fun p' ep j => ?_) ?_
      · cases ep; exact no j
      · -- the new object is fresh
        refine ⟨tr.w, tr.n, tr.f, fun a ⟨j, hj⟩ => ?_, tr.p, fun j hj => ?_⟩
        · have hj' : updA s'.A i (some p) j = some a := hj
          by_cases e : j = i
          · rw [e, updA_same] at hj'
            cases hj'
            exact .inr hp
          · rw [updA_ne e] at hj'
            exact tr.o a ⟨j, hj'⟩
        · have : j ≠ i := fun z => by rw [z, hP] at hj; cases hj
          exact (updA_ne this).trans (tr.pin j hj)
    · cases e2
  · exact h ρ _ e1 s σ hs _ fun s' a b => q s' σ a b

/-! ### what a slot's own object is, read and changed -/
def ownAt (ρ : Env) (i : Nat) : Option Own := match ρ[i]? with
  | some (.own o) => some o
  | some (.pin o) => some o
  | _ => none
def ownSet (ρ : Env) (i : Nat) (o : Own) : Env := match ρ[i]? with
  | some (.pin _) => ρ.set i (.pin o)
  | _ => ρ.set i (.own o)
theorem SR.own {ρ : Env} {s : Ws} {σ : L2.St} {i : Nat} {o : Own} (h : SR c.K c.tb ρ s σ) (e : ownAt ρ i = some o) : ∃ p, s.A i = some p ∧ σ[i]? = some (some (.ref p)) ∧ s.W p = none ∧ OwnOk c.K s.W s.H p o := by
  unfold ownAt at e
  split at e
  · rename_i o' eo
    cases e
    obtain ⟨p, h1, h2, h3, h4⟩ := h.loc i _ eo
    refine ⟨p, h1, ?_, h3, h4⟩
    cases z : σ[i]? with
    | none => rw [z] at h2; cases h2
    | some x => rw [z] at h2; exact congrArg some h2
  · rename_i o' eo
    cases e
    obtain ⟨p, h1, h2, h3, h4⟩ := h.loc i _ eo
    refine ⟨p, h1, ?_, h3, h4⟩
    cases z : σ[i]? with
    | none => rw [z] at h2; cases h2
    | some x => rw [z] at h2; exact congrArg some h2
  · cases e
/-- the object at slot i becomes another one, behind a step that left all else -/
theorem SR.change {ρ : Env} {s : Ws} {σ : L2.St} {i : Nat} {o o2 : Own} {p : Addr} {u : HO} (h : SR c.K c.tb ρ s σ) (e : ownAt ρ i = some o) (hA : s.A i = some p) (nu : (∃ xs, u = .lst xs) ∨ ∃ kv, u = .dK kv) (ho : OwnOk c.K s.W (upd s.H p u) p o2) :
    SR c.K c.tb (ownSet ρ i o2) ⟨s.W, upd s.H p u, s.A⟩ σ ∧ Tr c.P s ⟨s.W, upd s.H p u, s.A⟩ := by
  obtain ⟨p', hA', hv, wp, ho'⟩ := h.own e
  rw [hA] at hA'; cases hA'
  obtain ⟨z, hz, nz⟩ := ho'.there
  have len : (ownSet ρ i o2).length = ρ.length := by
    unfold ownSet; split <;> rw [List.length_set]
  have tb : TBok c.tb (upd s.H p u) := by
    have hk : (∃ xs, z = .lst xs) ∨ ∃ kv, z = .dK kv := by
      cases o with
      | lst ds => obtain ⟨vs, q, _⟩ := ho'; rw [q] at hz; cases hz; exact .inl ⟨_, rfl⟩
      | dct ds => obtain ⟨vs, q, _⟩ := ho'; rw [q] at hz; cases hz; exact .inr ⟨_, rfl⟩
    refine h.tb.ext fun a x q n1 n2 => ?_
    have ha : a ≠ p := fun w => by
      rw [w, hz] at q; cases q
      rcases hk with ⟨xs, r⟩ | ⟨xs, r⟩
      · exact n1 _ r
      · exact n2 _ r
    rw [upd_ne ha]; exact q
  have own : OwnsA s p := ⟨i, hA⟩
  refine ⟨⟨h.len.trans len.symm, fun j l ej => ?_, fun j hj => h.out j (by rw [len] at hj; exact hj), h.inj, fun a x q => ?_, h.nt, tb⟩, ⟨Ex.refl _, fun _ _ _ w => w, fun a x na q _ => ?_, fun a q => .inl q, fun a q => ?_, fun _ _ => rfl⟩⟩
  · by_cases hj : j = i
    · have gl : LocOk c.K s.W (upd s.H p u) ((σ[j]?).getD none) (s.A j) (.own o2) := by rw [hj]; exact ⟨p, hA, by rw [hv]; rfl, wp, ho⟩
      have hl : l = .own o2 ∨ l = .pin o2 := by
        rw [hj] at ej
        unfold ownSet at ej
        split at ej
        · rcases getElem_set ej with ⟨_, q, _⟩ | ⟨q, _⟩
          · exact .inr q
          · exact absurd rfl q
        · rcases getElem_set ej with ⟨_, q, _⟩ | ⟨q, _⟩
          · exact .inl q
          · exact absurd rfl q
      rcases hl with rfl | rfl
      · exact gl
      · exact gl
    · have ej' : ρ[j]? = some l := by
        unfold ownSet at ej
        split at ej
        · exact (List.getElem?_set_ne (Ne.symm hj)).symm.trans ej
        · exact (List.getElem?_set_ne (Ne.symm hj)).symm.trans ej
      refine (h.loc j l ej').mono (Ex.refl _) (fun _ _ _ w => w) fun p2 hp2 x _ q => ?_
      have : p2 ≠ p := fun w => hj (h.inj j i p2 hp2 (by rw [hA, w]))
      exact (upd_ne this).trans q
  · have : a ≠ p := fun w => by rw [w, wp] at q; cases q
    show upd s.H p u a = some x
    rw [upd_ne this]; exact h.ex a x q
  · have : a ≠ p := fun w => na (w ▸ own)
    show upd s.H p u a = some x
    rw [upd_ne this]; exact q
  · by_cases ha : a = p
    · show upd s.H p u a ≠ none
      rw [ha, upd_same]; exact fun z => nomatch z
    · show upd s.H p u a ≠ none
      rw [upd_ne ha]; exact q
theorem tyV_l {p : Addr} {vs : List V} {K : PySem.W.Frag} {H : Hp} (h : H p = some (.lst vs)) : tyV K "list" (.ref p) H := .inl ⟨rfl, _, .inl (.inl h)⟩
/-- x.m(..) that changes x, a slot's own list -/
def mMeth (i : Nat) (op : List D → List D → Option (List D × D)) (m : MM (List D)) : MM D := fun ρ => match ownAt ρ i with
  | some (.lst _) => bnd m (fun as ρ => match ownAt ρ i with
      | some (.lst ds) => match op ds as with
        | some (ds2, d) => some (.ok d (ownSet ρ i (.lst ds2)))
        | none => none
      | _ => none) ρ
  | _ => none
/-- what a list's method does, by values -/
def RMe (c : Cc) (r : V → List V → Hp → VK → Prop) (op : List D → List D → Option (List D × D)) : Prop := ∀ W H p xs vs ds as ds2 d, Wd c W H → H p = some (.lst xs) → Reps c.K W xs ds → Reps c.K W vs as → op ds as = some (ds2, d) →
  ∃ ys v, Reps c.K W ys ds2 ∧ Rep c.K W v d ∧ ∀ Q : VK, Q v (upd H p (.lst ys)) → r (.ref p) vs H Q
theorem se_meth {i : Nat} {r : V → List V → Hp → VK → Prop} {op : List D → List D → Option (List D × D)} {t : TA} {m : MM (List D)} (ho : RMe c r op) (h : SA c t m) : SE c (tBM c.K "list" r (tVar i) t) (mMeth i op m) := by
  intro ρ rr e s σ hs Q q
  unfold mMeth at e
  split at e
  · rename_i ds0 e0
    obtain ⟨p, hA, hv, wp, vs0, hp0, r0⟩ := hs.own e0
    refine ⟨.ref p, hv, tyV_l hp0, ?_⟩
    refine sx_go (t := t) h e hs q fun vs as ρ s' e hs' rx q tr => ?_
    have e : (match ownAt ρ i with
      | some (.lst ds) => match op ds as with
        | some (ds2, d) => some (.ok d (ownSet ρ i (.lst ds2)))
        | none => none
      | _ => none) = some rr := e
    split at e
    · rename_i ds1 e1
      split at e
      · rename_i ds2 d eo
        cases e
        obtain ⟨p1, hA1, hv1, wp1, vs1, hp1, r1⟩ := hs'.own e1
        rw [hv] at hv1
        cases hv1
        obtain ⟨ys, v, ry, rv, hr⟩ := ho s'.W s'.H p vs1 vs ds1 as ds2 d hs'.wd hp1 r1 rx eo
        obtain ⟨k1, k2⟩ := hs'.change (u := .lst ys) (o2 := .lst ds2) e1 hA1 (.inl ⟨ys, rfl⟩) ⟨ys, upd_same, ry⟩
        exact hr Q (q v _ k1 k2 rv)
      · cases e
    · cases e
  · cases e
theorem se_meth0 {i : Nat} {r : V → List V → Hp → VK → Prop} {op : List D → List D → Option (List D × D)} (ho : RMe c r op) : SE c (tBM0 c.K "list" r (tVar i)) (mMeth i op (ret [])) := se_meth (t := tNil) ho sa_nil
/-- x[k] = e, a slot's own list -/
def mSetAt (i : Nat) (me mk : MM D) : MS := mE (bnd me fun d => bnd mk fun k => ret (d, k)) fun dk ρ => match ownAt ρ i, dk with
  | some (.lst ds), (d, .int k) => match ixN ds.length k with
    | some j => some (.nx (ownSet ρ i (.lst (ds.set j d))))
    | none => none
  | _, _ => none
theorem ss_setAt {i : Nat} {te tk : TE} {me mk : MM D} (he : SE c te me) (hk : SE c tk mk) : SS c (tAsg te (gSub (tVar i) tk rSetL)) (fun ρ => match ownAt ρ i with
    | some (.lst _) => mSetAt i me mk ρ
    | _ => none) := by
  intro ρ o e s σ hs E q
  have e : (match ownAt ρ i with
    | some (.lst _) => mSetAt i me mk ρ
    | _ => none) = some o := e
  split at e
  · rename_i ds0 e0
    obtain ⟨p, hA, hv, wp, vs0, hp0, r0⟩ := hs.own e0
    have body : ∀ v d ρ1 s1, SR c.K c.tb ρ1 s1 σ → Rep c.K s1.W v d → PostS c E s1 o → mE (bnd mk fun k => ret (d, k)) (fun dk ρ => match ownAt ρ i, dk with
        | some (.lst ds), (d, .int k) => match ixN ds.length k with
          | some j => some (.nx (ownSet ρ i (.lst (ds.set j d))))
          | none => none
        | _, _ => none) ρ1 = some o → tk σ s1.H fun k H2 => rSetL (.ref p) k v H2 fun H3 => E.nx σ H3 := by
      intro v d ρ1 s1 hs1 rv q1 e1
      have fin : ∀ y k ρ2 s2, SR c.K c.tb ρ2 s2 σ → Rep c.K s2.W y k → Tr c.P s1 s2 → PostS c E s2 o → (match ownAt ρ2 i, (d, k) with
        | some (.lst ds), (d, .int k) => match ixN ds.length k with
          | some j => some (Out.nx (ownSet ρ2 i (.lst (ds.set j d))))
          | none => none
        | _, _ => none) = some o → rSetL (.ref p) y v s2.H fun H3 => E.nx σ H3 := by
        intro y k ρ2 s2 hs2 ry tr2 q2 e2
        split at e2
        · rename_i ds d' k' eo ek
          cases ek
          split at e2
          · rename_i j ej
            cases e2
            cases ry
            obtain ⟨p1, hA1, hv1, wp1, vs1, hp1, r1⟩ := hs2.own eo
            rw [hv] at hv1
            cases hv1
            obtain ⟨k1, k2⟩ := hs2.change (u := .lst (vs1.set j v)) (o2 := .lst (ds.set j d)) eo hA1 (.inl ⟨_, rfl⟩) ⟨_, upd_same, r1.set (rv.mono tr2.w) j⟩
            exact ⟨p, vs1, _, j, rfl, rfl, hp1, by rw [r1.length]; exact ej, q2 _ σ k1 k2⟩
          · cases e2
        · cases e2
      rcases mE_cases e1 with ⟨dk, ρ', e2, e3⟩ | ⟨x, ρ', e2, rfl⟩
      · rcases bnd_cases e2 with ⟨k, ρ'', e4, e5⟩ | ⟨x, ρ'', e4, e5⟩
        · cases e5
          exact hk ρ1 _ e4 s1 σ hs1 _ fun y s2 a b ry => fin y k _ s2 a ry b (q1.after b) e3
        · cases e5
      · rcases bnd_cases e2 with ⟨k, ρ'', e4, e5⟩ | ⟨x', ρ'', e4, e5⟩
        · cases e5
        · cases e5
          exact hk ρ1 _ e4 s1 σ hs1 _ fun s2 a b => q1 s2 σ a b
    unfold mSetAt at e
    -- the value first
    have goal : te σ s.H fun v H1 => ∃ w, σ[i]? = some (some w) ∧ tk σ H1 fun k H2 => rSetL w k v H2 fun H3 => E.nx σ H3 := by
      rcases mE_cases e with ⟨dk, ρ', e2, e3⟩ | ⟨x, ρ', e2, rfl⟩
      · rcases bnd_cases e2 with ⟨d, ρ'', e4, e5⟩ | ⟨x, ρ'', e4, e5⟩
        · refine he ρ _ e4 s σ hs _ fun v s1 a b rv => ⟨.ref p, hv, body v d ρ'' s1 a rv (q.after b) ?_⟩
          unfold mE
          rw [e5]
          exact e3
        · cases e5
      · rcases bnd_cases e2 with ⟨d, ρ'', e4, e5⟩ | ⟨x', ρ'', e4, e5⟩
        · refine he ρ _ e4 s σ hs _ fun v s1 a b rv => ⟨.ref p, hv, body v d ρ'' s1 a rv (PostS.after (o := .er x ρ') q b) ?_⟩
          unfold mE
          rw [e5]
        · cases e5
          exact he ρ _ e4 s σ hs _ fun s1 a b => q s1 σ a b
    exact goal
  · cases e
/-- x[k], len(x), x by truth: a slot's own list, read -/
def ixOwn : Option Own → D → Option D
  | some (.lst ds), .int k => atI ds k
  | _, _ => none
def mIxO (i : Nat) (mk : MM D) : MM D := fun ρ => match ownAt ρ i with
  | some (.lst _) => bnd mk (fun k ρ => lft (ixOwn (ownAt ρ i) k) ρ) ρ
  | _ => none
theorem atI_reps {K : PySem.W.Frag} {W : Hp} {vs : List V} {ds : List D} {k : Int} {d : D} (r : Reps K W vs ds) (h : atI ds k = some d) : ∃ v, atI vs k = some v ∧ Rep K W v d := by
  unfold atI at h ⊢
  rw [r.length]
  obtain ⟨j, e1, e2⟩ := Option.bind_eq_some_iff.mp h
  obtain ⟨v, hv, rv⟩ := r.getD e2
  exact ⟨v, by rw [e1]; exact hv, rv⟩
theorem se_ixO {i : Nat} {tk : TE} {mk : MM D} (hk : SE c tk mk) : SE c (tOp (rIx c.K) (tVar i) tk) (mIxO i mk) := by
  intro ρ rr e s σ hs Q q
  unfold mIxO at e
  split at e
  · rename_i ds0 e0
    obtain ⟨p, hA, hv, wp, vs0, hp0, r0⟩ := hs.own e0
    refine ⟨.ref p, hv, ?_⟩
    refine sx_go (t := tk) hk e hs q fun y k ρ s' e hs' ry q tr => ?_
    obtain ⟨d, ed, rfl⟩ := lft_cases e
    cases eo : ownAt ρ i with
    | none => rw [eo] at ed; cases ed
    | some o =>
      rw [eo] at ed
      cases o with
      | dct _ => cases ed
      | lst ds =>
        cases k <;> try (cases ed; done)
        cases ry
        have ed : atI ds _ = some d := ed
        obtain ⟨p1, hA1, hv1, wp1, vs1, hp1, r1⟩ := hs'.own eo
        rw [hv] at hv1
        cases hv1
        obtain ⟨v, hv2, rv⟩ := atI_reps r1 ed
        exact .inl ⟨p, vs1, _, v, rfl, rfl, .inl (.inl hp1), hv2, q v s' hs' .refl rv⟩
  · cases e
def mLenO (i : Nat) : MM D := fun ρ => match ownAt ρ i with
  | some (.lst ds) => some (.ok (.int (ds.length : Int)) ρ)
  | _ => none
/-- len's reading -/
def rLn (K : PySem.W.Frag) : List V → Hp → VK → Prop := fun xs H Q => ∃ x n, xs = [x] ∧ LenV K x H n ∧ Q (.int n) H
theorem se_lenO {i : Nat} : SE c (tCB (rLn c.K) (tCons (tVar i) tNil)) (mLenO i) := by
  intro ρ rr e s σ hs Q q
  unfold mLenO at e
  split at e
  · rename_i ds e0
    cases e
    obtain ⟨p, hA, hv, wp, vs, hp, r⟩ := hs.own e0
    exact ⟨.ref p, hv, .ref p, ds.length, rfl, .inl ⟨vs, .inl (.inl hp), r.length.symm⟩, q _ s hs .refl (.int _)⟩
  · cases e
def mTruO (i : Nat) : MM Bool := fun ρ => match ownAt ρ i with
  | some (.lst ds) => some (.ok (!ds.isEmpty) ρ)
  | _ => none
/-- truth's reading -/
def tTru (K : PySem.W.Frag) (te : TE) : TT := fun σ H Q => te σ H fun x H1 => ∃ k, TruV K x H1 k ∧ Q k H1
theorem isEmpty_reps {K : PySem.W.Frag} {W : Hp} {vs : List V} {ds : List D} (r : Reps K W vs ds) : vs.isEmpty = ds.isEmpty := by
  cases r <;> rfl
theorem st_truO {i : Nat} : ST c (tTru c.K (tVar i)) (mTruO i) := by
  intro ρ rr e s σ hs Q q
  unfold mTruO at e
  split at e
  · rename_i ds e0
    cases e
    obtain ⟨p, hA, hv, wp, vs, hp, r⟩ := hs.own e0
    exact ⟨.ref p, hv, !ds.isEmpty, .inl ⟨vs, .inl (.inl hp), by rw [isEmpty_reps r]⟩, q _ s hs .refl rfl⟩
  · cases e
end
end PD
end
section
set_option maxHeartbeats 0
namespace PD
open PySem L2

/-! ### == of data -/
mutual
def toP : D → PyData
  | .non => .none
  | .bl b => .bool b
  | .int i => .int i
  | .str x => .str x
  | .tup xs => .tuple (toPs xs)
  | .lst xs => .list (toPs xs)
  | .dct _ => .dict []
  | .frz _ => .dict []
def toPs : List D → List PyData
  | [] => []
  | x :: xs => toP x :: toPs xs
end
mutual
theorem Rep.dp {K : PySem.W.Frag} {W H : Hp} (e : Ex W H) : ∀ {d : D} {v : V}, Rep K W v d → (toP d).plain = true → Dp K H v (toP d)
  | _, _, .non, _ => .non
  | _, _, .bl b, _ => .bl b
  | _, _, .int i, _ => .int i
  | _, _, .str x, _ => .str x
  | _, _, .tup h r, q => .tup (e.st h) (Reps.dp e r (by simpa [toP, PyData.plain] using q))
  | _, _, .lst h r, q => .lst (e.sl (.inl (.inl h))) (Reps.dp e r (by simpa [toP, PyData.plain] using q))
  | _, _, .dct h r, q => by simp [toP, PyData.plain] at q
  | _, _, .frz h r, q => by simp [toP, PyData.plain] at q
theorem Reps.dp {K : PySem.W.Frag} {W H : Hp} (e : Ex W H) : ∀ {ds : List D} {vs : List V}, Reps K W vs ds → PyData.plainAll (toPs ds) = true → DpAll K H vs (toPs ds)
  | _, _, .nil, _ => .nil
  | _, _, .cons h r, q => by
    simp only [toPs, PyData.plainAll, Bool.and_eq_true] at q
    exact .cons (Rep.dp e h q.1) (Reps.dp e r q.2)
end
def eqD (a b : D) : Option Bool := if (toP a).plain = true ∧ (toP b).plain = true ∧ min (toP a).depth (toP b).depth ≤ 64 then some (PyData.eqv (toP a) (toP b)) else none
def rEqP (K : PySem.W.Frag) : R2 := fun x y H Q => ∃ d e, Dp K H x d ∧ Dp K H y e ∧ d.plain = true ∧ e.plain = true ∧ min d.depth e.depth ≤ 64 ∧ Q (.bl (PyData.eqv d e)) H
def rNeP (K : PySem.W.Frag) : R2 := fun x y H Q => ∃ d e, Dp K H x d ∧ Dp K H y e ∧ d.plain = true ∧ e.plain = true ∧ min d.depth e.depth ≤ 64 ∧ Q (.bl (!PyData.eqv d e)) H
section
variable {X : Cx}
theorem op_eqP (hu : X.A.units + 64 < cLine) : OpR X (compareOp .Eq) (rEqP X.K) := by
  intro pins s σ H x y v u Q I rx ry h
  obtain ⟨d, e, hd, he, sd, se, hm, q⟩ := h
  obtain ⟨as, r1⟩ := Dp.reads I d x v hd rx
  obtain ⟨bs, r2⟩ := Dp.reads I e y u he ry
  exact SeqAt.eq_plain r1 r2 sd se (by omega) ⟨.bl _, H, I, rfl, q⟩
theorem op_neP (hu : X.A.units + 64 < cLine) : OpR X (compareOp .NotEq) (rNeP X.K) := by
  intro pins s σ H x y v u Q I rx ry h
  obtain ⟨d, e, hd, he, sd, se, hm, q⟩ := h
  obtain ⟨as, r1⟩ := Dp.reads I d x v hd rx
  obtain ⟨bs, r2⟩ := Dp.reads I e y u he ry
  exact SeqAt.ne_plain r1 r2 sd se (by omega) ⟨.bl _, H, I, rfl, q⟩
end
def dEq (a b : D) : Option D := (eqD a b).map .bl
def dNe (a b : D) : Option D := (eqD a b).map fun b => .bl (!b)
section
variable {c : Cc}
theorem rop_eq : ROp c (rEqP c.K) dEq := by
  intro W H x y a b d w rx ry e Q q
  obtain ⟨k, e1, rfl⟩ := Option.map_eq_some_iff.mp e
  unfold eqD at e1
  split at e1
  · rename_i h
    cases e1
    exact ⟨_, _, rx.dp w.ex h.1, ry.dp w.ex h.2.1, h.1, h.2.1, h.2.2, q _ W H w.nref (.bl _)⟩
  · cases e1
theorem rop_ne : ROp c (rNeP c.K) dNe := by
  intro W H x y a b d w rx ry e Q q
  obtain ⟨k, e1, rfl⟩ := Option.map_eq_some_iff.mp e
  unfold eqD at e1
  split at e1
  · rename_i h
    cases e1
    exact ⟨_, _, rx.dp w.ex h.1, ry.dp w.ex h.2.1, h.1, h.2.1, h.2.2, q _ W H w.nref (.bl _)⟩
  · cases e1

/-! ### arithmetic -/
def dInt2 (C : Int → Int → Bool) (g : Int → Int → D) : D → D → Option D
  | .int i, .int j => if C i j = true then some (g i j) else none
  | _, _ => none
theorem rop_I {C : Int → Int → Prop} {Cb : Int → Int → Bool} {g : Int → Int → V} {gd : Int → Int → D} (hc : ∀ i j, Cb i j = true → C i j) (hg : ∀ W i j, Rep c.K W (g i j) (gd i j)) : ROp c (rI C g) (dInt2 Cb gd) := by
  intro W H x y a b d w rx ry e Q q
  cases a <;> try (cases e; done)
  cases b <;> try (cases e; done)
  rename_i i j
  cases rx
  cases ry
  have e : (if Cb i j = true then some (gd i j) else none) = some d := e
  split at e
  · rename_i h
    cases e
    exact ⟨i, j, rfl, rfl, hc i j h, q _ W H w.nref (hg W i j)⟩
  · cases e
def dInt (g : Int → Int → D) : D → D → Option D
  | .int i, .int j => some (g i j)
  | _, _ => none
theorem rop_I0 {g : Int → Int → V} {gd : Int → Int → D} (hg : ∀ W i j, Rep c.K W (g i j) (gd i j)) : ROp c (rI0 g) (dInt gd) := by
  intro W H x y a b d w rx ry e Q q
  cases a <;> try (cases e; done)
  cases b <;> try (cases e; done)
  rename_i i j
  cases rx
  cases ry
  cases e
  exact ⟨i, j, rfl, rfl, q _ W H w.nref (hg W i j)⟩
def dSub : D → D → Option D := dInt fun i j => .int (i - j)
def dMod : D → D → Option D := dInt2 (fun _ j => j != 0) fun i j => .int (i.fmod j)
def dDiv : D → D → Option D := dInt2 (fun _ j => decide (0 < j) && decide (j < 1073741824)) fun i j => .int (i / j)
def dLt : D → D → Option D := dInt fun i j => .bl (decide (i < j))
def dLe : D → D → Option D := dInt fun i j => .bl (decide (i ≤ j))
def dGt : D → D → Option D := dInt fun i j => .bl (decide (j < i))
def dGe : D → D → Option D := dInt fun i j => .bl (decide (j ≤ i))
theorem rop_sub : ROp c (rI0 fun i j => .int (i - j)) dSub := rop_I0 fun _ _ _ => .int _
theorem rop_mod : ROp c (rI (fun _ j => j ≠ 0) fun i j => .int (i.fmod j)) dMod := rop_I (fun i j h => by simpa using h) fun _ _ _ => .int _
theorem rop_div : ROp c (rI CDiv fun i j => .int (i / j)) dDiv := rop_I (fun i j h => by rw [Bool.and_eq_true] at h; exact ⟨of_decide_eq_true h.1, of_decide_eq_true h.2⟩) fun _ _ _ => .int _
theorem rop_lt : ROp c (rI0 fun i j => .bl (decide (i < j))) dLt := rop_I0 fun _ _ _ => .bl _
theorem rop_le : ROp c (rI0 fun i j => .bl (decide (i ≤ j))) dLe := rop_I0 fun _ _ _ => .bl _
theorem rop_gt : ROp c (rI0 fun i j => .bl (decide (j < i))) dGt := rop_I0 fun _ _ _ => .bl _
theorem rop_ge : ROp c (rI0 fun i j => .bl (decide (j ≤ i))) dGe := rop_I0 fun _ _ _ => .bl _

/-! ### + -/
def rOr (r r' : R2) : R2 := fun x y H Q => r x y H Q ∨ r' x y H Q
theorem OpR.or {X : Cx} {f : Value → Value → Sem Value} {r r' : R2} (h : OpR X f r) (h' : OpR X f r') : OpR X f (rOr r r') := by
  intro pins s σ H x y v u Q I rx ry q
  rcases q with q | q
  · exact h pins s σ H x y v u Q I rx ry q
  · exact h' pins s σ H x y v u Q I rx ry q
theorem ROp.or {r r' : R2} {f g : D → D → Option D} (h : ROp c r f) (h' : ROp c r' g) : ROp c (rOr r r') (fun a b => (f a b).or (g a b)) := by
  intro W H x y a b d w rx ry e Q q
  dsimp only at e
  cases e1 : f a b with
  | none => rw [e1] at e; exact .inr (h' W H x y a b d w rx ry e Q q)
  | some z => rw [e1] at e; cases e; exact .inl (h W H x y a b _ w rx ry e1 Q q)
def rStrAdd : R2 := fun x y H Q => ∃ i j, x = .str i ∧ y = .str j ∧ i.length + j.length ≤ sizeLine ∧ Q (.str (i ++ j)) H
def dAdd : D → D → Option D
  | .int i, .int j => some (.int (i + j))
  | .str x, .str y => if x.length + y.length ≤ cap then some (.str (x ++ y)) else none
  | .tup x, .tup y => if x.length + y.length ≤ cap then some (.tup (x ++ y)) else none
  | .lst x, .lst y => if x.length + y.length ≤ cap then some (.lst (x ++ y)) else none
  | _, _ => none
def rAddAll (K : PySem.W.Frag) : R2 := rOr (rI0 fun i j => .int (i + j)) (rOr rStrAdd (rOr (rCatA K) rCat))
theorem op_addAll {X : Cx} : OpR X (binaryOp .Add) (rAddAll X.K) := OpR.or op_add (OpR.or op_add_str (OpR.or op_catA op_cat))
theorem rop_add : ROp c (rAddAll c.K) dAdd := by
  intro W H x y a b d w rx ry e Q q
  cases a <;> try (cases e; done)
  · cases b <;> try (cases e; done)
    cases rx; cases ry; cases e
    exact .inl ⟨_, _, rfl, rfl, q _ W H w.nref (.int _)⟩
  · cases b <;> try (cases e; done)
    rename_i z1 z2
    cases rx; cases ry
    have e : (if z1.length + z2.length ≤ cap then some (D.str (z1 ++ z2)) else none) = some d := e
    split at e
    · rename_i h
      cases e
      exact .inr (.inl ⟨_, _, rfl, rfl, cap_le h, q _ W H w.nref (.str _)⟩)
    · cases e
  · cases b <;> try (cases e; done)
    rename_i z1 z2
    have e : (if z1.length + z2.length ≤ cap then some (D.tup (z1 ++ z2)) else none) = some d := e
    split at e
    · rename_i h
      cases e
      cases rx with
      | @tup p xs _ hx r1 =>
        cases ry with
        | @tup p2 ys _ hy r2 =>
          refine .inr (.inr (.inl ⟨p, p2, xs, ys, rfl, rfl, w.ex.st hx, w.ex.st hy, cap_le (by rw [r1.length, r2.length]; exact h), fun hn => ?_, fun _ hn => ?_, fun _ _ => rx_tup w (r1.append r2) Q q⟩))
          · subst hn
            have := r1.nilL
            subst this
            exact q _ W H w.nref (.tup hy r2)
          · subst hn
            have := r2.nilL
            subst this
            exact q _ W H w.nref (.tup hx (by rw [List.append_nil]; exact r1))
    · cases e
  · cases b <;> try (cases e; done)
    rename_i z1 z2
    have e : (if z1.length + z2.length ≤ cap then some (D.lst (z1 ++ z2)) else none) = some d := e
    split at e
    · rename_i h
      cases e
      cases rx with
      | @lst p xs _ hx r1 =>
        cases ry with
        | @lst p2 ys _ hy r2 =>
          exact .inr (.inr (.inr ⟨p, p2, xs, ys, rfl, rfl, w.ex _ _ hx, w.ex _ _ hy, cap_le (by rw [r1.length, r2.length]; exact h), rx_lst w (r1.append r2) Q q⟩))
    · cases e
/-! ### * -/
def mulOk (i j : Int) : Bool := (decide (-(2 ^ 64) < i) && decide (i < 2 ^ 64)) || (decide (-(2 ^ 64) < j) && decide (j < 2 ^ 64))
def repOk (n : Nat) (k : Int) : Bool := decide (-(2 ^ 63) ≤ k) && decide (k < 2 ^ 63) && decide (n * k.toNat ≤ cap)
def rStrMul : R2 := fun x y H Q => ∃ z k, x = .str z ∧ y = .int k ∧ 1 ≤ k ∧ k ≤ 1000 ∧ z.length ≤ 1000 ∧ Q (.str (Txt.mul z k)) H
theorem op_strMul {X : Cx} : OpR X (binaryOp .Mult) rStrMul := by
  intro pins s σ H x y v u Q I rx ry h
  obtain ⟨z, k, rfl, rfl, h1, h2, h3, q⟩ := h
  obtain ⟨t, rfl⟩ := rx
  obtain ⟨t', rfl⟩ := ry
  refine SB.mul ⟨?_, fun _ _ => ?_, fun _ _ => ?_⟩ fun t' k' => ⟨.str _, H, I.tok _, ⟨_, rfl⟩, q⟩
  · rw [decide_eq_false (by omega), decide_eq_false (by omega)]; rfl
  · have : (z.length : Int) ≤ (2 ^ 63 - 1) / k := by
      rw [Int.le_ediv_iff_mul_le (by omega)]
      have h4 : (z.length : Int) * k ≤ 1000 * 1000 := Int.mul_le_mul (by omega) h2 (by omega) (by omega)
      omega
    omega
  · have h5 : z.length * k.toNat ≤ 1000 * 1000 := Nat.mul_le_mul h3 (by omega)
    show decide (z.length * k.toNat > sizeLine) = false
    rw [sizeLine_eq]
    exact decide_eq_false (by omega)
def dMul : D → D → Option D
  | .int i, .int j => if mulOk i j = true then some (.int (i * j)) else none
  | .str z, .int k => if 1 ≤ k ∧ k ≤ 1000 ∧ z.length ≤ 1000 then some (.str (Txt.mul z k)) else none
  | .lst x, .int k => if repOk x.length k = true then some (.lst (List.replicate k.toNat x).flatten) else none
  | _, _ => none
theorem Reps.flat {K : PySem.W.Frag} {W : Hp} {vs : List V} {ds : List D} (r : Reps K W vs ds) : ∀ n : Nat, Reps K W (List.replicate n vs).flatten (List.replicate n ds).flatten
  | 0 => .nil
  | n + 1 => by
    rw [List.replicate_succ, List.replicate_succ, List.flatten_cons, List.flatten_cons]
    exact r.append (Reps.flat r n)
def rMulAll : R2 := rOr (rI CMul fun i j => .int (i * j)) (rOr rStrMul rRep)
theorem op_mulAll {X : Cx} : OpR X (binaryOp .Mult) rMulAll := OpR.or op_mul (OpR.or op_strMul op_rep)
theorem rop_mul : ROp c rMulAll dMul := by
  intro W H x y a b d w rx ry e Q q
  cases a <;> try (cases e; done)
  · cases b <;> try (cases e; done)
    rename_i i j
    cases rx; cases ry
    have e : (if mulOk i j = true then some (D.int (i * j)) else none) = some d := e
    split at e
    · rename_i h
      cases e
      refine .inl ⟨_, _, rfl, rfl, ?_, q _ W H w.nref (.int _)⟩
      unfold mulOk at h
      rw [Bool.or_eq_true, Bool.and_eq_true, Bool.and_eq_true] at h
      rcases h with h | h
      · exact .inl ⟨of_decide_eq_true h.1, of_decide_eq_true h.2⟩
      · exact .inr ⟨of_decide_eq_true h.1, of_decide_eq_true h.2⟩
    · cases e
  · cases b <;> try (cases e; done)
    rename_i z k
    cases rx; cases ry
    have e : (if 1 ≤ k ∧ k ≤ 1000 ∧ z.length ≤ 1000 then some (D.str (Txt.mul z k)) else none) = some d := e
    split at e
    · rename_i h
      cases e
      exact .inr (.inl ⟨_, _, rfl, rfl, h.1, h.2.1, h.2.2, q _ W H w.nref (.str _)⟩)
    · cases e
  · cases b <;> try (cases e; done)
    rename_i ds k
    cases ry
    have e : (if repOk ds.length k = true then some (D.lst (List.replicate k.toNat ds).flatten) else none) = some d := e
    split at e
    · rename_i h
      cases e
      cases rx with
      | @lst p xs _ hx r1 =>
        unfold repOk at h
        rw [Bool.and_eq_true, Bool.and_eq_true] at h
        exact .inr (.inr ⟨p, _, xs, rfl, rfl, w.ex _ _ hx, of_decide_eq_true h.1.1, of_decide_eq_true h.1.2, by rw [r1.length]; exact cap_le (of_decide_eq_true h.2), rx_lst w (r1.flat _) Q q⟩)
    · cases e
/-- a list times an int, for a slot's own -/
def dRepL : D → D → Option (List D)
  | .lst x, .int k => if repOk x.length k = true then some (List.replicate k.toNat x).flatten else none
  | _, _ => none
theorem own_rep : ∀ W H x y a b ds, Wd c W H → Rep c.K W x a → Rep c.K W y b → dRepL a b = some ds → ∃ vs, Reps c.K W vs ds ∧ ∀ Q : VK, (∀ p, H p = none → Q (.ref p) (upd H p (.lst vs))) → rMulAll x y H Q := by
  intro W H x y a b ds w rx ry e
  cases a <;> try (cases e; done)
  cases b <;> try (cases e; done)
  rename_i xs k
  cases ry
  have e : (if repOk xs.length k = true then some (List.replicate k.toNat xs).flatten else none) = some ds := e
  split at e
  · rename_i h
    cases e
    cases rx with
    | @lst p vs _ hx r1 =>
      unfold repOk at h
      rw [Bool.and_eq_true, Bool.and_eq_true] at h
      exact ⟨_, r1.flat _, fun Q q => .inr (.inr ⟨p, _, vs, rfl, rfl, w.ex _ _ hx, of_decide_eq_true h.1.1, of_decide_eq_true h.1.2, by rw [r1.length]; exact cap_le (of_decide_eq_true h.2), q⟩)⟩
  · cases e

/-! ### subscripts, slices -/
def dIx : D → D → Option D
  | .tup ds, .int k => atI ds k
  | .lst ds, .int k => atI ds k
  | .str z, .int k => if z.length ≤ cap then (atI z.cps.toList k).map fun c => .str ⟨#[c]⟩ else none
  | _, _ => none
theorem rop_ix : ROp c (rIx c.K) dIx := by
  intro W H x y a b d w rx ry e Q q
  cases a <;> try (cases e; done)
  · cases b <;> try (cases e; done)
    rename_i z k
    cases rx; cases ry
    have e : (if z.length ≤ cap then (atI z.cps.toList k).map fun c => D.str ⟨#[c]⟩ else none) = some d := e
    split at e
    · rename_i h
      obtain ⟨ch, e1, rfl⟩ := Option.map_eq_some_iff.mp e
      exact .inr (.inr ⟨z, k, ch, rfl, rfl, cap_le h, e1, q _ W H w.nref (.str _)⟩)
    · cases e
  · cases b <;> try (cases e; done)
    rename_i ds k
    cases ry
    cases rx with
    | @tup p xs _ hx r1 =>
      obtain ⟨v, hv, rv⟩ := atI_reps r1 e
      exact .inr (.inl ⟨p, xs, k, v, rfl, rfl, w.ex.st hx, hv, q v W H w.nref rv⟩)
  · cases b <;> try (cases e; done)
    rename_i ds k
    cases ry
    cases rx with
    | @lst p xs _ hx r1 =>
      obtain ⟨v, hv, rv⟩ := atI_reps r1 e
      exact .inl ⟨p, xs, k, v, rfl, rfl, w.ex.sl (.inl (.inl hx)), hv, q v W H w.nref rv⟩
def cutD (xs : List D) (lo hi : Option Int) : List D := (xs.drop (HT.sIx xs.length 0 lo)).take (HT.sIx xs.length xs.length hi - HT.sIx xs.length 0 lo)
theorem cut_reps {K : PySem.W.Frag} {W : Hp} {vs : List V} {ds : List D} (r : Reps K W vs ds) (lo hi : Option Int) : Reps K W (cutV vs lo hi) (cutD ds lo hi) := by
  unfold cutV cutD
  rw [r.length]
  exact (r.drop _).take _
def dSl : D → Option Int → Option Int → Option D
  | .tup ds, lo, hi => some (.tup (cutD ds lo hi))
  | .lst ds, lo, hi => some (.lst (cutD ds lo hi))
  | .frz ds, lo, hi => some (.lst (cutD ds lo hi))
  | .str z, lo, hi => if z.length ≤ cap then some (.str (cutS z lo hi)) else none
  | _, _, _ => none
def rSlAll (K : PySem.W.Frag) : V → Option Int → Option Int → Hp → VK → Prop := fun x lo hi H Q => rSlA K x lo hi H Q ∨ (rSlL K x lo hi H Q ∨ rSlS x lo hi H Q)
theorem sl_all {X : Cx} : SlR X (rSlAll X.K) := sl_tupA.or (sl_list.or sl_str)
theorem cutD_whole {ds : List D} {lo hi : Option Int} (h : HT.sIx ds.length 0 lo = 0 ∧ HT.sIx ds.length ds.length hi = ds.length) : cutD ds lo hi = ds := by
  unfold cutD
  rw [h.1, h.2, List.drop_zero, Nat.sub_zero, List.take_length]
theorem rsl {W H : Hp} {x : V} {a d : D} {lo hi : Option Int} (w : Wd c W H) (rx : Rep c.K W x a) (e : dSl a lo hi = some d) : RX c (Rep c.K) (rSlAll c.K x lo hi) W H d := by
  intro Q q
  cases a <;> try (cases e; done)
  · rename_i z
    cases rx
    have e : (if z.length ≤ cap then some (D.str (cutS z lo hi)) else none) = some d := e
    split at e
    · rename_i h
      cases e
      exact .inr (.inr ⟨z, rfl, cap_le h, q _ W H w.nref (.str _)⟩)
    · cases e
  · cases e
    cases rx with
    | @tup p xs ds hx r1 =>
      refine .inl ⟨p, xs, rfl, w.ex.st hx, fun h => ?_, fun _ => rx_tup w (cut_reps r1 lo hi) Q q⟩
      rw [r1.length] at h
      rw [cutD_whole h] at q
      exact q _ W H w.nref (.tup hx r1)
  · cases e
    cases rx with
    | @lst p xs ds hx r1 => exact .inr (.inl ⟨p, xs, rfl, w.ex.sl (.inl (.inl hx)), rx_lst w (cut_reps r1 lo hi) Q q⟩)
  · cases e
    cases rx with
    | @frz p xs ds hx r1 => exact .inr (.inl ⟨p, xs, rfl, w.ex.sl hx, rx_lst w (cut_reps r1 lo hi) Q q⟩)
def asI : D → Option Int
  | .int i => some i
  | _ => none
theorem so_none : SO c tNoPart (ret none) := by
  intro ρ r e s σ hs Q q
  cases e
  exact q _ s hs .refl rfl
theorem so_some {te : TE} {m : MM D} (h : SE c te m) : SO c (tPart te) (bnd m fun d => lft ((asI d).map some)) := by
  intro ρ rr e s σ hs Q q
  refine sx_go (t := te) h e hs q fun x a ρ s e hs rx q tr => ?_
  obtain ⟨b, e3, rfl⟩ := lft_cases e
  cases a <;> try (cases e3; done)
  cases e3
  cases rx
  exact ⟨_, rfl, q _ s hs .refl rfl⟩
def mSl (m : MM D) (ml mh : MM (Option Int)) : MM D := bnd m fun d => bnd ml fun lo => bnd mh fun hi => lft (dSl d lo hi)
theorem se_sl {te : TE} {tl th : TO} {m : MM D} {ml mh : MM (Option Int)} (h : SE c te m) (hl : SO c tl ml) (hh : SO c th mh) : SE c (tSl (rSlAll c.K) te tl th) (mSl m ml mh) := by
  intro ρ rr e s σ hs Q q
  refine sx_go (t := te) h e hs q fun x a ρ s e hs rx q tr => ?_
  refine sx_go (t := tl) hl e hs q fun l lo ρ s1 e hs1 el q tr1 => ?_
  refine sx_go (t := th) hh e hs1 q fun u hi ρ s2 e hs2 eu q tr2 => ?_
  obtain ⟨d, e3, rfl⟩ := lft_cases e
  subst el eu
  exact rsl hs2.wd (rx.mono (tr1.w.trans tr2.w)) e3 Q (post_nw hs2 q)

/-! ### built-in functions -/
def dLen : List D → Option D
  | [.tup ds] => some (.int (ds.length : Int))
  | [.lst ds] => some (.int (ds.length : Int))
  | [.str z] => if z.length ≤ cap then some (.int (z.length : Int)) else none
  | _ => none
theorem rca1 {r : List V → Hp → VK → Prop} {op : List D → Option D} (h : ∀ W H x a d, Wd c W H → Rep c.K W x a → op [a] = some d → RX c (Rep c.K) (r [x]) W H d) (h0 : op [] = none) (h2 : ∀ a b l, op (a :: b :: l) = none) : RCa c r op := by
  intro W H xs as d w rx e
  cases rx with
  | nil => rw [h0] at e; cases e
  | cons r1 r2 =>
    cases r2 with
    | nil => exact h W H _ _ d w r1 e
    | cons _ _ => rw [h2] at e; cases e
theorem rca_len : RCa c (rLn c.K) dLen := by
  refine rca1 (fun W H x a d w rx e Q q => ?_) rfl (fun a b l => by cases a <;> rfl)
  cases a <;> try (cases e; done)
  · rename_i z
    cases rx
    have e : (if z.length ≤ cap then some (D.int (z.length : Int)) else none) = some d := e
    split at e
    · rename_i h
      cases e
      exact ⟨_, z.length, rfl, ⟨cap_le h, rfl⟩, q _ W H w.nref (.int _)⟩
    · cases e
  · cases e
    cases rx with
    | @tup p xs ds hx r1 => exact ⟨_, _, rfl, .inr ⟨xs, w.ex.st hx, r1.length.symm⟩, q _ W H w.nref (.int _)⟩
  · cases e
    cases rx with
    | @lst p xs ds hx r1 => exact ⟨_, _, rfl, .inl ⟨xs, w.ex.sl (.inl (.inl hx)), r1.length.symm⟩, q _ W H w.nref (.int _)⟩
def rLs (K : PySem.W.Frag) : List V → Hp → VK → Prop := fun xs H Q => ∃ p ys, xs = [.ref p] ∧ (SqL K H p ys ∨ SqT K H p ys) ∧ ∀ l, H l = none → Q (.ref l) (upd H l (.lst ys))
def dList : List D → Option (List D)
  | [.tup ds] => some ds
  | [.lst ds] => some ds
  | _ => none
theorem own_list {W H : Hp} {xs : List V} {as ds : List D} (w : Wd c W H) (rx : Reps c.K W xs as) (e : dList as = some ds) : ∃ vs, Reps c.K W vs ds ∧ ∀ Q : VK, (∀ p, H p = none → Q (.ref p) (upd H p (.lst vs))) → rLs c.K xs H Q := by
  cases rx with
  | nil => cases e
  | @cons v vs a as r1 r2 =>
    cases r2 with
    | cons _ _ => cases a <;> cases e
    | nil =>
      cases a <;> try (cases e; done)
      · cases e
        cases r1 with
        | @tup p xs ds hx r => exact ⟨xs, r, fun Q q => ⟨p, xs, rfl, .inr (w.ex.st hx), q⟩⟩
      · cases e
        cases r1 with
        | @lst p xs ds hx r => exact ⟨xs, r, fun Q q => ⟨p, xs, rfl, .inl (w.ex.sl (.inl (.inl hx))), q⟩⟩
theorem rca_list : RCa c (rLs c.K) (fun as => (dList as).map .lst) := by
  intro W H xs as d w rx e Q q
  obtain ⟨ds, e1, rfl⟩ := Option.map_eq_some_iff.mp e
  obtain ⟨vs, hv, h⟩ := own_list w rx e1
  exact h Q (rx_lst w hv Q q)
theorem sf_cb {r : List V → Hp → VK → Prop} {op : List D → Option (List D)} {ta : TA} {ma : MM (List D)} (ho : ∀ W H xs as ds, Wd c W H → Reps c.K W xs as → op as = some ds → ∃ vs, Reps c.K W vs ds ∧ ∀ Q : VK, (∀ p, H p = none → Q (.ref p) (upd H p (.lst vs))) → r xs H Q) (ha : SA c ta ma) :
    SF c (tCB r ta) (bnd ma fun a => lft ((op a).map .lst)) := by
  intro ρ rr e s σ hs Q q
  refine sf_go (t := ta) ha e hs q fun x a ρ s e hs rx q tr => ?_
  obtain ⟨d, e3, rfl⟩ := lft_cases e
  obtain ⟨ds, e4, rfl⟩ := Option.map_eq_some_iff.mp e3
  obtain ⟨vs, hv, h⟩ := ho _ _ x a ds hs.wd rx e4
  exact h Q (post_own hs q hv)
theorem own_list' : ∀ W H xs as ds, Wd c W H → Reps c.K W xs as → dList as = some ds → ∃ vs, Reps c.K W vs ds ∧ ∀ Q : VK, (∀ p, H p = none → Q (.ref p) (upd H p (.lst vs))) → rLs c.K xs H Q := fun _ _ _ _ _ w rx e => own_list w rx e
def rTp (K : PySem.W.Frag) : List V → Hp → VK → Prop := fun xs H Q => ∃ p ys, xs = [.ref p] ∧ ((SqL K H p ys ∧ ∀ l, H l = none → Q (.ref l) (upd H l (.tup ys))) ∨ (SqT K H p ys ∧ Q (.ref p) H))
def dTuple : List D → Option D
  | [.tup ds] => some (.tup ds)
  | [.lst ds] => some (.tup ds)
  | _ => none
theorem rca_tuple : RCa c (rTp c.K) dTuple := by
  refine rca1 (fun W H x a d w rx e Q q => ?_) rfl (fun a b l => by cases a <;> rfl)
  cases a <;> try (cases e; done)
  · cases e
    cases rx with
    | @tup p xs ds hx r1 => exact ⟨p, xs, rfl, .inr ⟨w.ex.st hx, q _ W H w.nref (.tup hx r1)⟩⟩
  · cases e
    cases rx with
    | @lst p xs ds hx r1 => exact ⟨p, xs, rfl, .inl ⟨w.ex.sl (.inl (.inl hx)), rx_tup w r1 Q q⟩⟩
def rMx2 : List V → Hp → VK → Prop := fun xs H Q => ∃ i j, xs = [.int i, .int j] ∧ Q (.int (if j > i then j else i)) H
def dMax2 : List D → Option D
  | [.int i, .int j] => some (.int (if j > i then j else i))
  | _ => none
theorem rca_max2 : RCa c rMx2 dMax2 := by
  intro W H xs as d w rx e Q q
  cases rx with
  | nil => cases e
  | @cons v vs a as r1 r2 =>
    cases r2 with
    | nil => cases a <;> cases e
    | @cons v2 vs2 a2 as2 r2 r3 =>
      cases r3 with
      | cons _ _ => cases a <;> cases a2 <;> cases e
      | nil =>
        cases a <;> try (cases e; done)
        cases a2 <;> try (cases e; done)
        cases e
        cases r1; cases r2
        exact ⟨_, _, rfl, q _ W H w.nref (.int _)⟩
def rInt : List V → Hp → VK → Prop := fun xs H Q => ((∃ i, xs = [.int i] ∧ Q (.int i) H) ∨ ∃ k, xs = [.bl k] ∧ Q (.int (if k then 1 else 0)) H) ∨ ∃ a n, xs = [.str a] ∧ PySem.intText? a = some n ∧ a.length ≤ 640 ∧ Q (.int n) H
theorem call_intAll {X : Cx} : CallR X (.type "int") rInt := by
  intro pins s σ H xs us Q I r h
  rcases h with h | h
  · exact call_int1 pins s σ H xs us Q I r h
  · exact call_int_str pins s σ H xs us Q I r h
def dIntOf : List D → Option D
  | [.int i] => some (.int i)
  | [.bl k] => some (.int (if k then 1 else 0))
  | [.str z] => if z.length ≤ 640 then (PySem.intText? z).map .int else none
  | _ => none
theorem rca_int : RCa c rInt dIntOf := by
  refine rca1 (fun W H x a d w rx e Q q => ?_) rfl (fun a b l => by cases a <;> rfl)
  cases a <;> try (cases e; done)
  · cases e; cases rx; exact .inl (.inr ⟨_, rfl, q _ W H w.nref (.int _)⟩)
  · cases e; cases rx; exact .inl (.inl ⟨_, rfl, q _ W H w.nref (.int _)⟩)
  · rename_i z
    cases rx
    have e : (if z.length ≤ 640 then (PySem.intText? z).map D.int else none) = some d := e
    split at e
    · rename_i h
      obtain ⟨n, e1, rfl⟩ := Option.map_eq_some_iff.mp e
      exact .inr ⟨z, n, rfl, e1, h, q _ W H w.nref (.int _)⟩
    · cases e
def rAbs : List V → Hp → VK → Prop := fun xs H Q => ∃ i, xs = [.int i] ∧ Q (.int (if i < 0 then -i else i)) H
def dAbs : List D → Option D
  | [.int i] => some (.int (if i < 0 then -i else i))
  | _ => none
theorem rca_abs : RCa c rAbs dAbs := by
  refine rca1 (fun W H x a d w rx e Q q => ?_) rfl (fun a b l => by cases a <;> rfl)
  cases a <;> try (cases e; done)
  cases e; cases rx; exact ⟨_, rfl, q _ W H w.nref (.int _)⟩
def rStrI : List V → Hp → VK → Prop := fun xs H Q => ∃ i, xs = [.int i] ∧ i.natAbs.log2 < 1920 ∧ Q (.str (toString i)) H
def dStrI : List D → Option D
  | [.int i] => if i.natAbs.log2 < 1920 then some (.str (toString i)) else none
  | _ => none
theorem rca_str : RCa c rStrI dStrI := by
  refine rca1 (fun W H x a d w rx e Q q => ?_) rfl (fun a b l => by cases a <;> rfl)
  cases a <;> try (cases e; done)
  rename_i i
  cases rx
  have e : (if i.natAbs.log2 < 1920 then some (D.str (toString i)) else none) = some d := e
  split at e
  · rename_i h
    cases e
    exact ⟨i, rfl, h, q _ W H w.nref (.str _)⟩
  · cases e
def intsD : List D → Option (List Int)
  | [] => some []
  | .int i :: ds => (intsD ds).map (i :: ·)
  | _ => none
theorem ints_reps {K : PySem.W.Frag} {W : Hp} : ∀ {vs : List V} {ds : List D} {ns : List Int}, Reps K W vs ds → intsD ds = some ns → vs = ns.map V.int
  | _, _, _, .nil, e => by cases e; rfl
  | _, _, ns, .cons (d := d) r1 r2, e => by
    cases d <;> try (cases e; done)
    obtain ⟨ms, e1, rfl⟩ := Option.map_eq_some_iff.mp e
    cases r1
    rw [List.map_cons, ints_reps r2 e1]
def dSum : List D → Option D
  | [.lst ds] => (intsD ds).map fun ns => .int ns.sum
  | _ => none
theorem rca_sum : RCa c (rSum c.K) dSum := by
  refine rca1 (fun W H x a d w rx e Q q => ?_) rfl (fun a b l => by cases a <;> rfl)
  cases a <;> try (cases e; done)
  obtain ⟨ns, e1, rfl⟩ := Option.map_eq_some_iff.mp e
  cases rx with
  | @lst p xs ds hx r1 =>
    have := ints_reps r1 e1
    subst this
    exact ⟨p, ns, rfl, w.ex.sl (.inl (.inl hx)), q _ W H w.nref (.int _)⟩
/-! ### truth of data -/
def truD : D → Option Bool
  | .non => some false
  | .bl b => some b
  | .int i => some (i != 0)
  | .str z => if z.length ≤ cap then some ((z.length : Int) != 0) else none
  | .tup ds => some (!ds.isEmpty)
  | .lst ds => some (!ds.isEmpty)
  | .dct kvs => some (!kvs.isEmpty)
  | .frz _ => none
theorem isEmpty_repk {K : PySem.W.Frag} {W : Hp} {vs : List (Key × V)} {ds : List (Key × D)} (r : RepK K W vs ds) : vs.isEmpty = ds.isEmpty := by
  cases r <;> rfl
theorem st_tru {te : TE} {m : MM D} (h : SE c te m) : ST c (tTru c.K te) (bnd m fun d => lft (truD d)) := by
  intro ρ rr e s σ hs Q q
  refine sx_go (t := te) h e hs q fun x a ρ s e hs rx q tr => ?_
  obtain ⟨b, e3, rfl⟩ := lft_cases e
  refine ⟨b, ?_, q _ s hs .refl rfl⟩
  cases a with
  | non => cases e3; cases rx; exact rfl
  | bl b => cases e3; cases rx; exact rfl
  | int i => cases e3; cases rx; exact rfl
  | str z =>
    cases rx
    have e : (if z.length ≤ cap then some ((z.length : Int) != 0) else none) = some b := e3
    split at e
    · rename_i h
      cases e
      exact ⟨cap_le h, rfl⟩
    · cases e
  | tup ds =>
    cases e3
    cases rx with
    | @tup p xs _ hx r1 => exact .inr (.inl ⟨xs, hs.ex.st hx, by rw [isEmpty_reps r1]⟩)
  | lst ds =>
    cases e3
    cases rx with
    | @lst p xs _ hx r1 => exact .inl ⟨xs, hs.ex.sl (.inl (.inl hx)), by rw [isEmpty_reps r1]⟩
  | dct ds =>
    cases e3
    cases rx with
    | @dct p xs _ hx r1 => exact .inr (.inr ⟨xs, hs.ex _ _ hx, by rw [isEmpty_repk r1]⟩)
  | frz ds => cases e3
end
end PD
end
section
set_option maxHeartbeats 0
namespace PD
open PySem PySem.Spec PyProof.Rows L2

/-! ### defs -/
def cleanL : Loc → Loc
  | .pin o => .pin o
  | _ => .non
def clean (n : Nat) (ρ : Env) : Env := (ρ.take n).map cleanL
def isPin : Option Loc → Bool
  | some (.pin _) => true
  | _ => false
/-- what was handed in is still there -/
def okEnd (Pm : Nat → Bool) (n : Nat) (ρ : Env) : Bool := decide (n ≤ ρ.length) && (List.range n).all fun i => Pm i == isPin ρ[i]?
theorem okEnd_of {Pm : Nat → Bool} {n : Nat} {ρ : Env} (h : okEnd Pm n ρ = true) : n ≤ ρ.length ∧ ∀ i, i < n → isPin ρ[i]? = Pm i := by
  unfold okEnd at h
  rw [Bool.and_eq_true] at h
  refine ⟨of_decide_eq_true h.1, fun i hi => ?_⟩
  have := List.all_eq_true.mp h.2 i (List.mem_range.mpr hi)
  exact (beq_iff_eq.mp this).symm
/-- a def's mirror: N names, n parameters -/
def runF (Pm : Nat → Bool) (N n : Nat) (m : MS) (ρ : Env) : Option (Res D) := match m (ρ ++ List.replicate (N - n) .non) with
  | some (.nx ρ') => if okEnd Pm n ρ' = true then some (.ok .non (clean n ρ')) else none
  | some (.rt d ρ') => if okEnd Pm n ρ' = true then some (.ok d (clean n ρ')) else none
  | some (.er x ρ') => if okEnd Pm n ρ' = true then some (.er x (clean n ρ')) else none
  | _ => none
section
variable (K : PySem.W.Frag) (tb : TBs) (ca : Str → Addr) (Pm : Nat → Bool)
/-- data, or handed in -/
def ArgL : Loc → Prop
  | .dat _ => True
  | .pin _ => True
  | _ => False
def spG (n : Nat) (F : Env → Option (Res D)) : Sp := fun vs H Q E => ∃ (ρ : Env) (s : Ws) (r : Res D), vs.length = n ∧ SR K tb ρ s (vs.map some) ∧ s.H = H ∧ (∀ i, Pm i = isPin ρ[i]?) ∧ F ρ = some r ∧ match r with
  | .ok d ρ' => ∀ v s', SR K tb ρ' s' (vs.map some) → Tr Pm s s' → Rep K s'.W v d → Q v s'.H
  | .er x ρ' => ∀ s', SR K tb ρ' s' (vs.map some) → Tr Pm s s' → E (.ref (ca x)) none s'.H
def ccOf (E : XK) : Cc := ⟨K, tb, Pm, fun x _ H => E (.ref (ca x)) none H⟩
end
/-- the wish of an exception, from what is wished by names -/
def wOf (ca : Str → Addr) (xw : Str → L2.St → Hp → Prop) : WX := fun cls d σ H => ∃ x, cls = .ref (ca x) ∧ d = none ∧ xw x σ H
section
variable {K : PySem.W.Frag} {tb : TBs} {ca : Str → Addr} {Pm : Nat → Bool}
theorem SR.extend {ρ : Env} {s : Ws} {σ : L2.St} (h : SR K tb ρ s σ) (k : Nat) : SR K tb (ρ ++ List.replicate k .non) s (σ ++ List.replicate k none) := by
  refine ⟨by rw [List.length_append, List.length_append, List.length_replicate, List.length_replicate, h.len], fun i l e => ?_, fun i hi => h.out i (by rw [List.length_append] at hi; omega), h.inj, h.ex, h.nt, h.tb⟩
  by_cases hi : i < ρ.length
  · rw [List.getElem?_append_left hi] at e
    rw [List.getElem?_append_left (by rw [h.len]; exact hi)]
    exact h.loc i l e
  · rw [List.getElem?_append_right (by omega), List.getElem?_replicate] at e
    split at e
    · cases e
      exact h.out i (by omega)
    · cases e
/-- behind a body: what was handed in -/
theorem SR.clean {ρ : Env} {s s0 : Ws} {σ : L2.St} {vs : List V} {n : Nat} (h : SR K tb ρ s σ) (hn : n ≤ ρ.length) (hv : vs.length = n) (hp : ∀ i o, i < n → ρ[i]? = some (.pin o) → ∃ p, s.A i = some p ∧ vs[i]? = some (.ref p)) :
    SR K tb (clean n ρ) ⟨s.W, s.H, fun i => if isPin ((ρ.take n)[i]?) = true then s.A i else none⟩ (vs.map some) := by
  refine ⟨by rw [List.length_map]; unfold PD.clean; rw [List.length_map, List.length_take]; omega, fun i l e => ?_, fun i hi => ?_, fun i j p a b => ?_, h.ex, h.nt, h.tb⟩
  · unfold PD.clean at e
    rw [List.getElem?_map] at e
    obtain ⟨l0, e0, rfl⟩ := Option.map_eq_some_iff.mp e
    have hi : i < n := by
      have := (List.getElem?_eq_some_iff.mp e0).1
      rw [List.length_take] at this
      omega
    have e1 : ρ[i]? = some l0 := by rw [List.getElem?_take_of_lt hi] at e0; exact e0
    show LocOk K s.W s.H _ (if isPin ((ρ.take n)[i]?) = true then s.A i else none) _
    rw [e0]
    cases l0 with
    | pin o =>
      obtain ⟨p, hA, hv2⟩ := hp i o hi e1
      obtain ⟨p', h1, h2, h3, h4⟩ := h.loc i _ e1
      rw [hA] at h1; cases h1
      refine ⟨p, hA, ?_, h3, h4⟩
      rw [List.getElem?_map, hv2]; rfl
    | non => exact rfl
    | dat d => exact rfl
    | own o => exact rfl
  · show (if isPin ((ρ.take n)[i]?) = true then s.A i else none) = none
    have hi' : n ≤ i := by
      unfold PD.clean at hi
      rw [List.length_map, List.length_take] at hi
      omega
    rw [List.getElem?_eq_none (by rw [List.length_take]; omega)]
    rfl
  · have a' : (if isPin ((ρ.take n)[i]?) = true then s.A i else none) = some p := a
    have b' : (if isPin ((ρ.take n)[j]?) = true then s.A j else none) = some p := b
    split at a'
    · split at b'
      · exact h.inj i j p a' b'
      · cases b'
    · cases a'
theorem tr_clean {s0 s : Ws} {ρ : Env} {n : Nat} (h : Tr Pm s0 s) (hp : ∀ i, Pm i = true → isPin ((ρ.take n)[i]?) = true) : Tr Pm s0 ⟨s.W, s.H, fun i => if isPin ((ρ.take n)[i]?) = true then s.A i else none⟩ := by
  refine ⟨h.w, h.n, h.f, fun a ⟨i, hi⟩ => h.o a ⟨i, ?_⟩, h.p, fun i hi => ?_⟩
  · have hi' : (if isPin ((ρ.take n)[i]?) = true then s.A i else none) = some a := hi
    split at hi'
    · exact hi'
    · cases hi'
  · show (if isPin ((ρ.take n)[i]?) = true then s.A i else none) = s0.A i
    rw [if_pos (hp i hi)]
    exact h.pin i hi
section
variable {P : Program} {w : World} {mg : Str → Option Value} {base : Heap}
/-- what SR and the pins say behind a body -/
theorem post_pins {ρ ρ0 : Env} {s s0 : Ws} {σ : L2.St} {vs : List V} {n : Nat} (h0 : SR K tb ρ0 s0 (vs.map some)) (hn : vs.length = n) (t : Tr Pm s0 s) (hPm : ∀ i, Pm i = isPin ρ0[i]?) (h : SR K tb ρ s σ) (hk : ∀ i, i < n → isPin ρ[i]? = isPin ρ0[i]?) :
    ∀ i o, i < n → ρ[i]? = some (.pin o) → ∃ p, s.A i = some p ∧ vs[i]? = some (.ref p) := by
  intro i o hi e
  have e2 : isPin ρ0[i]? = true := by rw [← hk i hi, e]; rfl
  have e3 : ∃ o0, ρ0[i]? = some (.pin o0) := by
    revert e2
    cases ρ0[i]? with
    | none => intro z; cases z
    | some l => cases l <;> intro z <;> first | exact ⟨_, rfl⟩ | cases z
  obtain ⟨o0, e3⟩ := e3
  obtain ⟨p, h1, h2, _, _⟩ := h0.loc i _ e3
  refine ⟨p, (t.pin i (by rw [hPm, e2])).trans h1, ?_⟩
  rw [List.getElem?_map] at h2
  cases z : vs[i]? with
  | none => rw [z] at h2; cases h2
  | some v => rw [z] at h2; cases h2; rfl
theorem okXC {x qual : Str} {st : Stmt} {f : Addr} {fd : FuncData} {N ps : List Str} {k : Nat} {sp : Sp} (F : Fun K x qual st f fd) (S : FnScope N ps (defScope st)) (len : ∀ vs H Q E, sp vs H Q E → vs.length = ps.length)
    (hbody : ∀ (cdv : Value) (A : Around) (outer : List PySem.Env) (s : Shared) (H : Hp) (vs : List V) (Q : VK) (E : XK), fd.code = cdv → Room k (A.deeper (envOfC qual (defScope st) s.heap.objs.size f cdv)) → sp vs H Q E →
      ∃ t, PSs (cxOf (L2.CX P w) P w K mg base N qual (defScope st) f cdv A outer s H E) (defBody st) t ∧ t { nx := fun _ H' => Q .non H', rt := Q } (start N vs) H) : FnOk P w K mg base (L2.CX P w) (k + 1) f fd ps sp := by
  obtain ⟨oc, od, kV, doc, pm, an, cdv, ct, osl, rfl, lk, hcd⟩ := F.ex
  exact fn_of lk hcd S len fun A outer s H vs Q E hr hsp => hbody cdv A outer s H vs Q E rfl hr hsp
theorem fn_pdC {x qual : Str} {st : Stmt} {f : Addr} {fd : FuncData} {N ps : List Str} {k : Nat} {m : MS} (F : Fun K x qual st f fd) (S : FnScope N ps (defScope st))
    (body : ∀ (cdv : Value) (A : Around) (outer : List PySem.Env) (s : Shared) (H : Hp) (E : XK), fd.code = cdv → Room k (A.deeper (envOfC qual (defScope st) s.heap.objs.size f cdv)) →
      ∃ t, PSs (cxOf (L2.CX P w) P w K mg base N qual (defScope st) f cdv A outer s H E) (defBody st) t ∧ SS (ccOf K tb ca Pm E) t m) :
    FnOk P w K mg base (L2.CX P w) (k + 1) f fd ps (spG K tb ca Pm ps.length (runF Pm N.length ps.length m)) := by
  refine okXC F S (fun vs H Q E h => ?_) (fun cdv A outer s H vs Q E hcdv hr h => ?_)
  · obtain ⟨_, _, _, h, _⟩ := h; exact h
  · obtain ⟨ρ, s0, r, hv, hs, rfl, hPm, hF, post⟩ := h
    obtain ⟨t, h1, h2⟩ := body cdv A outer s s0.H E hcdv hr
    refine ⟨t, h1, ?_⟩
    have hρ : ρ.length = ps.length := by rw [← hs.len, List.length_map, hv]
    have hs' := hs.extend (N.length - ps.length)
    have est : L2.start N vs = vs.map some ++ List.replicate (N.length - ps.length) none := by unfold L2.start; rw [hv]
    rw [est]
    unfold runF at hF
    have pin1 : ∀ {ρ' : Env}, okEnd Pm ps.length ρ' = true → ∀ i, i < ps.length → isPin ρ'[i]? = isPin ρ[i]? := fun {ρ'} e i hi => by
      rw [(okEnd_of e).2 i hi, hPm]
    have pin2 : ∀ {ρ' : Env}, okEnd Pm ps.length ρ' = true → ∀ i, Pm i = true → isPin ((ρ'.take ps.length)[i]?) = true := fun {ρ'} e i hi => by
      have hlt : i < ps.length := by
        by_cases z : i < ps.length
        · exact z
        · rw [hPm, List.getElem?_eq_none (by omega)] at hi; cases hi
      rw [List.getElem?_take_of_lt hlt, (okEnd_of e).2 i hlt]
      exact hi
    split at hF
    · rename_i ρ' e
      split at hF
      · rename_i ok
        cases hF
        refine h2 _ _ e s0 _ hs' _ fun s' σ' a b => ?_
        have pp := post_pins (n := ps.length) hs hv b hPm a (pin1 ok)
        exact post .non ⟨s'.W, s'.H, fun i => if isPin ((ρ'.take ps.length)[i]?) = true then s'.A i else none⟩ (a.clean (s0 := s0) (okEnd_of ok).1 hv pp) (tr_clean b (pin2 ok)) .non
      · cases hF
    · rename_i d ρ' e
      split at hF
      · rename_i ok
        cases hF
        refine h2 _ _ e s0 _ hs' _ fun v s' σ' a b r => ?_
        have pp := post_pins (n := ps.length) hs hv b hPm a (pin1 ok)
        exact post v ⟨s'.W, s'.H, fun i => if isPin ((ρ'.take ps.length)[i]?) = true then s'.A i else none⟩ (a.clean (s0 := s0) (okEnd_of ok).1 hv pp) (tr_clean b (pin2 ok)) r
      · cases hF
    · rename_i y ρ' e
      split at hF
      · rename_i ok
        cases hF
        refine h2 _ _ e s0 _ hs' _ fun s' σ' a b => ?_
        have pp := post_pins (n := ps.length) hs hv b hPm a (pin1 ok)
        exact post ⟨s'.W, s'.H, fun i => if isPin ((ρ'.take ps.length)[i]?) = true then s'.A i else none⟩ (a.clean (s0 := s0) (okEnd_of ok).1 hv pp) (tr_clean b (pin2 ok))
      · cases hF
    · cases hF
theorem fn_pd {x qual : Str} {st : Stmt} {f : Addr} {fd : FuncData} {N ps : List Str} {k : Nat} {m : MS} (F : Fun K x qual st f fd) (S : FnScope N ps (defScope st))
    (body : ∀ (cdv : Value) (A : Around) (outer : List PySem.Env) (s : Shared) (H : Hp) (E : XK), Room k (A.deeper (envOfC qual (defScope st) s.heap.objs.size f cdv)) →
      ∃ t, PSs (cxOf (L2.CX P w) P w K mg base N qual (defScope st) f cdv A outer s H E) (defBody st) t ∧ SS (ccOf K tb ca Pm E) t m) :
    FnOk P w K mg base (L2.CX P w) (k + 1) f fd ps (spG K tb ca Pm ps.length (runF Pm N.length ps.length m)) := fn_pdC F S fun cdv A outer s H E _ hr => body cdv A outer s H E hr
end
end

/-! ### calls of defs -/
def noPin : Nat → Bool := fun _ => false
def pin0 : Nat → Bool := fun i => i == 0
def mCall (F : Env → Option (Res D)) (ma : MM (List D)) : MM D := bnd ma fun ds ρ => match F (ds.map .dat) with
  | some (.ok d _) => some (.ok d ρ)
  | some (.er x _) => some (.er x ρ)
  | none => none
def locsP (o : Own) (ds : List D) : Env := .pin o :: ds.map .dat
def mCallP (F : Env → Option (Res D)) (j : Nat) (ma : MM (List D)) : MM D := fun ρ => match ownAt ρ j with
  | some _ => bnd ma (fun ds ρ => match ownAt ρ j with
    | some o => match F (locsP o ds) with
      | some (.ok d (.pin o2 :: _)) => some (.ok d (ownSet ρ j o2))
      | some (.er x (.pin o2 :: _)) => some (.er x (ownSet ρ j o2))
      | _ => none
    | none => none) ρ
  | none => none
section
variable {c : Cc} {ca : Str → Addr}
theorem sr_dat {vs : List V} {ds : List D} {W H : Hp} (r : Reps c.K W vs ds) (w : Wd c W H) : SR c.K c.tb (ds.map .dat) ⟨W, H, fun _ => none⟩ (vs.map some) := by
  refine ⟨by rw [List.length_map, List.length_map, r.length], fun i l e => ?_, fun _ _ => rfl, (fun i j p a => nomatch a), w.ex, w.nt, w.tb⟩
  rw [List.getElem?_map] at e
  obtain ⟨d, e1, rfl⟩ := Option.map_eq_some_iff.mp e
  obtain ⟨v, hv, rv⟩ := r.getD e1
  exact ⟨rfl, v, by rw [List.getElem?_map, hv]; rfl, rv⟩
theorem nw_of_tr {W H : Hp} {s' : Ws} {ρ : Env} {σ : L2.St} (t : Tr noPin ⟨W, H, fun _ => none⟩ s') (h : SR c.K c.tb ρ s' σ) : Nw c.tb W H s'.W s'.H := by
  have no : ∀ a, ¬ OwnsA ⟨W, H, fun _ => none⟩ a := fun a ⟨i, hi⟩ => nomatch hi
  exact ⟨t.w, h.ex, h.nt, fun a h1 h2 => t.n a h1 (no a) h2, fun a o h1 h2 => t.f a o (no a) h1 h2, t.p, h.tb⟩
theorem isPin_dat (ds : List D) (i : Nat) : isPin ((ds.map Loc.dat)[i]?) = false := by
  rw [List.getElem?_map]
  cases ds[i]? <;> rfl
theorem se_call {n : Nat} {F : Env → Option (Res D)} {t : TA} {ma : MM (List D)} (h : SA c t ma) (hn : ∀ ρ as ρ', ma ρ = some (.ok as ρ') → as.length = n) :
    SE c (tCallSD (spG c.K c.tb ca noPin n F) [] (WE (wOf ca c.xw)) t) (mCall F ma) := by
  intro ρ rr e s σ hs Q q
  rcases bnd_cases e with ⟨as, ρ1, e1, e2⟩ | ⟨x, ρ1, e1, rfl⟩
  · refine h ρ _ e1 s σ hs _ fun vs s1 hs1 t1 rv => ?_
    have q1 := q.after t1
    have len := hn _ _ _ e1
    have fin : ∃ r, F (as.map .dat) = some r ∧ (match r with
        | .ok d ρ' => ∀ v s', SR c.K c.tb ρ' s' ((vs ++ []).map some) → Tr noPin ⟨s1.W, s1.H, fun _ => none⟩ s' → Rep c.K s'.W v d → Q v s'.H
        | .er x ρ' => ∀ s', SR c.K c.tb ρ' s' ((vs ++ []).map some) → Tr noPin ⟨s1.W, s1.H, fun _ => none⟩ s' → WE (wOf ca c.xw) σ (.ref (ca x)) none s'.H) := by
      have e2 : (match F (as.map .dat) with
        | some (.ok d _) => some (.ok d ρ1)
        | some (.er x _) => some (.er x ρ1)
        | none => none) = some rr := e2
      split at e2
      · rename_i d ρ' eF
        cases e2
        exact ⟨_, eF, fun v s' a b r => q1 v ⟨s'.W, s'.H, s1.A⟩ (hs1.nw (nw_of_tr b a)) (.nw (nw_of_tr b a)) r⟩
      · rename_i x ρ' eF
        cases e2
        exact ⟨_, eF, fun s' a b => ⟨x, rfl, rfl, q1 ⟨s'.W, s'.H, s1.A⟩ (hs1.nw (nw_of_tr b a)) (.nw (nw_of_tr b a))⟩⟩
      · cases e2
    obtain ⟨r, hF, hp⟩ := fin
    refine ⟨as.map .dat, ⟨s1.W, s1.H, fun _ => none⟩, r, ?_, ?_, rfl, fun i => (isPin_dat as i).symm, hF, hp⟩
    · rw [List.append_nil, rv.length, len]
    · rw [List.append_nil]; exact sr_dat rv hs1.wd
  · exact h ρ _ e1 s σ hs _ fun s1 a b => q s1 a b
theorem sr_pin {vs : List V} {ds : List D} {W H : Hp} {p : Addr} {o : Own} (r : Reps c.K W vs ds) (w : Wd c W H) (wp : W p = none) (ho : OwnOk c.K W H p o) : SR c.K c.tb (locsP o ds) ⟨W, H, fun i => if i = 0 then some p else none⟩ ((V.ref p :: vs).map some) := by
  refine ⟨?_, fun i l e => ?_, fun i hi => ?_, fun i j q a b => ?_, w.ex, w.nt, w.tb⟩
  · unfold locsP
    rw [List.length_map, List.length_cons, List.length_cons, List.length_map, r.length]
  · cases i with
    | zero =>
      have e : some (Loc.pin o) = some l := e
      cases e
      exact ⟨p, rfl, rfl, wp, ho⟩
    | succ i =>
      have e : (ds.map Loc.dat)[i]? = some l := e
      rw [List.getElem?_map] at e
      obtain ⟨d, e1, rfl⟩ := Option.map_eq_some_iff.mp e
      obtain ⟨v, hv, rv⟩ := r.getD e1
      refine ⟨rfl, v, ?_, rv⟩
      show ((vs.map some)[i]?).getD none = some v
      rw [List.getElem?_map, hv]; rfl
  · have : 0 < i := by unfold locsP at hi; rw [List.length_cons] at hi; omega
    exact if_neg (by omega)
  · have a' : (if i = 0 then some p else none) = some q := a
    have b' : (if j = 0 then some p else none) = some q := b
    split at a'
    · split at b'
      · omega
      · cases b'
    · cases a'
theorem isPin_locsP (o : Own) (ds : List D) (i : Nat) : isPin ((locsP o ds)[i]?) = pin0 i := by
  cases i with
  | zero => rfl
  | succ i => exact isPin_dat ds i
/-- behind a call that changed what slot j has -/
theorem sr_back {ρ : Env} {s s' : Ws} {σ : L2.St} {j : Nat} {o o2 : Own} {p : Addr} {ρ2 : Env} {σ2 : L2.St} (hs : SR c.K c.tb ρ s σ) (e : ownAt ρ j = some o) (hA : s.A j = some p) (t : Tr pin0 ⟨s.W, s.H, fun i => if i = 0 then some p else none⟩ s') (h : SR c.K c.tb (.pin o2 :: ρ2) s' σ2) (hv : σ2[0]? = some (some (.ref p))) :
    SR c.K c.tb (ownSet ρ j o2) ⟨s'.W, s'.H, s.A⟩ σ ∧ Tr c.P s ⟨s'.W, s'.H, s.A⟩ := by
  have ow : ∀ a, OwnsA ⟨s.W, s.H, fun i => if i = 0 then some p else none⟩ a → a = p := fun a ⟨i, hi⟩ => by
    have hi' : (if i = 0 then some p else none) = some a := hi
    split at hi'
    · exact (Option.some.inj hi').symm
    · cases hi'
  obtain ⟨p', hA', hv', wp, ho⟩ := hs.own e
  rw [hA] at hA'; cases hA'
  obtain ⟨z, hz, nz⟩ := ho.there
  obtain ⟨p2, k1, k2, k3, k4⟩ := h.loc 0 (.pin o2) rfl
  have : p2 = p := by
    rw [hv] at k2
    cases k2; rfl
  subst this
  have len : (ownSet ρ j o2).length = ρ.length := by
    unfold ownSet; split <;> rw [List.length_set]
  refine ⟨⟨hs.len.trans len.symm, fun i l el => ?_, fun i hi => hs.out i (by rw [len] at hi; exact hi), hs.inj, h.ex, h.nt, h.tb⟩, ⟨t.w, fun a h1 h2 h3 => ?_, fun a u h1 h2 h3 => ?_, fun a h => .inl h, t.p, fun _ _ => rfl⟩⟩
  · by_cases hi : i = j
    · have gl : LocOk c.K s'.W s'.H ((σ[i]?).getD none) (s.A i) (.own o2) := by rw [hi]; exact ⟨p2, hA, by rw [hv']; rfl, k3, k4⟩
      have hl : l = .own o2 ∨ l = .pin o2 := by
        rw [hi] at el
        unfold ownSet at el
        split at el
        · rcases getElem_set el with ⟨_, q, _⟩ | ⟨q, _⟩
          · exact .inr q
          · exact absurd rfl q
        · rcases getElem_set el with ⟨_, q, _⟩ | ⟨q, _⟩
          · exact .inl q
          · exact absurd rfl q
      rcases hl with rfl | rfl
      · exact gl
      · exact gl
    · have ej' : ρ[i]? = some l := by
        unfold ownSet at el
        split at el
        · exact (List.getElem?_set_ne (Ne.symm hi)).symm.trans el
        · exact (List.getElem?_set_ne (Ne.symm hi)).symm.trans el
      have np : ∀ a, s.A i = some a → a ≠ p2 := fun a ha w => hi (hs.inj i j a ha (by rw [hA, w]))
      exact (hs.loc i l ej').mono t.w (fun a ha h1 h2 => t.n a h1 (fun z => np a ha (ow a z)) h2) fun a ha u nu hu => t.f a u (fun z => np a ha (ow a z)) hu nu
  · exact t.n a h1 (fun z => h2 (by rw [ow a z]; exact ⟨j, hA⟩)) h3
  · exact t.f a u (fun z => h1 (by rw [ow a z]; exact ⟨j, hA⟩)) h2 h3
theorem se_callP {n j : Nat} {F : Env → Option (Res D)} {t : TA} {ma : MM (List D)} (h : SA c t ma) (hn : ∀ ρ as ρ', ma ρ = some (.ok as ρ') → as.length + 1 = n) :
    SE c (tCallSD (spG c.K c.tb ca pin0 n F) [] (WE (wOf ca c.xw)) (tCons (tVar j) t)) (mCallP F j ma) := by
  intro ρ rr e s σ hs Q q
  have e : (match ownAt ρ j with
    | some _ => bnd ma (fun ds ρ => match ownAt ρ j with
      | some o => match F (locsP o ds) with
        | some (.ok d (.pin o2 :: _)) => some (Res.ok d (ownSet ρ j o2))
        | some (.er x (.pin o2 :: _)) => some (.er x (ownSet ρ j o2))
        | _ => none
      | none => none) ρ
    | none => none) = some rr := e
  split at e
  · rename_i o0 eo0
    obtain ⟨p, hA, hv, wp, ho⟩ := hs.own eo0
    refine ⟨.ref p, hv, ?_⟩
    rcases bnd_cases e with ⟨as, ρ1, e1, e2⟩ | ⟨x, ρ1, e1, rfl⟩
    · refine h ρ _ e1 s σ hs _ fun vs s1 hs1 t1 rv => ?_
      have q1 := q.after t1
      have len := hn _ _ _ e1
      split at e2
      · rename_i o eo
        obtain ⟨p1, hA1, hv1, wp1, ho1⟩ := hs1.own eo
        rw [hv] at hv1
        cases hv1
        have fin : ∃ r, F (locsP o as) = some r ∧ (match r with
          | .ok d ρ' => ∀ v s', SR c.K c.tb ρ' s' ((V.ref p :: vs ++ []).map some) → Tr pin0 ⟨s1.W, s1.H, fun i => if i = 0 then some p else none⟩ s' → Rep c.K s'.W v d → Q v s'.H
          | .er x ρ' => ∀ s', SR c.K c.tb ρ' s' ((V.ref p :: vs ++ []).map some) → Tr pin0 ⟨s1.W, s1.H, fun i => if i = 0 then some p else none⟩ s' → WE (wOf ca c.xw) σ (.ref (ca x)) none s'.H) := by
          split at e2
          · rename_i d o2 ρ' eF
            cases e2
            refine ⟨_, eF, fun v s' a b r => ?_⟩
            obtain ⟨k1, k2⟩ := sr_back hs1 eo hA1 b a rfl
            exact q1 v ⟨s'.W, s'.H, s1.A⟩ k1 k2 r
          · rename_i x o2 ρ' eF
            cases e2
            refine ⟨_, eF, fun s' a b => ?_⟩
            obtain ⟨k1, k2⟩ := sr_back hs1 eo hA1 b a rfl
            exact ⟨x, rfl, rfl, q1 ⟨s'.W, s'.H, s1.A⟩ k1 k2⟩
          · cases e2
        obtain ⟨r, hF, hp⟩ := fin
        refine ⟨locsP o as, ⟨s1.W, s1.H, fun i => if i = 0 then some p else none⟩, r, ?_, ?_, rfl, fun i => (isPin_locsP o as i).symm, hF, hp⟩
        · rw [List.append_nil, List.length_cons, rv.length, len]
        · rw [List.append_nil]; exact sr_pin rv hs1.wd wp1 ho1
      · cases e2
    · exact h ρ _ e1 s σ hs _ fun s1 a b => q s1 a b
  · cases e
/-! ### raise -/
def mRaise (x : Str) : MS := fun ρ => some (.er x ρ)
def mRaiseE (x : Str) (m : MM D) : MS := mE m fun _ ρ => some (.er x ρ)
theorem ss_raise {x : Str} : SS c (fun _ σ H => wOf ca c.xw (.ref (ca x)) none σ H) (mRaise x) := by
  intro ρ o e s σ hs E q
  cases e
  exact ⟨x, rfl, rfl, q s σ hs .refl⟩
theorem ss_raiseE {x : Str} {te : TE} {m : MM D} (h : SE c te m) : SS c (fun _ σ H => te σ H fun _ H1 => wOf ca c.xw (.ref (ca x)) none σ H1) (mRaiseE x m) := by
  intro ρ o e s σ hs E q
  refine ss_go (t := te) (R := fun _ H1 => wOf ca c.xw (.ref (ca x)) none σ H1) h e hs q fun v d ρ s e hs rx q tr => ?_
  cases e
  exact ⟨x, rfl, rfl, q s σ hs .refl⟩
end
end PD
end
section
set_option maxHeartbeats 0
namespace PD
open PySem PySem.Spec PyProof.Rows L2

/-! ### a list or tuple, walked -/
def iSeq (K : PySem.W.Frag) (tl : TE) : TI := fun σ H R => tl σ H fun x H1 => ∃ a, x = .ref a ∧ (((∃ xs, SqL K H1 a xs) ∧ R (Itl K a) H1) ∨ ((∃ xs, SqT K H1 a xs) ∧ R (Itt K a) H1))
section
variable {X : Cx} {tg : Expr}
theorem pi_seq {l : Expr} {tl : TE} (hl : PE X l tl) : PI X tg l (iSeq X.K tl) := by
  refine ⟨fun pins s σ H R I h => ?_⟩
  refine thn (hl.run pins s σ H _ I h) fun v s1 ⟨x, H1, I1, r1, q1⟩ => ?_
  obtain ⟨a, e, h1⟩ := q1
  subst e
  cases r1
  rcases h1 with ⟨⟨xs, hq⟩, q⟩ | ⟨⟨xs, hq⟩, q⟩
  · obtain ⟨its, rv, p, hz⟩ := I1.list hq
    refine wpAny_pyIter_list p.isList ?_
    refine ⟨s1.heap.objs.size, [s1.heap.objs.size], _, _, H1, rfl, I1.kept (t' := s1.toks) fun b o e => Heap.get?_push_of_some _ e, turn_list a _, ⟨_, Heap.get?_push_size _ rfl, rfl, rfl⟩, fun b hb => ?_, q⟩
    have e : b = s1.heap.objs.size := by simpa using hb
    subst e
    exact I1.fpOk (Nat.le_refl _) (I1.hok.fresh (Nat.le_refl _))
  · obtain ⟨its, rv, p, hz⟩ := I1.tuple hq
    refine wpAny_pyIter_tuple (show s1.heap.IsTuple a its.toArray from p) ?_
    refine ⟨s1.heap.objs.size, [s1.heap.objs.size], _, _, H1, rfl, I1.kept (t' := s1.toks) fun b o e => Heap.get?_push_of_some _ e, turn_tuple a _, ⟨_, Heap.get?_push_size _ rfl, rfl, rfl⟩, fun b hb => ?_, q⟩
    have e : b = s1.heap.objs.size := by simpa using hb
    subst e
    exact I1.fpOk (Nat.le_refl _) (I1.hok.fresh (Nat.le_refl _))
end

/-! ### comprehensions -/
def wipeE (ρ : Env) : List Nat → Env
  | [] => ρ
  | v :: vs => (wipeE ρ vs).set v .non
def compL (g : D → Env → Option Env) (t : MM Bool) (e : MM D) (vs : List Nat) : List D → List D → Env → Option (List D × Env)
  | [], acc, ρ => some (acc, ρ)
  | d :: ds, acc, ρ => match g d ρ with
    | none => none
    | some ρ1 => match t ρ1 with
      | some (.ok true ρ2) => match e ρ2 with
        | some (.ok y ρ3) => if acc.length < cap then compL g t e vs ds (acc ++ [y]) (wipeE ρ3 vs) else none
        | _ => none
      | some (.ok false ρ2) => compL g t e vs ds acc (wipeE ρ2 vs)
      | _ => none
def restE (ρ : Env) : List Nat → Env → Env
  | [], ρ' => ρ'
  | v :: vs, ρ' => restE ρ vs (ρ'.set v (match ρ[v]? with
    | some (.dat d) => .dat d
    | _ => .non))
def mComp (mi : MM (List D)) (vs : List Nat) (g : D → Env → Option Env) (t : MM Bool) (e : MM D) : MM (List D) := bnd mi fun ds ρ => match compL g t e vs ds [] (wipeE ρ vs) with
  | some (ys, ρ') => some (.ok ys (restE ρ vs ρ'))
  | none => none
theorem wipe_get (σ : L2.St) (i : Nat) : ∀ vs : List Nat, (wipe σ vs)[i]? = if i ∈ vs ∧ i < σ.length then some none else σ[i]?
  | [] => by simp [wipe]
  | v :: vs => by
    unfold wipe
    by_cases h : v = i
    · subst h
      by_cases hl : v < σ.length
      · rw [List.getElem?_set_self (by rw [wipe_length]; exact hl), if_pos ⟨List.mem_cons_self, hl⟩]
      · rw [List.getElem?_eq_none (by rw [List.length_set, wipe_length]; omega), if_neg (fun z => hl z.2), List.getElem?_eq_none (by omega)]
    · rw [List.getElem?_set_ne h, wipe_get σ i vs]
      have : (i ∈ v :: vs) ↔ i ∈ vs := by
        rw [List.mem_cons]
        exact ⟨fun z => z.resolve_left (fun w => h w.symm), .inr⟩
      simp only [this]
theorem wipe_wipe (σ : L2.St) (vs : List Nat) : wipe (wipe σ vs) vs = wipe σ vs := by
  apply List.ext_getElem?
  intro i
  rw [wipe_get, wipe_length, wipe_get]
  split
  · rfl
  · rfl
theorem wipe_set (σ : L2.St) (vs : List Nat) (i : Nat) (x : Option V) (h : i ∈ vs) : wipe (σ.set i x) vs = wipe σ vs := by
  apply List.ext_getElem?
  intro j
  rw [wipe_get, wipe_get, List.length_set]
  split
  · rfl
  · rename_i hn
    by_cases e : j = i
    · subst e
      have hl : ¬ j < σ.length := fun z => hn ⟨h, z⟩
      rw [List.getElem?_eq_none (by rw [List.length_set]; omega), List.getElem?_eq_none (by omega)]
    · rw [List.getElem?_set_ne (Ne.symm e)]
/-- a target that stores into the block's own slots alone -/
def GW (vs : List Nat) (g : TG) : Prop := ∀ v σ H (Q : L2.St → Hp → Prop), (g v σ H fun σ' H' => wipe σ' vs = wipe σ vs → Q σ' H') → g v σ H fun σ' H' => wipe σ' vs = wipe σ vs ∧ Q σ' H'
def GWs (vs : List Nat) (g : TGs) : Prop := ∀ v σ H (Q : L2.St → Hp → Prop), (g v σ H fun σ' H' => wipe σ' vs = wipe σ vs → Q σ' H') → g v σ H fun σ' H' => wipe σ' vs = wipe σ vs ∧ Q σ' H'
theorem gw_name {vs : List Nat} {i : Nat} (h : i ∈ vs) : GW vs (gName i) := fun v σ H Q q => ⟨wipe_set σ vs i _ h, q (wipe_set σ vs i _ h)⟩
theorem gw_nil {vs : List Nat} : GWs vs gNil := fun v σ H Q ⟨e, q⟩ => ⟨e, rfl, q rfl⟩
theorem gw_cons {vs : List Nat} {i : Nat} {u : TGs} (h : i ∈ vs) (k : GWs vs u) : GWs vs (gCons (gName i) u) := fun v σ H Q ⟨a, r, e, q⟩ => by
  refine ⟨a, r, e, ?_⟩
  have q : u r (σ.set i (some a)) H fun σ' H' => wipe σ' vs = wipe σ vs → Q σ' H' := q
  rw [← wipe_set σ vs i (some a) h] at q
  have z := k r (σ.set i (some a)) H Q q
  rw [wipe_set σ vs i _ h] at z
  exact z
theorem gw_tup {vs : List Nat} {K : PySem.W.Frag} {n : Nat} {u : TGs} (k : GWs vs u) : GW vs (gTup K n u) := fun v σ H Q ⟨a, xs, e, h1, h2, q⟩ => ⟨a, xs, e, h1, h2, k xs σ H Q q⟩
section
variable {c : Cc}
theorem sr_wipe : ∀ (vs : List Nat) {ρ : Env} {s : Ws} {σ : L2.St}, SR c.K c.tb ρ s σ → (∀ v ∈ vs, c.P v = false) → ∃ A, SR c.K c.tb (wipeE ρ vs) ⟨s.W, s.H, A⟩ (wipe σ vs) ∧ Tr c.P s ⟨s.W, s.H, A⟩
  | [], ρ, s, σ, h, _ => ⟨s.A, h, .refl⟩
  | v :: vs, ρ, s, σ, h, hP => by
    obtain ⟨A, k1, k2⟩ := sr_wipe vs h fun v hv => hP v (List.mem_cons_of_mem _ hv)
    by_cases hi : v < (wipeE ρ vs).length
    · exact ⟨updA A v none, k1.letgo (l := .non) (ov := none) (oa := none) hi rfl (fun _ z => nomatch z), k2.trans (tr_letgo (s := ⟨s.W, s.H, A⟩) (oa := none) (hP v List.mem_cons_self) (fun _ z => nomatch z))⟩
    · refine ⟨A, ?_, k2⟩
      unfold wipeE wipe
      rw [List.set_eq_of_length_le (by omega), List.set_eq_of_length_le (by rw [k1.len]; omega)]
      exact k1
/-- the block's own slots get back what they had -/
theorem sr_rest : ∀ (vs : List Nat) {ρ ρ0 : Env} {s s0 : Ws} {σ : L2.St}, SR c.K c.tb ρ0 s0 σ → Ex s0.W s.W → SR c.K c.tb ρ s (wipe σ vs) → vs.Nodup → (∀ v ∈ vs, v < ρ0.length) → (∀ v ∈ vs, c.P v = false) → ∃ A, SR c.K c.tb (restE ρ0 vs ρ) ⟨s.W, s.H, A⟩ σ ∧ Tr c.P s ⟨s.W, s.H, A⟩
  | [], ρ, ρ0, s, s0, σ, h0, e, h, _, _, _ => ⟨s.A, h, .refl⟩
  | v :: vs, ρ, ρ0, s, s0, σ, h0, e, h, nd, hl, hP => by
    have hv : v ∉ vs := (List.nodup_cons.mp nd).1
    have hlt : v < σ.length := by rw [h0.len]; exact hl v List.mem_cons_self
    have lw : (wipe σ vs).length = σ.length := wipe_length σ vs
    have hlr : v < ρ.length := by
      rw [← h.len]
      unfold wipe
      rw [List.length_set, lw]; exact hlt
    have hg : (wipe σ vs)[v]? = σ[v]? := by rw [wipe_get, if_neg (fun z => hv z.1)]
    obtain ⟨x, hx⟩ : ∃ x, σ[v]? = some x := ⟨_, List.getElem?_eq_getElem hlt⟩
    have back : ((wipe σ vs).set v none).set v x = wipe σ vs := by
      apply List.ext_getElem?
      intro j
      by_cases ej : j = v
      · subst ej
        rw [List.getElem?_set_self (by rw [List.length_set, lw]; exact hlt), hg, hx]
      · rw [List.getElem?_set_ne (Ne.symm ej), List.getElem?_set_ne (Ne.symm ej)]
    have ok : LocOk c.K s.W s.H x none (match ρ0[v]? with
      | some (.dat d) => Loc.dat d
      | _ => .non) := by
      split
      · rename_i d ed
        obtain ⟨_, u, hu, ru⟩ := h0.loc v _ ed
        rw [hx] at hu
        exact ⟨rfl, u, hu, ru.mono e⟩
      · exact rfl
    have k := h.letgo (oa := none) hlr ok (fun _ z => nomatch z)
    unfold wipe at k
    rw [back] at k
    obtain ⟨A, k1, k2⟩ := sr_rest vs (s := ⟨s.W, s.H, updA s.A v none⟩) h0 e k (List.nodup_cons.mp nd).2 (fun u hu => hl u (List.mem_cons_of_mem _ hu)) fun u hu => hP u (List.mem_cons_of_mem _ hu)
    exact ⟨A, k1, (tr_letgo (oa := none) (hP v List.mem_cons_self) (fun _ z => nomatch z)).trans k2⟩
/-- where a comprehension stands ahead of turn i -/
def CompAt (c : Cc) (g : D → Env → Option Env) (t : MM Bool) (e : MM D) (vs : List Nat) (ds : List D) (s : Ws) (σ : L2.St) (r : List D × Env) (L : Addr) (i : Nat) (H : Hp) : Prop :=
  ∃ ρ s' acc dacc, SR c.K c.tb ρ s' (wipe σ vs) ∧ s'.H = H ∧ Tr c.P s s' ∧ H L = some (.lst acc) ∧ Reps c.K s'.W acc dacc ∧ s'.W L = none ∧ ¬ OwnsA s' L ∧ compL g t e vs (ds.drop i) dacc ρ = some r
/-- the list that is being made grows -/
theorem sr_grow {ρ : Env} {s : Ws} {σ : L2.St} {L : Addr} {acc ys : List V} (h : SR c.K c.tb ρ s σ) (hL : s.H L = some (.lst acc)) (wL : s.W L = none) (nL : ¬ OwnsA s L) : SR c.K c.tb ρ ⟨s.W, upd s.H L (.lst ys), s.A⟩ σ := by
  refine ⟨h.len, fun i l e => (h.loc i l e).mono (Ex.refl _) (fun _ _ _ w => w) fun p hp u _ q => ?_, h.out, h.inj, fun a o q => ?_, h.nt, h.tb.ext fun a o q n1 n2 => ?_⟩
  · have : p ≠ L := fun z => nL ⟨i, by rw [← z]; exact hp⟩
    exact (upd_ne this).trans q
  · have : a ≠ L := fun z => by rw [z, wL] at q; cases q
    show upd s.H L (.lst ys) a = some o
    rw [upd_ne this]; exact h.ex a o q
  · have : a ≠ L := fun z => by rw [z, hL] at q; cases q; exact n1 _ rfl
    exact (upd_ne this).trans q
theorem tr_grow {s0 s : Ws} {L : Addr} {ys : List V} (t : Tr c.P s0 s) (hL : s0.H L = none) : Tr c.P s0 ⟨s.W, upd s.H L (.lst ys), s.A⟩ := by
  refine ⟨t.w, t.n, fun a u h1 h2 h3 => ?_, t.o, fun a h => ?_, t.pin⟩
  · have : a ≠ L := fun z => by rw [z, hL] at h2; cases h2
    show upd s.H L (.lst ys) a = some u
    rw [upd_ne this]; exact t.f a u h1 h2 h3
  · have : a ≠ L := fun z => h (by rw [z]; exact hL)
    show upd s.H L (.lst ys) a ≠ none
    rw [upd_ne this]; exact t.p a h
theorem comp_turnR {c' : Cc} {g : TG} {tt : TT} {te : TE} {mg : D → Env → Option Env} {mt : MM Bool} {me : MM D} {vs : List Nat} {ds : List D} {s : Ws} {σ : L2.St} {r : List D × Env} {L : Addr} (hc : c'.K = c.K ∧ c'.tb = c.tb ∧ c'.P = c.P) (hg : SG c' g mg) (hw : GW vs g) (ht : ST c' tt mt) (he : SE c' te me) (hP : ∀ v ∈ vs, c.P v = false)
    (hL : s.H L = none) {i : Nat} {d : D} {x : V} {H : Hp} (hd : ds[i]? = some d)
    (h : ∃ ρ s' acc dacc, SR c.K c.tb ρ s' (wipe σ vs) ∧ s'.H = H ∧ Tr c.P s s' ∧ H L = some (.lst acc) ∧ Reps c.K s'.W acc dacc ∧ s'.W L = none ∧ ¬ OwnsA s' L ∧ compL mg mt me vs (ds.drop i) dacc ρ = some r ∧ Rep c.K s'.W x d) :
    g x (wipe σ vs) H fun σ2 H2 => wipe σ2 vs = wipe σ vs ∧ tt σ2 H2 fun b H3 => if b = true then te σ2 H3 fun y H4 => ∃ acc, H4 L = some (.lst acc) ∧ acc.length < sizeLine ∧ CompAt c mg mt me vs ds s σ r L (i + 1) (upd H4 L (.lst (acc ++ [y]))) else CompAt c mg mt me vs ds s σ r L (i + 1) H3 := by
  obtain ⟨K', tb', P', xw'⟩ := c'
  obtain ⟨rfl, rfl, rfl⟩ := hc
  obtain ⟨ρ, s1, acc, dacc, hs, rfl, tr, hacc, racc, wL, nL, e, rv0⟩ := h
  have hi := (List.getElem?_eq_some_iff.mp hd).1
  have hd2 : ds.drop i = d :: ds.drop (i + 1) := by
    rw [List.drop_eq_getElem_cons hi, (List.getElem?_eq_some_iff.mp hd).2]
  rw [hd2] at e
  unfold compL at e
  have keep : ∀ {s2 : Ws}, Tr c.P s1 s2 → s2.H L = some (.lst acc) ∧ s2.W L = none ∧ ¬ OwnsA s2 L := fun {s2} t => by
    refine ⟨t.f L _ nL hacc (fun _ z => nomatch z), t.n L (by rw [hacc]; exact fun z => nomatch z) nL wL, fun z => ?_⟩
    rcases t.o L z with z | z
    · exact nL z
    · rw [hacc] at z; cases z
  split at e
  · cases e
  · rename_i ρ1 e1
    have z := hg d ρ ρ1 e1 x s1 (wipe σ vs) hs rv0 (fun σ2 H2 => wipe σ2 vs = wipe σ vs → tt σ2 H2 fun b H3 => if b = true then te σ2 H3 fun y H4 => ∃ acc, H4 L = some (.lst acc) ∧ acc.length < sizeLine ∧ CompAt c mg mt me vs ds s σ r L (i + 1) (upd H4 L (.lst (acc ++ [y]))) else CompAt c mg mt me vs ds s σ r L (i + 1) H3) ?_
    · have z2 := hw x (wipe σ vs) s1.H (fun σ2 H2 => tt σ2 H2 fun b H3 => if b = true then te σ2 H3 fun y H4 => ∃ acc, H4 L = some (.lst acc) ∧ acc.length < sizeLine ∧ CompAt c mg mt me vs ds s σ r L (i + 1) (upd H4 L (.lst (acc ++ [y]))) else CompAt c mg mt me vs ds s σ r L (i + 1) H3) (by rw [wipe_wipe]; exact z)
      rw [wipe_wipe] at z2
      exact z2
    · intro s2 σ2 hs2 tr2 hwp
      split at e
      · rename_i ρ2 e2
        refine ht ρ1 _ e2 s2 σ2 hs2 _ fun b s3 hs3 tr3 hb => ?_
        subst hb
        rw [if_pos rfl]
        split at e
        · rename_i y ρ3 e3
          refine he ρ2 _ e3 s3 σ2 hs3 _ fun v s4 hs4 tr4 rv => ?_
          have t14 := tr2.trans (tr3.trans tr4)
          obtain ⟨k1, k2, k3⟩ := keep t14
          split at e
          · rename_i hlt
            refine ⟨acc, k1, cap_lt (by rw [racc.length]; exact hlt), ?_⟩
            obtain ⟨A, w1, w2⟩ := sr_wipe vs hs4 hP
            rw [hwp] at w1
            have nA : ¬ OwnsA ⟨s4.W, s4.H, A⟩ L := fun z => by
              rcases w2.o L z with z | z
              · exact k3 z
              · rw [k1] at z; cases z
            exact ⟨_, _, _, _, sr_grow w1 k1 k2 nA, rfl, tr_grow (tr.trans (t14.trans w2)) hL, upd_same, (racc.mono t14.w).append (.cons rv .nil), k2, nA, e⟩
          · cases e
        · cases e
      · rename_i ρ2 e2
        refine ht ρ1 _ e2 s2 σ2 hs2 _ fun b s3 hs3 tr3 hb => ?_
        subst hb
        rw [if_neg Bool.false_ne_true]
        have t13 := tr2.trans tr3
        obtain ⟨k1, k2, k3⟩ := keep t13
        obtain ⟨A, w1, w2⟩ := sr_wipe vs hs3 hP
        rw [hwp] at w1
        have nA : ¬ OwnsA ⟨s3.W, s3.H, A⟩ L := fun z => by
          rcases w2.o L z with z | z
          · exact k3 z
          · rw [k1] at z; cases z
        exact ⟨_, _, _, _, w1, rfl, tr.trans (t13.trans w2), k1, racc.mono t13.w, k2, nA, e⟩
      · cases e
theorem comp_turn {c' : Cc} {g : TG} {tt : TT} {te : TE} {mg : D → Env → Option Env} {mt : MM Bool} {me : MM D} {vs : List Nat} {ds : List D} {s : Ws} {σ : L2.St} {r : List D × Env} {L : Addr} (hc : c'.K = c.K ∧ c'.tb = c.tb ∧ c'.P = c.P) (hg : SG c' g mg) (hw : GW vs g) (ht : ST c' tt mt) (he : SE c' te me) (hP : ∀ v ∈ vs, c.P v = false)
    (hL : s.H L = none) {i : Nat} {d : D} {x : V} {H : Hp} (hd : ds[i]? = some d) (hr : ∀ s', Tr c.P s s' → Rep c.K s'.W x d) (h : CompAt c mg mt me vs ds s σ r L i H) :
    g x (wipe σ vs) H fun σ2 H2 => wipe σ2 vs = wipe σ vs ∧ tt σ2 H2 fun b H3 => if b = true then te σ2 H3 fun y H4 => ∃ acc, H4 L = some (.lst acc) ∧ acc.length < sizeLine ∧ CompAt c mg mt me vs ds s σ r L (i + 1) (upd H4 L (.lst (acc ++ [y]))) else CompAt c mg mt me vs ds s σ r L (i + 1) H3 := by
  obtain ⟨ρ, s1, acc, dacc, hs, eH, tr, hacc, racc, wL, nL, e⟩ := h
  exact comp_turnR hc hg hw ht he hP hL hd ⟨ρ, s1, acc, dacc, hs, eH, tr, hacc, racc, wL, nL, e, hr s1 tr⟩
/-- .. from its start to its end -/
theorem comp_start {mg : D → Env → Option Env} {mt : MM Bool} {me : MM D} {vs : List Nat} {ds : List D} {s : Ws} {σ : L2.St} {ρ : Env} {r : List D × Env} {L : Addr} (hs : SR c.K c.tb ρ s σ) (hP : ∀ v ∈ vs, c.P v = false) (hL : s.H L = none) (e : compL mg mt me vs ds [] (wipeE ρ vs) = some r) :
    CompAt c mg mt me vs ds s σ r L 0 (upd s.H L (.lst [])) := by
  obtain ⟨A, w1, w2⟩ := sr_wipe vs hs hP
  have n := Nw.own (p := L) (o := .lst []) w1.ex w1.nt w1.tb hL
  have wL := hs.wfree hL
  have nA : ¬ OwnsA ⟨s.W, s.H, A⟩ L := w1.free hL
  exact ⟨_, ⟨s.W, upd s.H L (.lst []), A⟩, [], [], w1.nw n, rfl, w2.trans (.nw n), upd_same, .nil, wL, nA, e⟩
theorem comp_end {mg : D → Env → Option Env} {mt : MM Bool} {me : MM D} {vs : List Nat} {ds : List D} {s : Ws} {σ : L2.St} {ρ : Env} {ys : List D} {ρ' : Env} {L : Addr} {H : Hp} (hs : SR c.K c.tb ρ s σ) (nd : vs.Nodup) (hl : ∀ v ∈ vs, v < ρ.length) (hP : ∀ v ∈ vs, c.P v = false) (hL : s.H L = none)
    (h : CompAt c mg mt me vs ds s σ (ys, ρ') L ds.length H) : ∃ s' acc, SR c.K c.tb (restE ρ vs ρ') s' σ ∧ s'.H = H ∧ Tr c.P s s' ∧ H L = some (.lst acc) ∧ Reps c.K s'.W acc ys ∧ s'.W L = none ∧ ¬ OwnsA s' L := by
  obtain ⟨ρ1, s1, acc, dacc, hs1, rfl, tr, hacc, racc, wL, nL, e⟩ := h
  rw [List.drop_length] at e
  cases e
  obtain ⟨A, k1, k2⟩ := sr_rest vs hs tr.w hs1 nd hl hP
  refine ⟨_, acc, k1, rfl, tr.trans k2, hacc, racc, wL, fun z => ?_⟩
  rcases k2.o L z with z | z
  · exact nL z
  · rw [hacc] at z; cases z
/-- a list of nobody's becomes known for good -/
theorem sr_known {ρ : Env} {s s0 : Ws} {σ : L2.St} {L : Addr} {acc : List V} (h : SR c.K c.tb ρ s σ) (t : Tr c.P s0 s) (h0 : s0.H L = none) (hL : s.H L = some (.lst acc)) (wL : s.W L = none) (nL : ¬ OwnsA s L) :
    SR c.K c.tb ρ ⟨upd s.W L (.lst acc), s.H, s.A⟩ σ ∧ Tr c.P s0 ⟨upd s.W L (.lst acc), s.H, s.A⟩ := by
  have eW : Ex s.W (upd s.W L (.lst acc)) := fun a o e => by rw [upd_ne (ne_of_none e wL)]; exact e
  refine ⟨⟨h.len, fun i l e => (h.loc i l e).mono eW (fun p hp _ w => ?_) (fun p _ u _ e => e), h.out, h.inj, fun a o e => ?_, fun a o e => ?_, h.tb⟩, ⟨t.w.trans eW, fun a h1 h2 h3 => ?_, t.f, t.o, t.p, t.pin⟩⟩
  · have : p ≠ L := fun z => nL ⟨i, by rw [← z]; exact hp⟩
    exact (upd_ne this).trans w
  · by_cases ha : a = L
    · subst ha
      cases upd_same.symm.trans e
      exact hL
    · exact h.ex a o ((upd_ne ha).symm.trans e)
  · by_cases ha : a = L
    · subst ha
      cases upd_same.symm.trans e
      exact fun _ z => nomatch z
    · exact h.nt a o ((upd_ne ha).symm.trans e)
  · have : a ≠ L := fun z => h1 (by rw [z]; exact h0)
    exact (upd_ne this).trans (t.n a h1 h2 h3)
/-- the end, known for good; the end, for a slot's own -/
theorem comp_post {mg : D → Env → Option Env} {mt : MM Bool} {me : MM D} {vs : List Nat} {ds : List D} {s : Ws} {σ : L2.St} {ρ : Env} {ys : List D} {ρ' : Env} {L : Addr} {H : Hp} {Q : VK} (hs : SR c.K c.tb ρ s σ) (nd : vs.Nodup) (hl : ∀ v ∈ vs, v < ρ.length) (hP : ∀ v ∈ vs, c.P v = false) (hL : s.H L = none)
    (h : CompAt c mg mt me vs ds s σ (ys, ρ') L ds.length H) (q : PostX c (Rep c.K) s σ Q (.ok (.lst ys) (restE ρ vs ρ'))) : Q (.ref L) H := by
  obtain ⟨s', acc, k1, rfl, k3, k4, k5, k6, k7⟩ := comp_end hs nd hl hP hL h
  have eW : Ex s'.W (upd s'.W L (.lst acc)) := fun a o e => by rw [upd_ne (ne_of_none e k6)]; exact e
  obtain ⟨z1, z2⟩ := sr_known k1 k3 hL k4 k6 k7
  exact q (.ref L) ⟨upd s'.W L (.lst acc), s'.H, s'.A⟩ z1 z2 (.lst upd_same (k5.mono eW))
theorem comp_postF {mg : D → Env → Option Env} {mt : MM Bool} {me : MM D} {vs : List Nat} {ds : List D} {s : Ws} {σ : L2.St} {ρ : Env} {ys : List D} {ρ' : Env} {L : Addr} {H : Hp} {Q : VK} (hs : SR c.K c.tb ρ s σ) (nd : vs.Nodup) (hl : ∀ v ∈ vs, v < ρ.length) (hP : ∀ v ∈ vs, c.P v = false) (hL : s.H L = none)
    (h : CompAt c mg mt me vs ds s σ (ys, ρ') L ds.length H) (q : PostF c s σ Q (.ok (.lst ys) (restE ρ vs ρ'))) : Q (.ref L) H := by
  obtain ⟨s', acc, k1, rfl, k3, k4, k5, k6, k7⟩ := comp_end hs nd hl hP hL h
  exact q L s' k1 k3 hL k6 k7 ⟨acc, k4, k5⟩

/-- the same block whatever is wished of an exception -/
def Cc.quiet (c : Cc) : Cc := ⟨c.K, c.tb, c.P, fun _ _ _ => False⟩
/-- the slots of the block -/
structure BlkS (c : Cc) (vs : List Nat) : Prop where
  nd : vs.Nodup
  P : ∀ v ∈ vs, c.P v = false
def inB (vs : List Nat) (ρ : Env) : Bool := vs.all fun v => decide (v < ρ.length)
theorem inB_of {vs : List Nat} {ρ : Env} (h : inB vs ρ = true) : ∀ v ∈ vs, v < ρ.length := fun v hv => of_decide_eq_true (List.all_eq_true.mp h v hv)
/-- [e for g in xs if t], by what xs is -/
def mLc {α : Type} (mi : MM α) (el : α → Option (List D)) (vs : List Nat) (g : D → Env → Option Env) (t : MM Bool) (e : MM D) : MM (List D) := bnd mi fun d ρ => match el d with
  | some ds => if inB vs ρ = true then match compL g t e vs ds [] (wipeE ρ vs) with
    | some (ys, ρ') => some (.ok ys (restE ρ vs ρ'))
    | none => none
    else none
  | none => none
theorem mLc_cases {α : Type} {el : α → Option (List D)} {vs : List Nat} {g : D → Env → Option Env} {t : MM Bool} {e : MM D} {a : α} {ρ : Env} {r : Res (List D)} (h : (match el a with
  | some ds => if inB vs ρ = true then match compL g t e vs ds [] (wipeE ρ vs) with
    | some (ys, ρ') => some (Res.ok ys (restE ρ vs ρ'))
    | none => none
    else none
  | none => none) = some r) : ∃ ds ys ρ', el a = some ds ∧ inB vs ρ = true ∧ compL g t e vs ds [] (wipeE ρ vs) = some (ys, ρ') ∧ r = .ok ys (restE ρ vs ρ') := by
  split at h
  · rename_i ds e1
    split at h
    · rename_i hb
      split at h
      · rename_i ys ρ' e2
        exact ⟨ds, ys, ρ', e1, hb, e2, (Option.some.inj h).symm⟩
      · cases h
    · cases h
  · cases h
/-- a new list out of a comprehension's mirror: as data, as a slot's own -/
def asL (m : MM (List D)) : MM D := fun ρ => match m ρ with
  | some (.ok ys ρ') => some (.ok (.lst ys) ρ')
  | some (.er x ρ') => some (.er x ρ')
  | none => none
def asO (m : MM (List D)) : MM Own := fun ρ => match m ρ with
  | some (.ok ys ρ') => some (.ok (.lst ys) ρ')
  | some (.er x ρ') => some (.er x ρ')
  | none => none
section
variable {g : TG} {tt : TT} {te tl : TE} {ta : TA} {mg : D → Env → Option Env} {mt : MM Bool} {me mi : MM D} {ma : MM (List D)} {vs : List Nat}
/-- the reading of a comprehension over a list or tuple, once xs is known; R: its end -/
theorem lc_seq {s : Ws} {σ : L2.St} {ρ : Env} {ds : List D} {d : D} {x : V} {ys : List D} {ρ' : Env} {R : VK} (hs : SR c.K c.tb ρ s σ) (rx : Rep c.K s.W x d) (hel : elems d = some ds) (hB : BlkS c vs) (hb : inB vs ρ = true) (hg : SG c.quiet g mg) (hw : GW vs g) (ht : ST c.quiet tt mt) (he : SE c.quiet te me)
    (e : compL mg mt me vs ds [] (wipeE ρ vs) = some (ys, ρ')) (hR : ∀ L H, s.H L = none → CompAt c mg mt me vs ds s σ (ys, ρ') L ds.length H → R (.ref L) H) :
    ∃ a, x = .ref a ∧ (((∃ xs, SqL c.K s.H a xs) ∧ (∀ L, s.H L = none → ∃ W : Nat → Nat → Hp → Prop, (∃ m, W 0 m (upd s.H L (.lst []))) ∧ ∀ i m H, W i m H →
        ((Itl c.K a).stop i H ∧ R (.ref L) H) ∨ ((Itl c.K a).go i H ∧ ∃ Nx : Hp → Prop, (∀ H', Nx H' → ∃ m', m' < m ∧ W (i + 1) m' H') ∧ ∀ x H', (Itl c.K a).yld i H x H' → g x (wipe σ vs) H' fun σ2 H2 => wipe σ2 vs = wipe σ vs ∧ tt σ2 H2 fun b H3 =>
          if b = true then te σ2 H3 fun y H4 => ∃ acc, H4 L = some (.lst acc) ∧ acc.length < sizeLine ∧ Nx (upd H4 L (.lst (acc ++ [y]))) else Nx H3))) ∨
      ((∃ xs, SqT c.K s.H a xs) ∧ (∀ L, s.H L = none → ∃ W : Nat → Nat → Hp → Prop, (∃ m, W 0 m (upd s.H L (.lst []))) ∧ ∀ i m H, W i m H →
        ((Itt c.K a).stop i H ∧ R (.ref L) H) ∨ ((Itt c.K a).go i H ∧ ∃ Nx : Hp → Prop, (∀ H', Nx H' → ∃ m', m' < m ∧ W (i + 1) m' H') ∧ ∀ x H', (Itt c.K a).yld i H x H' → g x (wipe σ vs) H' fun σ2 H2 => wipe σ2 vs = wipe σ vs ∧ tt σ2 H2 fun b H3 =>
          if b = true then te σ2 H3 fun y H4 => ∃ acc, H4 L = some (.lst acc) ∧ acc.length < sizeLine ∧ Nx (upd H4 L (.lst (acc ++ [y]))) else Nx H3)))) := by
  cases d <;> try (cases hel; done)
  · cases hel
    cases rx with
    | @tup a xs _ hq rr =>
      refine ⟨a, rfl, .inr ⟨⟨xs, hs.ex.st hq⟩, fun L hL => lc_tup (K := c.K) (a := a) (xs := xs) (CompAt c mg mt me vs ds s σ (ys, ρ') L) (comp_start hs hB.P hL e) (fun i H _ ⟨ρ2, s2, acc, dacc, k1, k2, k3, _⟩ => k2 ▸ k1.ex.st (k3.w.st hq)) (fun i x H hx hp => ?_) fun H hp => hR L H hL (rr.length ▸ hp)⟩⟩
      obtain ⟨d, hd, rd'⟩ := rr.get hx
      exact comp_turn (c' := c.quiet) ⟨rfl, rfl, rfl⟩ hg hw ht he hB.P hL hd (fun s' t => rd'.mono t.w) hp
  · cases hel
    cases rx with
    | @lst a xs _ hq rr =>
      have hq' : SqL c.K s.W a xs := .inl (.inl hq)
      refine ⟨a, rfl, .inl ⟨⟨xs, hs.ex.sl hq'⟩, fun L hL => lc_list (K := c.K) (a := a) (xs := xs) (CompAt c mg mt me vs ds s σ (ys, ρ') L) (comp_start hs hB.P hL e) (fun i H _ ⟨ρ2, s2, acc, dacc, k1, k2, k3, _⟩ => k2 ▸ k1.ex.sl (k3.w.sl hq')) (fun i x H hx hp => ?_) fun H hp => hR L H hL (rr.length ▸ hp)⟩⟩
      obtain ⟨d, hd, rd'⟩ := rr.get hx
      exact comp_turn (c' := c.quiet) ⟨rfl, rfl, rfl⟩ hg hw ht he hB.P hL hd (fun s' t => rd'.mono t.w) hp
theorem asL_bnd {α : Type} {m : MM α} {f : α → MM (List D)} {ρ : Env} {r : Res D} (h : asL (bnd m f) ρ = some r) : bnd m (fun a => asL (f a)) ρ = some r := by
  unfold asL bnd at h
  unfold bnd
  cases e : m ρ with
  | none => rw [e] at h; exact h
  | some z =>
    rw [e] at h
    cases z with
    | ok a ρ' => exact h
    | er x ρ' => exact h
theorem asO_bnd {α : Type} {m : MM α} {f : α → MM (List D)} {ρ : Env} {r : Res Own} (h : asO (bnd m f) ρ = some r) : bnd m (fun a => asO (f a)) ρ = some r := by
  unfold asO bnd at h
  unfold bnd
  cases e : m ρ with
  | none => rw [e] at h; exact h
  | some z =>
    rw [e] at h
    cases z with
    | ok a ρ' => exact h
    | er x ρ' => exact h
theorem asL_ok {m : MM (List D)} {ρ : Env} {r : Res D} (h : asL m ρ = some r) : (∃ ys ρ', m ρ = some (.ok ys ρ') ∧ r = .ok (.lst ys) ρ') ∨ ∃ x ρ', m ρ = some (.er x ρ') ∧ r = .er x ρ' := by
  unfold asL at h
  split at h
  · rename_i ys ρ' e; exact .inl ⟨ys, ρ', e, (Option.some.inj h).symm⟩
  · rename_i x ρ' e; exact .inr ⟨x, ρ', e, (Option.some.inj h).symm⟩
  · cases h
theorem asO_ok {m : MM (List D)} {ρ : Env} {r : Res Own} (h : asO m ρ = some r) : (∃ ys ρ', m ρ = some (.ok ys ρ') ∧ r = .ok (.lst ys) ρ') ∨ ∃ x ρ', m ρ = some (.er x ρ') ∧ r = .er x ρ' := by
  unfold asO at h
  split at h
  · rename_i ys ρ' e; exact .inl ⟨ys, ρ', e, (Option.some.inj h).symm⟩
  · rename_i x ρ' e; exact .inr ⟨x, ρ', e, (Option.some.inj h).symm⟩
  · cases h
theorem se_lcS (hB : BlkS c vs) (h : SE c tl mi) (hg : SG c.quiet g mg) (hw : GW vs g) (ht : ST c.quiet tt mt) (he : SE c.quiet te me) : SE c (tLc (iSeq c.K tl) g tt te vs) (asL (mLc mi elems vs mg mt me)) := by
  intro ρ rr e s σ hs Q q
  refine sx_go (t := tl) h (asL_bnd e) hs q fun x d ρ s e hs rx q tr => ?_
  rcases asL_ok e with ⟨ys, ρ', e1, rfl⟩ | ⟨y, ρ', e1, _⟩
  · obtain ⟨ds, ys, ρ'', e2, hb, e3, e4⟩ := mLc_cases e1
    cases e4
    exact lc_seq hs rx e2 hB hb hg hw ht he e3 fun L H hL hp => comp_post hs hB.nd (inB_of hb) hB.P hL hp q
  · obtain ⟨ds, ys, ρ'', e2, hb, e3, e4⟩ := mLc_cases e1
    cases e4
theorem sf_lcS (hB : BlkS c vs) (h : SE c tl mi) (hg : SG c.quiet g mg) (hw : GW vs g) (ht : ST c.quiet tt mt) (he : SE c.quiet te me) : SF c (tLc (iSeq c.K tl) g tt te vs) (asO (mLc mi elems vs mg mt me)) := by
  intro ρ rr e s σ hs Q q
  refine sf_go (t := tl) h (asO_bnd e) hs q fun x d ρ s e hs rx q tr => ?_
  rcases asO_ok e with ⟨ys, ρ', e1, rfl⟩ | ⟨y, ρ', e1, _⟩
  · obtain ⟨ds, ys, ρ'', e2, hb, e3, e4⟩ := mLc_cases e1
    cases e4
    exact lc_seq hs rx e2 hB hb hg hw ht he e3 fun L H hL hp => comp_postF hs hB.nd (inB_of hb) hB.P hL hp q
  · obtain ⟨ds, ys, ρ'', e2, hb, e3, e4⟩ := mLc_cases e1
    cases e4
/-- over a range -/
theorem lc_rg {s : Ws} {σ : L2.St} {ρ : Env} {lo : Int} {n : Nat} {ys : List D} {ρ' : Env} {R : VK} (hs : SR c.K c.tb ρ s σ) (hB : BlkS c vs) (hg : SG c.quiet g mg) (hw : GW vs g) (ht : ST c.quiet tt mt) (he : SE c.quiet te me)
    (e : compL mg mt me vs (rangeD lo n) [] (wipeE ρ vs) = some (ys, ρ')) (hR : ∀ L H, s.H L = none → CompAt c mg mt me vs (rangeD lo n) s σ (ys, ρ') L (rangeD lo n).length H → R (.ref L) H) :
    ∀ L, s.H L = none → ∃ W : Nat → Nat → Hp → Prop, (∃ m, W 0 m (upd s.H L (.lst []))) ∧ ∀ i m H, W i m H →
        ((Itr lo n).stop i H ∧ R (.ref L) H) ∨ ((Itr lo n).go i H ∧ ∃ Nx : Hp → Prop, (∀ H', Nx H' → ∃ m', m' < m ∧ W (i + 1) m' H') ∧ ∀ x H', (Itr lo n).yld i H x H' → g x (wipe σ vs) H' fun σ2 H2 => wipe σ2 vs = wipe σ vs ∧ tt σ2 H2 fun b H3 =>
          if b = true then te σ2 H3 fun y H4 => ∃ acc, H4 L = some (.lst acc) ∧ acc.length < sizeLine ∧ Nx (upd H4 L (.lst (acc ++ [y]))) else Nx H3) := fun L hL =>
  lc_range (lo := lo) (n := n) (CompAt c mg mt me vs (rangeD lo n) s σ (ys, ρ') L) (comp_start hs hB.P hL e) (fun i H hi hp => comp_turn (c' := c.quiet) ⟨rfl, rfl, rfl⟩ hg hw ht he hB.P hL (rangeD_get hi) (fun s' _ => .int _) hp) fun H hp => hR L H hL (by rw [rangeD_len]; exact hp)
theorem rg1_some {ds : List D} {l : List D} (h : rg1 ds = some l) : ∃ j, ds = [.int j] ∧ rgOk j = true ∧ l = rangeD 0 j.toNat := by
  unfold rg1 at h
  split at h
  · rename_i j
    split at h
    · rename_i hj
      exact ⟨j, rfl, hj, (Option.some.inj h).symm⟩
    · cases h
  · cases h
theorem rg2_some {ds : List D} {l : List D} (h : rg2 ds = some l) : ∃ i j, ds = [.int i, .int j] ∧ rgOk i = true ∧ rgOk j = true ∧ l = rangeD i (j - i).toNat := by
  unfold rg2 at h
  split at h
  · rename_i i j
    split at h
    · rename_i hj
      exact ⟨i, j, rfl, hj.1, hj.2, (Option.some.inj h).symm⟩
    · cases h
  · cases h
theorem reps_i1 {K : PySem.W.Frag} {W : Hp} {vs : List V} {j : Int} (r : Reps K W vs [.int j]) : vs = [.int j] := by
  cases r with
  | cons r1 r2 => cases r1; cases r2; rfl
theorem reps_i2 {K : PySem.W.Frag} {W : Hp} {vs : List V} {i j : Int} (r : Reps K W vs [.int i, .int j]) : vs = [.int i, .int j] := by
  cases r with
  | cons r1 r2 =>
    cases r1
    cases r2 with
    | cons r2 r3 => cases r2; cases r3; rfl
theorem se_lc1 (hB : BlkS c vs) (h : SA c ta ma) (hg : SG c.quiet g mg) (hw : GW vs g) (ht : ST c.quiet tt mt) (he : SE c.quiet te me) : SE c (tLc (iRng1 ta) g tt te vs) (asL (mLc ma rg1 vs mg mt me)) := by
  intro ρ rr e s σ hs Q q
  refine sx_go (t := ta) h (asL_bnd e) hs q fun x d ρ s e hs rx q tr => ?_
  rcases asL_ok e with ⟨ys, ρ', e1, rfl⟩ | ⟨y, ρ', e1, _⟩
  · obtain ⟨ds, ys, ρ'', e2, hb, e3, e4⟩ := mLc_cases e1
    cases e4
    obtain ⟨j, rfl, hj, rfl⟩ := rg1_some e2
    exact ⟨j, reps_i1 rx, (rgOk_of hj).1, (rgOk_of hj).2, lc_rg hs hB hg hw ht he e3 fun L H hL hp => comp_post hs hB.nd (inB_of hb) hB.P hL hp q⟩
  · obtain ⟨ds, ys, ρ'', e2, hb, e3, e4⟩ := mLc_cases e1
    cases e4
theorem sf_lc1 (hB : BlkS c vs) (h : SA c ta ma) (hg : SG c.quiet g mg) (hw : GW vs g) (ht : ST c.quiet tt mt) (he : SE c.quiet te me) : SF c (tLc (iRng1 ta) g tt te vs) (asO (mLc ma rg1 vs mg mt me)) := by
  intro ρ rr e s σ hs Q q
  refine sf_go (t := ta) h (asO_bnd e) hs q fun x d ρ s e hs rx q tr => ?_
  rcases asO_ok e with ⟨ys, ρ', e1, rfl⟩ | ⟨y, ρ', e1, _⟩
  · obtain ⟨ds, ys, ρ'', e2, hb, e3, e4⟩ := mLc_cases e1
    cases e4
    obtain ⟨j, rfl, hj, rfl⟩ := rg1_some e2
    exact ⟨j, reps_i1 rx, (rgOk_of hj).1, (rgOk_of hj).2, lc_rg hs hB hg hw ht he e3 fun L H hL hp => comp_postF hs hB.nd (inB_of hb) hB.P hL hp q⟩
  · obtain ⟨ds, ys, ρ'', e2, hb, e3, e4⟩ := mLc_cases e1
    cases e4
theorem se_lc2 (hB : BlkS c vs) (h : SA c ta ma) (hg : SG c.quiet g mg) (hw : GW vs g) (ht : ST c.quiet tt mt) (he : SE c.quiet te me) : SE c (tLc (iRng2 ta) g tt te vs) (asL (mLc ma rg2 vs mg mt me)) := by
  intro ρ rr e s σ hs Q q
  refine sx_go (t := ta) h (asL_bnd e) hs q fun x d ρ s e hs rx q tr => ?_
  rcases asL_ok e with ⟨ys, ρ', e1, rfl⟩ | ⟨y, ρ', e1, _⟩
  · obtain ⟨ds, ys, ρ'', e2, hb, e3, e4⟩ := mLc_cases e1
    cases e4
    obtain ⟨i, j, rfl, hi, hj, rfl⟩ := rg2_some e2
    exact ⟨i, j, reps_i2 rx, ⟨(rgOk_of hi).1, (rgOk_of hi).2, (rgOk_of hj).1, (rgOk_of hj).2⟩, lc_rg hs hB hg hw ht he e3 fun L H hL hp => comp_post hs hB.nd (inB_of hb) hB.P hL hp q⟩
  · obtain ⟨ds, ys, ρ'', e2, hb, e3, e4⟩ := mLc_cases e1
    cases e4
theorem st_yes : ST c tYes (ret true) := by
  intro ρ r e s σ hs Q q
  cases e
  exact q true s hs .refl rfl
end
end
end PD
end
section
set_option maxHeartbeats 0
namespace PySem
open PySem.AutoSeq1
open Sem (wp)
open Builtin
set_option maxRecDepth 8000 in
theorem pd_extend_tuple (l : Addr) (items : Array Value) (n : Nat) (b : Addr) (items2 : Array Value) (n2 : Nat) (dd : Option Addr) (sl : Array (Option Value)) (hs0 : ¬(!items.isEmpty && Builtin.List.listTooLong (items.size + items2.size)) = true) (hs1 : items.size ≤ sizeLine) (hs2 : items.size + items2.size ≤ sizeLine + 1) :
    Meets (Builtin.«list.extend» ⟨[.ref l, .ref b], []⟩) (fun _ R s => s.heap.get? l = some { cls := .type "list", dict := none, data := .seq items n, slots := #[] } ∧ s.heap.get? b = some { cls := .type "tuple", dict := dd, data := .seq items2 n2, slots := sl } ∧ R (.ok (.ret Value.none)) { s with heap := s.heap.update l (Obj.mapSeq fun x => x ++ items2), toks := s.toks }) :=
  .of_wp fun prog w A R s h => by
    obtain ⟨hp, g, d, tk, os⟩ := s; obtain ⟨hl, hb, h⟩ := h; have f1 := idx_int; have f2 := sub_tuple_tuple; have f3 := sub_list_list; have f4 := sub_tuple_list; have f5 := sub_list_tuple;
    have hz' : (items ++ items2).size ≤ sizeLine + 1 := by rw [Array.size_append]; exact hs2
    wp_walk using (wpAny_updateSeq hl rfl (hz := hs1) (_hz' := hz')), wpAny_loadPart' hl, wpAny_loadPart' hb; exact ⟨_, rfl, h⟩
end PySem
end
section
set_option maxHeartbeats 0
/-! PH: readings by data and cells. Values that are never changed are plain data (D); what is changed is a cell of an abstract store, told by its number. -/
namespace PH
open PySem L2

/-! ### data, what represents it -/
inductive D where
  | non | bl (b : Bool) | int (i : Int) | str (x : Str) | tup (xs : List D) | lst (xs : List D) | dct (kvs : List (Key × D)) | frz (xs : List D) | ref (n : Nat)
/-- the ghost: what is known for good, where the cells stand -/
structure Gh where
  W : Hp
  A : List Addr

mutual
inductive Rep (K : PySem.W.Frag) (g : Gh) : V → D → Prop
  | non : Rep K g .non .non
  | bl (b : Bool) : Rep K g (.bl b) (.bl b)
  | int (i : Int) : Rep K g (.int i) (.int i)
  | str (x : Str) : Rep K g (.str x) (.str x)
  | tup {a : Addr} {vs : List V} {ds : List D} : SqT K g.W a vs → Reps K g vs ds → Rep K g (.ref a) (.tup ds)
  | lst {a : Addr} {vs : List V} {ds : List D} : g.W a = some (.lst vs) → Reps K g vs ds → Rep K g (.ref a) (.lst ds)
  | frz {a : Addr} {vs : List V} {ds : List D} : SqL K g.W a vs → Reps K g vs ds → Rep K g (.ref a) (.frz ds)
  | dct {a : Addr} {kv : List (Key × V)} {kd : List (Key × D)} : g.W a = some (.dK kv) → RepK K g kv kd → Rep K g (.ref a) (.dct kd)
  | ref {a : Addr} {n : Nat} : g.A[n]? = some a → Rep K g (.ref a) (.ref n)
inductive Reps (K : PySem.W.Frag) (g : Gh) : List V → List D → Prop
  | nil : Reps K g [] []
  | cons {v : V} {vs : List V} {d : D} {ds : List D} : Rep K g v d → Reps K g vs ds → Reps K g (v :: vs) (d :: ds)
inductive RepK (K : PySem.W.Frag) (g : Gh) : List (Key × V) → List (Key × D) → Prop
  | nil : RepK K g [] []
  | cons {k : Key} {v : V} {vs : List (Key × V)} {d : D} {ds : List (Key × D)} : Rep K g v d → RepK K g vs ds → RepK K g ((k, v) :: vs) ((k, d) :: ds)
end
/-- the fields of an instance -/
inductive RepF (K : PySem.W.Frag) (g : Gh) : List (Str × V) → List (Str × D) → Prop
  | nil : RepF K g [] []
  | cons {k : Str} {v : V} {vs : List (Str × V)} {d : D} {ds : List (Str × D)} : Rep K g v d → RepF K g vs ds → RepF K g ((k, v) :: vs) ((k, d) :: ds)

def Ex (H H' : Hp) : Prop := ∀ a o, H a = some o → H' a = some o
theorem Ex.refl (H : Hp) : Ex H H := fun _ _ h => h
theorem Ex.trans {H H1 H2 : Hp} (a : Ex H H1) (b : Ex H1 H2) : Ex H H2 := fun x o h => b x o (a x o h)
theorem Ex.rd {H H' : Hp} {a : Addr} {u : HO} (e : Ex H H') (h : Rd H a u) : Rd H' a u := by
  rcases h with h | ⟨o, h⟩
  · exact .inl (e a _ h)
  · exact .inr ⟨o, e a _ h⟩
theorem Ex.sl {K : PySem.W.Frag} {H H' : Hp} {a : Addr} {xs : List V} (e : Ex H H') (h : SqL K H a xs) : SqL K H' a xs := by
  rcases h with h | h
  · exact .inl (e.rd h)
  · exact .inr h
theorem Ex.st {K : PySem.W.Frag} {H H' : Hp} {a : Addr} {xs : List V} (e : Ex H H') (h : SqT K H a xs) : SqT K H' a xs := by
  rcases h with h | h
  · exact .inl (e.rd h)
  · exact .inr h
theorem Ex.up {W : Hp} {p : Addr} {u : HO} (wp : W p = none) : Ex W (upd W p u) := fun a x q => by rw [upd_ne (ne_of_none q wp)]; exact q
/-- what is known stands; a dict may be locked while it is walked -/
def Kn (W H : Hp) : Prop := ∀ a o, W a = some o → H a = some o ∨ ∃ od kv, o = .dK kv ∧ H a = some (.frz od o)
theorem Kn.ext {W H H' : Hp} (k : Kn W H) (e : Ex H H') : Kn W H' := fun a o h => by
  rcases k a o h with h | ⟨od, kv, h1, h2⟩
  · exact .inl (e a o h)
  · exact .inr ⟨od, kv, h1, e a _ h2⟩
theorem Kn.n {W H : Hp} (k : Kn W H) {a : Addr} {o : HO} (h : W a = some o) (no : ∀ kv, o ≠ .dK kv) : H a = some o := by
  rcases k a o h with h | ⟨od, kv, h1, _⟩
  · exact h
  · exact absurd h1 (no kv)
theorem Kn.l {W H : Hp} (k : Kn W H) {a : Addr} {vs : List V} (h : W a = some (.lst vs)) : H a = some (.lst vs) := k.n h fun _ z => nomatch z
theorem Kn.d {W H : Hp} (k : Kn W H) {a : Addr} {vs : List (Key × V)} (h : W a = some (.dK vs)) : Rd H a (.dK vs) := by
  rcases k a _ h with h | ⟨od, kv, h1, h2⟩
  · exact .inl h
  · exact .inr ⟨od, h2⟩
theorem Kn.rd {W H : Hp} (k : Kn W H) {a : Addr} {u : HO} (no : ∀ kv, u ≠ .dK kv) (h : Rd W a u) : Rd H a u := by
  rcases h with h | ⟨o, h⟩
  · exact .inl (k.n h no)
  · exact .inr ⟨o, k.n h fun _ z => nomatch z⟩
theorem Kn.sl {K : PySem.W.Frag} {W H : Hp} {a : Addr} {xs : List V} (k : Kn W H) (h : SqL K W a xs) : SqL K H a xs := by
  rcases h with h | h
  · exact .inl (k.rd (fun _ z => nomatch z) h)
  · exact .inr h
theorem Kn.st {K : PySem.W.Frag} {W H : Hp} {a : Addr} {xs : List V} (k : Kn W H) (h : SqT K W a xs) : SqT K H a xs := by
  rcases h with h | h
  · exact .inl (k.rd (fun _ z => nomatch z) h)
  · exact .inr h
theorem Kn.ne {W H : Hp} (k : Kn W H) {a : Addr} (h : H a = none) : W a = none := by
  cases q : W a with
  | none => rfl
  | some u =>
    rcases k a u q with z | ⟨_, _, _, z⟩
    · rw [h] at z; cases z
    · rw [h] at z; cases z
/-- what is known grows -/
structure Le (g g' : Gh) : Prop where
  w : Ex g.W g'.W
  a : ∀ (n : Nat) (p : Addr), g.A[n]? = some p → g'.A[n]? = some p
theorem Le.refl (g : Gh) : Le g g := ⟨Ex.refl _, fun _ _ h => h⟩
theorem Le.trans {g g1 g2 : Gh} (x : Le g g1) (y : Le g1 g2) : Le g g2 := ⟨x.w.trans y.w, fun n p h => y.a n p (x.a n p h)⟩

section
variable {K : PySem.W.Frag} {g g' : Gh}
mutual
theorem Rep.mono (e : Le g g') : ∀ {v : V} {d : D}, Rep K g v d → Rep K g' v d
  | _, _, .non => .non
  | _, _, .bl b => .bl b
  | _, _, .int i => .int i
  | _, _, .str x => .str x
  | _, _, .tup h r => .tup (e.w.st h) (Reps.mono e r)
  | _, _, .lst h r => .lst (e.w _ _ h) (Reps.mono e r)
  | _, _, .frz h r => .frz (e.w.sl h) (Reps.mono e r)
  | _, _, .dct h r => .dct (e.w _ _ h) (RepK.mono e r)
  | _, _, .ref h => .ref (e.a _ _ h)
theorem Reps.mono (e : Le g g') : ∀ {vs : List V} {ds : List D}, Reps K g vs ds → Reps K g' vs ds
  | _, _, .nil => .nil
  | _, _, .cons h r => .cons (Rep.mono e h) (Reps.mono e r)
theorem RepK.mono (e : Le g g') : ∀ {vs : List (Key × V)} {ds : List (Key × D)}, RepK K g vs ds → RepK K g' vs ds
  | _, _, .nil => .nil
  | _, _, .cons h r => .cons (Rep.mono e h) (RepK.mono e r)
end
theorem RepF.mono (e : Le g g') : ∀ {vs : List (Str × V)} {ds : List (Str × D)}, RepF K g vs ds → RepF K g' vs ds
  | _, _, .nil => .nil
  | _, _, .cons h r => .cons (h.mono e) (RepF.mono e r)
theorem Reps.length : ∀ {vs : List V} {ds : List D}, Reps K g vs ds → vs.length = ds.length
  | _, _, .nil => rfl
  | _, _, .cons _ r => by rw [List.length_cons, List.length_cons, Reps.length r]
theorem RepK.length : ∀ {vs : List (Key × V)} {ds : List (Key × D)}, RepK K g vs ds → vs.length = ds.length
  | _, _, .nil => rfl
  | _, _, .cons _ r => by rw [List.length_cons, List.length_cons, RepK.length r]
theorem RepF.length : ∀ {vs : List (Str × V)} {ds : List (Str × D)}, RepF K g vs ds → vs.length = ds.length
  | _, _, .nil => rfl
  | _, _, .cons _ r => by rw [List.length_cons, List.length_cons, RepF.length r]
theorem Reps.get : ∀ {vs : List V} {ds : List D} {i : Nat} {v : V}, Reps K g vs ds → vs[i]? = some v → ∃ d, ds[i]? = some d ∧ Rep K g v d
  | _, _, _, _, .nil, e => by simp at e
  | _, _, 0, _, .cons r _, e => by simp at e; subst e; exact ⟨_, rfl, r⟩
  | _, _, i + 1, v, .cons _ t, e => by
    obtain ⟨d, h1, h2⟩ := Reps.get (i := i) t (by simpa using e)
    exact ⟨d, by simpa using h1, h2⟩
theorem Reps.getD : ∀ {vs : List V} {ds : List D} {i : Nat} {d : D}, Reps K g vs ds → ds[i]? = some d → ∃ v, vs[i]? = some v ∧ Rep K g v d
  | _, _, _, _, .nil, e => by simp at e
  | _, _, 0, _, .cons r _, e => by simp at e; subst e; exact ⟨_, rfl, r⟩
  | _, _, i + 1, v, .cons _ t, e => by
    obtain ⟨d, h1, h2⟩ := Reps.getD (i := i) t (by simpa using e)
    exact ⟨d, by simpa using h1, h2⟩
theorem Reps.append : ∀ {vs us : List V} {ds es : List D}, Reps K g vs ds → Reps K g us es → Reps K g (vs ++ us) (ds ++ es)
  | _, _, _, _, .nil, s => s
  | _, _, _, _, .cons r t, s => .cons r (Reps.append t s)
theorem Reps.take : ∀ {vs : List V} {ds : List D} (n : Nat), Reps K g vs ds → Reps K g (vs.take n) (ds.take n)
  | _, _, 0, _ => .nil
  | _, _, _ + 1, .nil => .nil
  | _, _, n + 1, .cons r t => .cons r (Reps.take n t)
theorem Reps.drop : ∀ {vs : List V} {ds : List D} (n : Nat), Reps K g vs ds → Reps K g (vs.drop n) (ds.drop n)
  | _, _, 0, r => r
  | _, _, _ + 1, .nil => .nil
  | _, _, n + 1, .cons _ t => Reps.drop n t
theorem Reps.set {v : V} {d : D} (r : Rep K g v d) : ∀ {vs : List V} {ds : List D} (i : Nat), Reps K g vs ds → Reps K g (vs.set i v) (ds.set i d)
  | _, _, _, .nil => .nil
  | _, _, 0, .cons _ t => .cons r t
  | _, _, i + 1, .cons q t => .cons q (Reps.set r i t)
theorem Reps.reverse {vs : List V} {ds : List D} (r : Reps K g vs ds) : Reps K g vs.reverse ds.reverse := by
  induction r using Reps.rec (motive_1 := fun _ _ _ => True) (motive_3 := fun _ _ _ => True) with
  | nil => exact .nil
  | cons r _ _ ih => rw [List.reverse_cons, List.reverse_cons]; exact ih.append (.cons r .nil)
  | _ => trivial
theorem Reps.dropLast {vs : List V} {ds : List D} (r : Reps K g vs ds) : Reps K g vs.dropLast ds.dropLast := by
  rw [List.dropLast_eq_take, List.dropLast_eq_take, r.length]
  exact r.take _
theorem Reps.replicate {v : V} {d : D} (r : Rep K g v d) : ∀ n : Nat, Reps K g (List.replicate n v) (List.replicate n d)
  | 0 => .nil
  | n + 1 => .cons r (Reps.replicate r n)
theorem Reps.eraseIdx : ∀ {vs : List V} {ds : List D} (i : Nat), Reps K g vs ds → Reps K g (vs.eraseIdx i) (ds.eraseIdx i)
  | _, _, _, .nil => .nil
  | _, _, 0, .cons _ t => t
  | _, _, i + 1, .cons q t => .cons q (Reps.eraseIdx i t)
theorem Reps.nilL {ds : List D} (r : Reps K g [] ds) : ds = [] := by cases r; rfl
theorem Reps.nilR {vs : List V} (r : Reps K g vs []) : vs = [] := by cases r; rfl
end

/-! ### tables of code objects -/
def NTbl (o : HO) : Prop := ∀ ps, o ≠ .tbl ps
/-- no table, no instance, no instance's dict -/
def Pl (o : HO) : Prop := match o with
  | .tbl _ => False
  | .ins _ _ _ => False
  | .own _ => False
  | _ => True
theorem Pl.nt {o : HO} (h : Pl o) : NTbl o := fun ps e => by rw [e] at h; exact h
/-- LT: tables with the name of the code objects in them; GT: tables of which nothing more is known -/
structure TBs where
  LT : List (Addr × Str)
  GT : List Addr
def TBok (tb : TBs) (H : Hp) : Prop := LamX.Tabs tb.LT H ∧ ∀ P ∈ tb.GT, GxR.TabG H P
/-- what a step may change of a table's neighbours: all but tables and code objects -/
def Lx (o : HO) : Prop := match o with
  | .tbl _ => False
  | .ext _ => False
  | _ => True
theorem TBok.ext {tb : TBs} {H H' : Hp} (t : TBok tb H) (e : ∀ a o, H a = some o → ¬ Lx o → H' a = some o) : TBok tb H' := by
  refine ⟨fun p hp => ?_, fun P hP => ?_⟩
  · obtain ⟨ps, h1, h2, h3⟩ := t.1 p hp
    refine ⟨ps, e _ _ h1 (fun z => z), h2, fun pos cv hc => ?_⟩
    obtain ⟨c, e1, e2⟩ := h3 pos cv hc
    exact ⟨c, e1, e _ _ e2 (fun z => z)⟩
  · obtain ⟨ps, h1, h2⟩ := t.2 P hP
    exact ⟨ps, e _ _ h1 (fun z => z), h2⟩
theorem TBok.Ex {tb : TBs} {H H' : Hp} (t : TBok tb H) (e : Ex H H') : TBok tb H' := t.ext fun a o h _ => e a o h

/-! ### one step of the world: what is known grows, what stood stays -/
def NoT (W : Hp) : Prop := ∀ a o, W a = some o → Pl o
structure Nw (tb : TBs) (W H W' H' : Hp) : Prop where
  w : Ex W W'
  x : Kn W' H'
  nt : NoT W'
  n : ∀ a, H a ≠ none → W a = none → W' a = none
  f : ∀ a o, H a = some o → NTbl o → H' a = some o
  p : ∀ a, H a ≠ none → H' a ≠ none
  t : TBok tb H'
section
variable {tb : TBs} {W H W' H' W2 H2 : Hp}
theorem Nw.refl (x : Kn W H) (nt : NoT W) (t : TBok tb H) : Nw tb W H W H := ⟨Ex.refl _, x, nt, fun _ _ h => h, fun _ _ h _ => h, fun _ h => h, t⟩
theorem Nw.trans (a : Nw tb W H W' H') (b : Nw tb W' H' W2 H2) : Nw tb W H W2 H2 :=
  ⟨a.w.trans b.w, b.x, b.nt, fun c h1 h2 => b.n c (a.p c h1) (a.n c h1 h2), fun c o h1 h2 => b.f c o (a.f c o h1 h2) h2, fun c h => b.p c (a.p c h), b.t⟩
/-- a new object, known for good -/
theorem Nw.new (x : Kn W H) (nt : NoT W) (t : TBok tb H) {p : Addr} {o : HO} (hp : H p = none) (ho : Pl o) : Nw tb W H (upd W p o) (upd H p o) := by
  have wp : W p = none := x.ne hp
  have eH : Ex H (upd H p o) := Ex.up hp
  refine ⟨Ex.up wp, fun a u e => ?_, fun a u e => ?_, fun a h1 h2 => ?_, fun a u e _ => eH a u e, fun a h => ?_, t.Ex eH⟩
  · by_cases ha : a = p
    · rw [ha, upd_same] at e; rw [ha, upd_same]; exact .inl e
    · rw [upd_ne ha] at e; rw [upd_ne ha]; exact x a u e
  · by_cases ha : a = p
    · rw [ha, upd_same] at e; cases e; exact ho
    · rw [upd_ne ha] at e; exact nt a u e
  · have ha : a ≠ p := fun z => h1 (z ▸ hp)
    rw [upd_ne ha]; exact h2
  · have ha : a ≠ p := fun z => h (z ▸ hp)
    rw [upd_ne ha]; exact h
/-- a new object, not known -/
theorem Nw.own (x : Kn W H) (nt : NoT W) (t : TBok tb H) {p : Addr} {o : HO} (hp : H p = none) : Nw tb W H W (upd H p o) := by
  have eH : Ex H (upd H p o) := Ex.up hp
  refine ⟨Ex.refl _, x.ext eH, nt, fun a _ h => h, fun a u e _ => eH a u e, fun a h => ?_, t.Ex eH⟩
  have ha : a ≠ p := fun z => h (z ▸ hp)
  rw [upd_ne ha]; exact h
end

/-! ### the cells, the slots -/
inductive Cell where
  | lst (ds : List D) | dct (kvs : List (Key × D)) | obj (cls : Str) (fs : List (Str × D)) | lck (kvs : List (Key × D))
/-- a slot: nothing that is known; data -/
inductive Loc where
  | non | dat (d : D)
/-- a mirror's state: the slots, the cells -/
structure St where
  e : List Loc
  c : List Cell
structure Ws where
  g : Gh
  H : Hp
abbrev Ws.W (s : Ws) : Hp := s.g.W
abbrev Ws.A (s : Ws) : List Addr := s.g.A
/-- what a body's judgements share: the written part, the tables, where the classes stand, what is wished of an exception -/
structure Bs where
  K : PySem.W.Frag
  tb : TBs
  ca : Str → Addr
structure Cc extends Bs where
  xw : Str → L2.St → Hp → Prop
instance : Coe Cc Bs := ⟨Cc.toBs⟩
section
variable (c : Bs)
def CellOk (g : Gh) (H : Hp) (p : Addr) : Cell → Prop
  | .lst ds => ∃ vs, H p = some (.lst vs) ∧ Reps c.K g vs ds
  | .dct kd => ∃ kv, H p = some (.dK kv) ∧ RepK c.K g kv kd
  | .obj x fs => ∃ dx vf, H p = some (.ins (c.ca x) dx vf) ∧ H dx = some (.own p) ∧ RepF c.K g vf fs
  | .lck kd => ∃ kv od, H p = some (.frz od (.dK kv)) ∧ RepK c.K g kv kd
/-- the cells stand -/
structure CS (κ : List Cell) (s : Ws) : Prop where
  len : s.A.length = κ.length
  cel : ∀ (n : Nat) (cl : Cell), κ[n]? = some cl → ∃ p, s.A[n]? = some p ∧ CellOk c s.g s.H p cl
  fr : ∀ p ∈ s.A, s.W p = none
  inj : s.A.Nodup
  ex : Kn s.W s.H
  nt : NoT s.W
  tb : TBok c.tb s.H
/-- the slots hold -/
structure SR (st : St) (s : Ws) (σ : L2.St) : Prop where
  cr : CS c st.c s
  len : σ.length = st.e.length
  loc : ∀ (i : Nat) (d : D), st.e[i]? = some (.dat d) → ∃ v, σ[i]? = some (some v) ∧ Rep c.K s.g v d
end
/-- a cell's object, or an instance's dict -/
def OwnsA (s : Ws) (a : Addr) : Prop := a ∈ s.A ∨ ∃ x ∈ s.A, ∃ C fs, s.H x = some (.ins C a fs)
structure Tr (s s' : Ws) : Prop where
  w : Ex s.W s'.W
  a : s.A <+: s'.A
  n : ∀ a, s.H a ≠ none → ¬ OwnsA s a → s.W a = none → s'.W a = none
  f : ∀ a o, ¬ OwnsA s a → s.W a = none → s.H a = some o → NTbl o → s'.H a = some o
  o : ∀ a, OwnsA s' a → OwnsA s a ∨ s.H a = none
  p : ∀ a, s.H a ≠ none → s'.H a ≠ none
  z : ∀ a od u, s.H a = some (.frz od u) → s'.H a = some (.frz od u)
section
variable {s s1 s2 : Ws}
theorem Tr.refl : Tr s s := ⟨Ex.refl _, List.prefix_refl _, fun _ _ _ h => h, fun _ _ _ _ h _ => h, fun _ h => .inl h, fun _ h => h, fun _ _ _ h => h⟩
theorem Tr.trans (a : Tr s s1) (b : Tr s1 s2) : Tr s s2 := by
  have no : ∀ c, s.H c ≠ none → ¬ OwnsA s c → ¬ OwnsA s1 c := fun c h1 h2 h3 => (a.o c h3).elim h2 h1
  refine ⟨a.w.trans b.w, a.a.trans b.a, fun c h1 h2 h3 => b.n c (a.p c h1) (no c h1 h2) (a.n c h1 h2 h3), fun c u h1 h0 h2 h3 => ?_, fun c h => ?_, fun c h => b.p c (a.p c h), fun c od u h => b.z c od u (a.z c od u h)⟩
  · have hn : s.H c ≠ none := by rw [h2]; exact fun z => nomatch z
    exact b.f c u (no c hn h1) (a.n c hn h1 h0) (a.f c u h1 h0 h2 h3) h3
  · rcases b.o c h with h1 | h1
    · exact a.o c h1
    · refine .inr ?_
      cases e : s.H c with
      | none => rfl
      | some u => exact absurd h1 (a.p c (by rw [e]; exact fun z => nomatch z))
theorem Tr.le (t : Tr s s1) : Le s.g s1.g := ⟨t.w, fun n p h => by
  obtain ⟨m, e⟩ := t.a
  rw [show s1.g.A = s.g.A ++ m from e.symm, List.getElem?_append_left (List.getElem?_eq_some_iff.mp h).1]
  exact h⟩
end
section
variable {c : Bs} {κ : List Cell} {st : St} {s : Ws} {σ : L2.St}
theorem CellOk.mono {g g' : Gh} {H H' : Hp} {p : Addr} {cl : Cell} (h : CellOk c g H p cl) (e : Le g g') (k : ∀ u, NTbl u → H p = some u → H' p = some u) (kd : ∀ d, H d = some (.own p) → H' d = some (.own p)) : CellOk c g' H' p cl := by
  cases cl with
  | lst ds => obtain ⟨vs, h1, h2⟩ := h; exact ⟨vs, k _ (fun _ z => nomatch z) h1, h2.mono e⟩
  | dct kd => obtain ⟨vs, h1, h2⟩ := h; exact ⟨vs, k _ (fun _ z => nomatch z) h1, h2.mono e⟩
  | obj x fs => obtain ⟨dx, vf, h1, h2, h3⟩ := h; exact ⟨dx, vf, k _ (fun _ z => nomatch z) h1, kd dx h2, h3.mono e⟩
  | lck kd => obtain ⟨vs, od, h1, h2⟩ := h; exact ⟨vs, od, k _ (fun _ z => nomatch z) h1, h2.mono e⟩
theorem CellOk.there {g : Gh} {H : Hp} {p : Addr} {cl : Cell} (h : CellOk c g H p cl) : ∃ u, H p = some u ∧ NTbl u ∧ Lx u := by
  cases cl with
  | lst ds => obtain ⟨vs, h1, _⟩ := h; exact ⟨_, h1, (fun _ z => nomatch z), trivial⟩
  | dct kd => obtain ⟨vs, h1, _⟩ := h; exact ⟨_, h1, (fun _ z => nomatch z), trivial⟩
  | obj x fs => obtain ⟨dx, vf, h1, _⟩ := h; exact ⟨_, h1, (fun _ z => nomatch z), trivial⟩
  | lck kd => obtain ⟨vs, od, h1, _⟩ := h; exact ⟨_, h1, (fun _ z => nomatch z), trivial⟩
theorem CS.at (h : CS c κ s) {p : Addr} (hp : p ∈ s.A) : ∃ (n : Nat) (cl : Cell), κ[n]? = some cl ∧ s.A[n]? = some p ∧ CellOk c s.g s.H p cl := by
  obtain ⟨n, hn, e⟩ := List.getElem_of_mem hp
  have h1 : s.A[n]? = some p := by rw [List.getElem?_eq_getElem hn, e]
  have hn2 : n < κ.length := by rw [← h.len]; exact hn
  obtain ⟨q, h2, h3⟩ := h.cel n κ[n] (List.getElem?_eq_getElem hn2)
  rw [h1] at h2
  cases h2
  exact ⟨n, _, List.getElem?_eq_getElem hn2, h1, h3⟩
theorem CS.there (h : CS c κ s) {p : Addr} (hp : p ∈ s.A) : ∃ u, s.H p = some u ∧ NTbl u ∧ Lx u := by
  obtain ⟨_, _, _, _, h3⟩ := h.at hp
  exact h3.there
/-- an instance's dict -/
theorem CS.dx (h : CS c κ s) {x d C : Addr} {fs : List (Str × V)} (hx : x ∈ s.A) (e : s.H x = some (.ins C d fs)) : s.H d = some (.own x) := by
  obtain ⟨_, cl, _, _, h3⟩ := h.at hx
  cases cl with
  | lst ds => obtain ⟨vs, h1, _⟩ := h3; rw [e] at h1; cases h1
  | dct kd => obtain ⟨vs, h1, _⟩ := h3; rw [e] at h1; cases h1
  | obj y f => obtain ⟨dx, vf, h1, h2, _⟩ := h3; rw [e] at h1; cases h1; exact h2
  | lck kd => obtain ⟨vs, od, h1, _⟩ := h3; rw [e] at h1; cases h1
theorem CS.free (h : CS c κ s) {p : Addr} (e : s.H p = none) : ¬ OwnsA s p := by
  rintro (hp | ⟨x, hx, C, fs, e2⟩)
  · obtain ⟨u, hu, _⟩ := h.there hp
    rw [e] at hu; cases hu
  · rw [h.dx hx e2] at e; cases e
theorem CS.wfree (h : CS c κ s) {p : Addr} (e : s.H p = none) : s.W p = none := h.ex.ne e
/-- what is known is nobody's -/
theorem CS.known (h : CS c κ s) {p : Addr} {u : HO} (e : s.W p = some u) : ¬ OwnsA s p := by
  rintro (hp | ⟨x, hx, C, fs, e2⟩)
  · rw [h.fr p hp] at e; cases e
  · rcases h.ex p u e with z | ⟨_, _, _, z⟩
    · rw [h.dx hx e2] at z
      cases z
      exact h.nt p _ e
    · rw [h.dx hx e2] at z
      cases z
theorem CS.nw {W' H' : Hp} (h : CS c κ s) (n : Nw c.tb s.W s.H W' H') : CS c κ ⟨⟨W', s.A⟩, H'⟩ ∧ Tr s ⟨⟨W', s.A⟩, H'⟩ := by
  have le : Le s.g ⟨W', s.A⟩ := ⟨n.w, fun _ _ h => h⟩
  have there : ∀ p ∈ s.A, s.H p ≠ none := fun p hp => by
    obtain ⟨u, hu, _⟩ := h.there hp
    rw [hu]; exact fun z => nomatch z
  refine ⟨⟨h.len, fun m cl e => ?_, fun p hp => n.n p (there p hp) (h.fr p hp), h.inj, n.x, n.nt, n.t⟩, ⟨n.w, List.prefix_refl _, fun a h1 _ h3 => n.n a h1 h3, fun a u _ _ h2 h3 => n.f a u h2 h3, fun a z => ?_, n.p, fun a od u q => n.f a _ q (fun _ z => nomatch z)⟩⟩
  · obtain ⟨p, h1, h2⟩ := h.cel m cl e
    exact ⟨p, h1, h2.mono le (fun u nu hu => n.f p u hu nu) fun d hd => n.f d _ hd (fun _ z => nomatch z)⟩
  · rcases z with z | ⟨x, hx, C, fs, z⟩
    · exact .inl (.inl z)
    · obtain ⟨u, hu, nu, _⟩ := h.there hx
      have e : H' x = some u := n.f x u hu nu
      have z : H' x = some (.ins C a fs) := z
      rw [e] at z
      exact .inl (.inr ⟨x, hx, C, fs, hu.trans z⟩)
theorem SR.nw {W' H' : Hp} (h : SR c st s σ) (n : Nw c.tb s.W s.H W' H') : SR c st ⟨⟨W', s.A⟩, H'⟩ σ ∧ Tr s ⟨⟨W', s.A⟩, H'⟩ := by
  obtain ⟨h1, h2⟩ := h.cr.nw n
  refine ⟨⟨h1, h.len, fun i d e => ?_⟩, h2⟩
  obtain ⟨v, e1, e2⟩ := h.loc i d e
  exact ⟨v, e1, e2.mono h2.le⟩
theorem SR.nref (h : SR c st s σ) : Nw c.tb s.W s.H s.W s.H := .refl h.cr.ex h.cr.nt h.cr.tb
end
end PH
end
section
set_option maxHeartbeats 0
namespace PH
open PySem L2

/-! ### mirrors -/
inductive Res (α : Type) where
  | ok (a : α) (ρ : St) | er (c : Str) (ρ : St)
abbrev MM (α : Type) := St → Option (Res α)
def ret {α : Type} (a : α) : MM α := fun ρ => some (.ok a ρ)
def bnd {α β : Type} (m : MM α) (f : α → MM β) : MM β := fun ρ => match m ρ with
  | some (.ok a ρ') => f a ρ'
  | some (.er c ρ') => some (.er c ρ')
  | none => none
def lft {α : Type} (o : Option α) : MM α := fun ρ => match o with
  | some a => some (.ok a ρ)
  | none => none
theorem bnd_ok {α β : Type} {m : MM α} {f : α → MM β} {ρ ρ' : St} {a : α} (h : m ρ = some (.ok a ρ')) : bnd m f ρ = f a ρ' := by unfold bnd; rw [h]
theorem bnd_ret {α β : Type} {a : α} {f : α → MM β} : bnd (ret a) f = f a := rfl
theorem bnd_some {α β : Type} {a : α} {f : α → MM β} : bnd (lft (some a)) f = f a := rfl
theorem bnd_cases {α β : Type} {m : MM α} {f : α → MM β} {ρ : St} {r : Res β} (h : bnd m f ρ = some r) : (∃ a ρ', m ρ = some (.ok a ρ') ∧ f a ρ' = some r) ∨ (∃ c ρ', m ρ = some (.er c ρ') ∧ r = .er c ρ') := by
  unfold bnd at h
  split at h
  · rename_i a ρ' e; exact .inl ⟨a, ρ', e, h⟩
  · rename_i c ρ' e; exact .inr ⟨c, ρ', e, (Option.some.inj h).symm⟩
  · cases h
theorem lft_cases {α : Type} {o : Option α} {ρ : St} {r : Res α} (h : lft o ρ = some r) : ∃ a, o = some a ∧ r = .ok a ρ := by
  unfold lft at h
  split at h
  · rename_i a; exact ⟨a, rfl, (Option.some.inj h).symm⟩
  · cases h

abbrev TX (τ : Type) := L2.St → Hp → (τ → Hp → Prop) → Prop
section
variable (c : Cc)
def PostX {τ δ : Type} (rep : Gh → τ → δ → Prop) (s : Ws) (σ : L2.St) (Q : τ → Hp → Prop) : Res δ → Prop
  | .ok d ρ' => ∀ v s', SR c ρ' s' σ → Tr s s' → rep s'.g v d → Q v s'.H
  | .er x ρ' => ∀ s', SR c ρ' s' σ → Tr s s' → c.xw x σ s'.H
def Sx {τ δ : Type} (rep : Gh → τ → δ → Prop) (t : TX τ) (m : MM δ) : Prop :=
  ∀ ρ r, m ρ = some r → ∀ s σ, SR c ρ s σ → ∀ Q, PostX c rep s σ Q r → t σ s.H Q
abbrev SE (te : TE) (m : MM D) : Prop := Sx c (Rep c.K) te m
abbrev ST (t : TT) (m : MM Bool) : Prop := Sx c (fun _ b d => b = d) t m
abbrev SA (t : TA) (m : MM (List D)) : Prop := Sx c (Reps c.K) t m
abbrev SO (t : TO) (m : MM (Option Int)) : Prop := Sx c (fun _ b d => b = d) t m
end
section
variable {c : Cc} {κ : List Cell} {s : Ws}
theorem PostX.after {τ δ : Type} {rep : Gh → τ → δ → Prop} {s s1 : Ws} {σ : L2.St} {Q : τ → Hp → Prop} {r : Res δ} (h : PostX c rep s σ Q r) (t : Tr s s1) : PostX c rep s1 σ Q r := by
  cases r with
  | ok d ρ' => exact fun v s' a b k => h v s' a (t.trans b) k
  | er x ρ' => exact fun s' a b => h s' a (t.trans b)
/-- one after another -/
theorem sx_bnd {τ δ υ ε : Type} {rep : Gh → τ → δ → Prop} {rep2 : Gh → υ → ε → Prop} {t : TX τ} {m : MM δ} {f : δ → MM ε} {k : τ → TX υ} (h : Sx c rep t m)
    (hk : ∀ v d ρ r, f d ρ = some r → ∀ s σ, SR c ρ s σ → rep s.g v d → ∀ Q, PostX c rep2 s σ Q r → k v σ s.H Q) :
    Sx c rep2 (fun σ H Q => t σ H fun v H1 => k v σ H1 Q) (bnd m f) := by
  intro ρ r e s σ hs Q q
  rcases bnd_cases e with ⟨d, ρ', e1, e2⟩ | ⟨x, ρ', e1, rfl⟩
  · exact h ρ _ e1 s σ hs _ fun v s' a b kk => hk v d ρ' r e2 s' σ a kk Q (q.after b)
  · exact h ρ _ e1 s σ hs _ fun s' a b => q s' a b

/-- the same, in the midst -/
theorem sx_go {τ δ υ ε : Type} {rep : Gh → τ → δ → Prop} {rep2 : Gh → υ → ε → Prop} {t : TX τ} {m : MM δ} {f : δ → MM ε} {ρ : St} {r : Res ε} {s : Ws} {σ : L2.St} {Q2 : υ → Hp → Prop} {R : τ → Hp → Prop} (h : Sx c rep t m) (e : bnd m f ρ = some r) (hs : SR c ρ s σ)
    (q : PostX c rep2 s σ Q2 r) (hk : ∀ v d ρ' s', f d ρ' = some r → SR c ρ' s' σ → rep s'.g v d → PostX c rep2 s' σ Q2 r → Tr s s' → R v s'.H) : t σ s.H R := by
  rcases bnd_cases e with ⟨d, ρ', e1, e2⟩ | ⟨x, ρ', e1, rfl⟩
  · exact h ρ _ e1 s σ hs _ fun v s' a b kk => hk v d ρ' s' e2 a kk (q.after b) b
  · exact h ρ _ e1 s σ hs _ fun s' a b => q s' a b

/-! ### names, constants -/
def rd (i : Nat) : MM D := fun ρ => match ρ.e[i]? with
  | some (.dat d) => some (.ok d ρ)
  | _ => none
theorem se_var {i : Nat} : SE c (tVar i) (rd i) := by
  intro ρ r e s σ hs Q q
  unfold rd at e
  split at e
  · rename_i d ed
    cases e
    obtain ⟨v, hv, rv⟩ := hs.loc i _ ed
    exact ⟨v, hv, q v s hs .refl rv⟩
  · cases e
theorem se_c {v : V} {d : D} (h : ∀ g, Rep c.K g v d) : SE c (tC v) (ret d) := by
  intro ρ r e s σ hs Q q
  cases e
  exact q v s hs .refl (h _)

/-! ### what a value is, as it stands -/
inductive RepH (K : PySem.W.Frag) (g : Gh) (H : Hp) : V → D → Prop
  | non : RepH K g H .non .non
  | bl (b : Bool) : RepH K g H (.bl b) (.bl b)
  | int (i : Int) : RepH K g H (.int i) (.int i)
  | str (x : Str) : RepH K g H (.str x) (.str x)
  | tup {a : Addr} {vs : List V} {ds : List D} : SqT K g.W a vs → Reps K g vs ds → RepH K g H (.ref a) (.tup ds)
  | lst {a : Addr} {vs : List V} {ds : List D} : H a = some (.lst vs) → Reps K g vs ds → RepH K g H (.ref a) (.lst ds)
  | frz {a : Addr} {vs : List V} {ds : List D} : SqL K g.W a vs → Reps K g vs ds → RepH K g H (.ref a) (.frz ds)
  | dct {a : Addr} {kv : List (Key × V)} {kd : List (Key × D)} : Rd H a (.dK kv) → RepK K g kv kd → RepH K g H (.ref a) (.dct kd)
  | ref {a : Addr} {n : Nat} : g.A[n]? = some a → RepH K g H (.ref a) (.ref n)
inductive RepsH (K : PySem.W.Frag) (g : Gh) (H : Hp) : List V → List D → Prop
  | nil : RepsH K g H [] []
  | cons {v : V} {vs : List V} {d : D} {ds : List D} : RepH K g H v d → RepsH K g H vs ds → RepsH K g H (v :: vs) (d :: ds)
/-- a list or dict that is a cell, seen -/
def see1 (κ : List Cell) : D → D
  | .ref n => match κ[n]? with
    | some (.lst ds) => .lst ds
    | some (.dct kd) => .dct kd
    | some (.lck kd) => .dct kd
    | _ => .ref n
  | d => d
theorem Rep.h {K : PySem.W.Frag} {g : Gh} {H : Hp} (e : Kn g.W H) {v : V} {d : D} (r : Rep K g v d) : RepH K g H v d := by
  cases r with
  | non => exact .non
  | bl b => exact .bl b
  | int i => exact .int i
  | str x => exact .str x
  | tup h r => exact .tup h r
  | lst h r => exact .lst (e.l h) r
  | frz h r => exact .frz h r
  | dct h r => exact .dct (e.d h) r
  | ref h => exact .ref h
theorem CS.cell {b : Bs} (h : CS b κ s) {n : Nat} {cl : Cell} {p : Addr} (e : κ[n]? = some cl) (ha : s.A[n]? = some p) : CellOk b s.g s.H p cl := by
  obtain ⟨q, h1, h2⟩ := h.cel n cl e
  rw [ha] at h1; cases h1
  exact h2
theorem see1_rep (h : CS c κ s) {v : V} {d : D} (r : Rep c.K s.g v d) : RepH c.K s.g s.H v (see1 κ d) := by
  cases d <;> try exact r.h h.ex
  rename_i n
  cases r with
  | @ref a _ h1 =>
    show RepH c.K s.g s.H (.ref a) (match κ[n]? with
      | some (.lst ds) => .lst ds
      | some (.dct kd) => .dct kd
      | some (.lck kd) => .dct kd
      | _ => .ref n)
    split
    · rename_i ds e
      obtain ⟨vs, h2, h3⟩ := h.cell e h1
      exact .lst h2 h3
    · rename_i ds e
      obtain ⟨vs, h2, h3⟩ := h.cell e h1
      exact .dct (.inl h2) h3
    · rename_i ds e
      obtain ⟨vs, od, h2, h3⟩ := h.cell e h1
      exact .dct (.inr ⟨od, h2⟩) h3
    · exact .ref h1
theorem see1_reps (h : CS c κ s) : ∀ {vs : List V} {ds : List D}, Reps c.K s.g vs ds → RepsH c.K s.g s.H vs (ds.map (see1 κ))
  | _, _, .nil => .nil
  | _, _, .cons r t => .cons (see1_rep h r) (see1_reps h t)
theorem RepsH.length {K : PySem.W.Frag} {g : Gh} {H : Hp} : ∀ {vs : List V} {ds : List D}, RepsH K g H vs ds → vs.length = ds.length
  | _, _, .nil => rfl
  | _, _, .cons _ r => by rw [List.length_cons, List.length_cons, RepsH.length r]

/-! ### operators on values -/
section
variable (c)
def RX {τ δ : Type} (rep : Gh → τ → δ → Prop) (r : Hp → (τ → Hp → Prop) → Prop) (s : Ws) (d : δ) : Prop := ∀ Q, (∀ v W' H', Nw c.tb s.W s.H W' H' → rep ⟨W', s.A⟩ v d → Q v H') → r s.H Q
/-- an operation that may look at the cells -/
def RKp (r : R2) (op : List Cell → D → D → Option D) : Prop := ∀ κ s x y a b d, CS c κ s → Rep c.K s.g x a → Rep c.K s.g y b → op κ a b = some d → RX c (Rep c.K) (r x y) s d
def RKn (r : V → Hp → VK → Prop) (op : List Cell → D → Option D) : Prop := ∀ κ s x a d, CS c κ s → Rep c.K s.g x a → op κ a = some d → RX c (Rep c.K) (r x) s d
def RKa (r : List V → Hp → VK → Prop) (op : List Cell → List D → Option D) : Prop := ∀ κ s xs as d, CS c κ s → Reps c.K s.g xs as → op κ as = some d → RX c (Rep c.K) (r xs) s d
def RKt (r : V → Hp → (Bool → Hp → Prop) → Prop) (op : List Cell → D → Option Bool) : Prop := ∀ κ s x a b, CS c κ s → Rep c.K s.g x a → op κ a = some b → RX c (fun _ u d => u = d) (r x) s b
def ROp (r : R2) (op : D → D → Option D) : Prop := ∀ κ s x y a b d, CS c κ s → RepH c.K s.g s.H x a → RepH c.K s.g s.H y b → op a b = some d → RX c (Rep c.K) (r x y) s d
def RUn (r : V → Hp → VK → Prop) (op : D → Option D) : Prop := ∀ κ s x a d, CS c κ s → RepH c.K s.g s.H x a → op a = some d → RX c (Rep c.K) (r x) s d
def RCa (r : List V → Hp → VK → Prop) (op : List D → Option D) : Prop := ∀ κ s xs as d, CS c κ s → RepsH c.K s.g s.H xs as → op as = some d → RX c (Rep c.K) (r xs) s d
def RTr (r : V → Hp → (Bool → Hp → Prop) → Prop) (op : D → Option Bool) : Prop := ∀ κ s x a b, CS c κ s → RepH c.K s.g s.H x a → op a = some b → RX c (fun _ u d => u = d) (r x) s b
end
/-- what hangs on the cells -/
def lftK {α : Type} (f : List Cell → Option α) : MM α := fun ρ => lft (f ρ.c) ρ
theorem lftK_cases {α : Type} {f : List Cell → Option α} {ρ : St} {r : Res α} (h : lftK f ρ = some r) : ∃ a, f ρ.c = some a ∧ r = .ok a ρ := lft_cases h
theorem SR.ex {ρ : St} {s : Ws} {σ : L2.St} (h : SR c ρ s σ) : Kn s.W s.H := h.cr.ex
theorem CS.nref {κ : List Cell} {s : Ws} (h : CS c κ s) : Nw c.tb s.W s.H s.W s.H := .refl h.ex h.nt h.tb
/-- the end of an operation -/
theorem post_nw {τ δ : Type} {rep : Gh → τ → δ → Prop} {ρ : St} {s : Ws} {σ : L2.St} {Q : τ → Hp → Prop} {d : δ} (hs : SR c ρ s σ) (q : PostX c rep s σ Q (.ok d ρ)) : ∀ v W' H', Nw c.tb s.W s.H W' H' → rep ⟨W', s.A⟩ v d → Q v H' :=
  fun v _ _ n rv => q v _ (hs.nw n).1 (hs.nw n).2 rv
theorem se_opK {r : R2} {op : List Cell → D → D → Option D} {ta tb : TE} {ma mb : MM D} (ho : RKp c r op) (ha : SE c ta ma) (hb : SE c tb mb) : SE c (tOp r ta tb) (bnd ma fun a => bnd mb fun b => lftK fun κ => op κ a b) := by
  intro ρ rr e s σ hs Q q
  refine sx_go (t := ta) ha e hs q fun x a ρ s e hs rx q tr => ?_
  refine sx_go (t := tb) hb e hs q fun y b ρ' s' e hs' ry q tr => ?_
  obtain ⟨d, e3, rfl⟩ := lftK_cases e
  exact ho _ _ x y a b d hs'.cr (rx.mono tr.le) ry e3 _ (post_nw hs' q)
theorem se_unK {r : V → Hp → VK → Prop} {op : List Cell → D → Option D} {ta : TE} {ma : MM D} (ho : RKn c r op) (ha : SE c ta ma) : SE c (tUn r ta) (bnd ma fun a => lftK fun κ => op κ a) := by
  intro ρ rr e s σ hs Q q
  refine sx_go (t := ta) ha e hs q fun x a ρ s e hs rx q tr => ?_
  obtain ⟨d, e3, rfl⟩ := lftK_cases e
  exact ho _ _ x a d hs.cr rx e3 _ (post_nw hs q)
theorem se_cbK {r : List V → Hp → VK → Prop} {op : List Cell → List D → Option D} {ta : TA} {ma : MM (List D)} (ho : RKa c r op) (ha : SA c ta ma) : SE c (tCB r ta) (bnd ma fun a => lftK fun κ => op κ a) := by
  intro ρ rr e s σ hs Q q
  refine sx_go (t := ta) ha e hs q fun x a ρ s e hs rx q tr => ?_
  obtain ⟨d, e3, rfl⟩ := lftK_cases e
  exact ho _ _ x a d hs.cr rx e3 _ (post_nw hs q)
theorem se_op {r : R2} {op : D → D → Option D} {ta tb : TE} {ma mb : MM D} (ho : ROp c r op) (ha : SE c ta ma) (hb : SE c tb mb) : SE c (tOp r ta tb) (bnd ma fun a => bnd mb fun b => lftK fun κ => op (see1 κ a) (see1 κ b)) := by
  intro ρ rr e s σ hs Q q
  refine sx_go (t := ta) ha e hs q fun x a ρ s e hs rx q tr => ?_
  refine sx_go (t := tb) hb e hs q fun y b ρ' s' e hs' ry q tr => ?_
  obtain ⟨d, e3, rfl⟩ := lftK_cases e
  exact ho _ _ x y _ _ d hs'.cr (see1_rep hs'.cr (rx.mono tr.le)) (see1_rep hs'.cr ry) e3 _ (post_nw hs' q)
theorem se_un {r : V → Hp → VK → Prop} {op : D → Option D} {ta : TE} {ma : MM D} (ho : RUn c r op) (ha : SE c ta ma) : SE c (tUn r ta) (bnd ma fun a => lftK fun κ => op (see1 κ a)) := by
  intro ρ rr e s σ hs Q q
  refine sx_go (t := ta) ha e hs q fun x a ρ s e hs rx q tr => ?_
  obtain ⟨d, e3, rfl⟩ := lftK_cases e
  exact ho _ _ x _ d hs.cr (see1_rep hs.cr rx) e3 _ (post_nw hs q)
/-- a value, then a step of its own -/
theorem se_then {r : V → Hp → VK → Prop} {op : D → Option D} {ta : TE} {ma : MM D} (ho : RUn c r op) (ha : SE c ta ma) : SE c (fun σ H Q => ta σ H fun x H1 => r x H1 Q) (bnd ma fun a => lftK fun κ => op (see1 κ a)) := se_un ho ha
theorem se_cb {r : List V → Hp → VK → Prop} {op : List D → Option D} {ta : TA} {ma : MM (List D)} (ho : RCa c r op) (ha : SA c ta ma) : SE c (tCB r ta) (bnd ma fun a => lftK fun κ => op (a.map (see1 κ))) := by
  intro ρ rr e s σ hs Q q
  refine sx_go (t := ta) ha e hs q fun x a ρ s e hs rx q tr => ?_
  obtain ⟨d, e3, rfl⟩ := lftK_cases e
  exact ho _ _ x _ d hs.cr (see1_reps hs.cr rx) e3 _ (post_nw hs q)
theorem sa_nil : SA c tNil (ret []) := by
  intro ρ r e s σ hs Q q
  cases e
  exact q [] s hs .refl .nil
theorem sa_cons {te : TE} {t : TA} {m : MM D} {ms : MM (List D)} (h : SE c te m) (hr : SA c t ms) : SA c (tCons te t) (bnd m fun d => bnd ms fun ds => ret (d :: ds)) := by
  intro ρ rr e s σ hs Q q
  refine sx_go (t := te) h e hs q fun x a ρ s e hs rx q tr => ?_
  refine sx_go (t := t) hr e hs q fun y b ρ' s' e hs' ry q tr => ?_
  cases e
  exact q _ s' hs' .refl (.cons (rx.mono tr.le) ry)

def cap : Nat := 100000
theorem cap_le {n : Nat} (h : n ≤ cap) : n ≤ sizeLine := Nat.le_trans h (by decide)
theorem cap_lt {n : Nat} (h : n < cap) : n < sizeLine := Nat.lt_of_lt_of_le h (by decide)
def mTup (ds : List D) : Option D := if ds.length ≤ cap then some (.tup ds) else none
def mLst (ds : List D) : Option D := if ds.length ≤ cap then some (.lst ds) else none
theorem mTup_some {ds : List D} {d : D} (h : mTup ds = some d) : ds.length ≤ cap ∧ d = .tup ds := by
  unfold mTup at h; split at h
  · rename_i q; exact ⟨q, (Option.some.inj h).symm⟩
  · cases h
theorem mLst_some {ds : List D} {d : D} (h : mLst ds = some d) : ds.length ≤ cap ∧ d = .lst ds := by
  unfold mLst at h; split at h
  · rename_i q; exact ⟨q, (Option.some.inj h).symm⟩
  · cases h
theorem Nw.le {tb : TBs} {s : Ws} {W' H' : Hp} (n : Nw tb s.W s.H W' H') : Le s.g ⟨W', s.A⟩ := ⟨n.w, fun _ _ h => h⟩
/-- a new tuple, a new list, known for good -/
theorem rx_tup {κ : List Cell} {s : Ws} {vs : List V} {ds : List D} (w : CS c κ s) (r : Reps c.K s.g vs ds) : RX c (Rep c.K) (fun H Q => ∀ p, H p = none → Q (.ref p) (upd H p (.tup vs))) s (.tup ds) := fun Q q p hp => by
  have n := Nw.new (o := .tup vs) w.ex w.nt w.tb hp trivial
  exact q _ _ _ n (.tup (.inl (.inl upd_same)) (r.mono n.le))
theorem rx_lst {κ : List Cell} {s : Ws} {vs : List V} {ds : List D} (w : CS c κ s) (r : Reps c.K s.g vs ds) : RX c (Rep c.K) (fun H Q => ∀ p, H p = none → Q (.ref p) (upd H p (.lst vs))) s (.lst ds) := fun Q q p hp => by
  have n := Nw.new (o := .lst vs) w.ex w.nt w.tb hp trivial
  exact q _ _ _ n (.lst upd_same (r.mono n.le))
theorem se_tup {t : TA} {ms : MM (List D)} (h : SA c t ms) : SE c (tTup t) (bnd ms fun ds => lft (mTup ds)) := by
  intro ρ rr e s σ hs Q q
  refine sx_go (t := t) h e hs q fun xs ds ρ s e hs rx q tr => ?_
  obtain ⟨d, e3, rfl⟩ := lft_cases e
  obtain ⟨hl, rfl⟩ := mTup_some e3
  exact ⟨cap_le (by rw [rx.length]; exact hl), rx_tup hs.cr rx _ (post_nw hs q)⟩
theorem se_lst {t : TA} {ms : MM (List D)} (h : SA c t ms) : SE c (tLst t) (bnd ms fun ds => lft (mLst ds)) := by
  intro ρ rr e s σ hs Q q
  refine sx_go (t := t) h e hs q fun xs ds ρ s e hs rx q tr => ?_
  obtain ⟨d, e3, rfl⟩ := lft_cases e
  obtain ⟨hl, rfl⟩ := mLst_some e3
  exact ⟨cap_le (by rw [rx.length]; exact hl), rx_lst hs.cr rx _ (post_nw hs q)⟩

/-! ### tests -/
def asB : D → Option Bool
  | .bl b => some b
  | _ => none
theorem st_val {te : TE} {m : MM D} (h : SE c te m) : ST c (tB te) (bnd m fun d => lft (asB d)) := by
  intro ρ rr e s σ hs Q q
  refine sx_go (t := te) h e hs q fun x a ρ s e hs rx q tr => ?_
  obtain ⟨b, e3, rfl⟩ := lft_cases e
  cases a <;> cases e3
  cases rx
  exact ⟨_, rfl, q _ s hs .refl rfl⟩
theorem st_test {te : TE} {m : MM D} (h : SE c te m) : ST c (tTest te) (bnd m fun d => lft (asB d)) := by
  intro ρ rr e s σ hs Q q
  refine sx_go (t := te) h e hs q fun x a ρ s e hs rx q tr => ?_
  obtain ⟨b, e3, rfl⟩ := lft_cases e
  cases a <;> cases e3
  cases rx
  exact ⟨_, rfl, q _ s hs .refl rfl⟩
theorem st_and {t u : TT} {m n : MM Bool} (h : ST c t m) (k : ST c u n) : ST c (tAnd t u) (bnd m fun a => if a = true then n else ret false) := by
  intro ρ rr e s σ hs Q q
  refine sx_go (t := t) h e hs q fun x a ρ s e hs rx q tr => ?_
  subst rx
  cases x with
  | true => exact k ρ _ e s σ hs Q q
  | false => cases e; exact q false s hs .refl rfl
theorem st_or {t u : TT} {m n : MM Bool} (h : ST c t m) (k : ST c u n) : ST c (tOr t u) (bnd m fun a => if a = true then ret true else n) := by
  intro ρ rr e s σ hs Q q
  refine sx_go (t := t) h e hs q fun x a ρ s e hs rx q tr => ?_
  subst rx
  cases x with
  | true => cases e; exact q true s hs .refl rfl
  | false => exact k ρ _ e s σ hs Q q
theorem st_not {t : TT} {m : MM Bool} (h : ST c t m) : ST c (tNot t) (bnd m fun a => ret (!a)) := by
  intro ρ rr e s σ hs Q q
  refine sx_go (t := t) h e hs q fun x a ρ s e hs rx q tr => ?_
  subst rx
  cases e
  exact q _ s hs .refl rfl
theorem se_and {ta tb : TE} {m n : MM D} (h : SE c ta m) (k : SE c tb n) : SE c (tAndV ta tb) (bnd m fun a => bnd (lft (asB a)) fun b => if b = true then n else ret (.bl false)) := by
  intro ρ rr e s σ hs Q q
  refine sx_go (t := ta) h e hs q fun x a ρ s e hs rx q tr => ?_
  cases a <;> try (cases e; done)
  rename_i b
  cases rx
  refine ⟨b, rfl, ?_⟩
  cases b with
  | true => exact k ρ _ e s σ hs Q q
  | false => cases e; exact q _ s hs .refl (.bl _)
theorem se_or {ta tb : TE} {m n : MM D} (h : SE c ta m) (k : SE c tb n) : SE c (tOrV ta tb) (bnd m fun a => bnd (lft (asB a)) fun b => if b = true then ret (.bl true) else n) := by
  intro ρ rr e s σ hs Q q
  refine sx_go (t := ta) h e hs q fun x a ρ s e hs rx q tr => ?_
  cases a <;> try (cases e; done)
  rename_i b
  cases rx
  refine ⟨b, rfl, ?_⟩
  cases b with
  | true => cases e; exact q _ s hs .refl (.bl _)
  | false => exact k ρ _ e s σ hs Q q
theorem se_not {ta : TE} {m : MM D} (h : SE c ta m) : SE c (tNotV ta) (bnd m fun a => bnd (lft (asB a)) fun b => ret (.bl (!b))) := by
  intro ρ rr e s σ hs Q q
  refine sx_go (t := ta) h e hs q fun x a ρ s e hs rx q tr => ?_
  cases a <;> try (cases e; done)
  rename_i b
  cases rx
  cases e
  exact ⟨b, rfl, q _ s hs .refl (.bl _)⟩
theorem se_if {t : TT} {ta tb : TE} {m : MM Bool} {ma mb : MM D} (h : ST c t m) (ha : SE c ta ma) (hb : SE c tb mb) : SE c (tIf t ta tb) (bnd m fun a => if a = true then ma else mb) := by
  intro ρ rr e s σ hs Q q
  refine sx_go (t := t) h e hs q fun x a ρ s e hs rx q tr => ?_
  subst rx
  cases x with
  | true => exact ha ρ _ e s σ hs Q q
  | false => exact hb ρ _ e s σ hs Q q
end
end PH
end
section
set_option maxHeartbeats 0
namespace PH
open PySem L2

/-! ### statements -/
inductive Out where
  | nx (ρ : St) | rt (d : D) (ρ : St) | bk (ρ : St) | ct (ρ : St) | er (x : Str) (ρ : St)
abbrev MS := St → Option Out
section
variable (c : Cc)
def PostS (E : Ends) (s : Ws) : Out → Prop
  | .nx ρ => ∀ s' σ', SR c ρ s' σ' → Tr s s' → E.nx σ' s'.H
  | .rt d ρ => ∀ v s' σ', SR c ρ s' σ' → Tr s s' → Rep c.K s'.g v d → E.rt v s'.H
  | .bk ρ => ∀ s' σ', SR c ρ s' σ' → Tr s s' → E.bk σ' s'.H
  | .ct ρ => ∀ s' σ', SR c ρ s' σ' → Tr s s' → E.ct σ' s'.H
  | .er x ρ => ∀ s' σ', SR c ρ s' σ' → Tr s s' → c.xw x σ' s'.H
def SS (t : TS) (m : MS) : Prop := ∀ ρ o, m ρ = some o → ∀ s σ, SR c ρ s σ → ∀ E : Ends, PostS c E s o → t E σ s.H
/-- a target -/
def SG (g : TG) (m : D → St → Option St) : Prop := ∀ d ρ ρ', m d ρ = some ρ' → ∀ v s σ, SR c ρ s σ → Rep c.K s.g v d → ∀ Q : L2.St → Hp → Prop, (∀ s' σ', SR c ρ' s' σ' → Tr s s' → Q σ' s'.H) → g v σ s.H Q
def SGs (g : TGs) (m : List D → St → Option St) : Prop := ∀ ds ρ ρ', m ds ρ = some ρ' → ∀ vs s σ, SR c ρ s σ → Reps c.K s.g vs ds → ∀ Q : L2.St → Hp → Prop, (∀ s' σ', SR c ρ' s' σ' → Tr s s' → Q σ' s'.H) → g vs σ s.H Q
end
section
variable {c : Cc}
theorem PostS.after {E : Ends} {s s1 : Ws} {o : Out} (h : PostS c E s o) (t : Tr s s1) : PostS c E s1 o := by
  cases o with
  | nx ρ => exact fun s' σ' a b => h s' σ' a (t.trans b)
  | rt d ρ => exact fun v s' σ' a b => h v s' σ' a (t.trans b)
  | bk ρ => exact fun s' σ' a b => h s' σ' a (t.trans b)
  | ct ρ => exact fun s' σ' a b => h s' σ' a (t.trans b)
  | er x ρ => exact fun s' σ' a b => h s' σ' a (t.trans b)
/-- the end of an expression in a statement -/
def mE {α : Type} (m : MM α) (f : α → MS) : MS := fun ρ => match m ρ with
  | some (.ok a ρ') => f a ρ'
  | some (.er x ρ') => some (.er x ρ')
  | none => none
theorem mE_cases {α : Type} {m : MM α} {f : α → MS} {ρ : St} {o : Out} (h : mE m f ρ = some o) : (∃ a ρ', m ρ = some (.ok a ρ') ∧ f a ρ' = some o) ∨ (∃ x ρ', m ρ = some (.er x ρ') ∧ o = .er x ρ') := by
  unfold mE at h
  split at h
  · rename_i a ρ' e; exact .inl ⟨a, ρ', e, h⟩
  · rename_i x ρ' e; exact .inr ⟨x, ρ', e, (Option.some.inj h).symm⟩
  · cases h
theorem mE_ok {α : Type} {m : MM α} {f : α → MS} {ρ ρ' : St} {a : α} (h : m ρ = some (.ok a ρ')) : mE m f ρ = f a ρ' := by unfold mE; rw [h]
theorem ss_go {τ δ : Type} {rep : Gh → τ → δ → Prop} {t : TX τ} {m : MM δ} {f : δ → MS} {ρ : St} {o : Out} {s : Ws} {σ : L2.St} {E : Ends} {R : τ → Hp → Prop} (h : Sx c rep t m) (e : mE m f ρ = some o) (hs : SR c ρ s σ)
    (q : PostS c E s o) (hk : ∀ v d ρ' s', f d ρ' = some o → SR c ρ' s' σ → rep s'.g v d → PostS c E s' o → Tr s s' → R v s'.H) : t σ s.H R := by
  rcases mE_cases e with ⟨d, ρ', e1, e2⟩ | ⟨x, ρ', e1, rfl⟩
  · exact h ρ _ e1 s σ hs _ fun v s' a b kk => hk v d ρ' s' e2 a kk (q.after b) b
  · exact h ρ _ e1 s σ hs _ fun s' a b => q s' σ a b

def mNext : MS := fun ρ => some (.nx ρ)
theorem ss_next : SS c tNext mNext := by
  intro ρ o e s σ hs E q
  cases e
  exact q s σ hs .refl
def mSeq (m n : MS) : MS := fun ρ => match m ρ with
  | some (.nx ρ') => n ρ'
  | o => o
theorem mSeq_nx {m n : MS} {ρ ρ' : St} (h : m ρ = some (.nx ρ')) : mSeq m n ρ = n ρ' := by unfold mSeq; rw [h]
theorem ss_seq {t u : TS} {m n : MS} (h : SS c t m) (k : SS c u n) : SS c (tSeq t u) (mSeq m n) := by
  intro ρ o e s σ hs E q
  unfold mSeq at e
  split at e
  · rename_i ρ' e1
    exact h ρ _ e1 s σ hs _ fun s' σ' a b => k ρ' o e s' σ' a E (q.after b)
  · rename_i e1
    refine h ρ _ e s σ hs _ ?_
    cases o with
    | nx ρ' => exact absurd e (e1 ρ')
    | rt d ρ' => exact q
    | bk ρ' => exact q
    | ct ρ' => exact q
    | er x ρ' => exact q
def mIf (t : MM Bool) (m n : MS) : MS := mE t fun b => if b = true then m else n
theorem ss_if {tc : TT} {t u : TS} {mt : MM Bool} {m n : MS} (h : ST c tc mt) (k1 : SS c t m) (k2 : SS c u n) : SS c (tIfS tc t u) (mIf mt m n) := by
  intro ρ o e s σ hs E q
  refine ss_go (t := tc) h e hs q fun b d ρ s e hs rx q tr => ?_
  subst rx
  cases b with
  | true => exact k1 ρ o e s σ hs E q
  | false => exact k2 ρ o e s σ hs E q
def mRet (m : MM D) : MS := mE m fun d ρ => some (.rt d ρ)
theorem ss_ret {te : TE} {m : MM D} (h : SE c te m) : SS c (tRet te) (mRet m) := by
  intro ρ o e s σ hs E q
  refine ss_go (t := te) h e hs q fun v d ρ s e hs rx q tr => ?_
  cases e
  exact q v s σ hs .refl rx
def mRetN : MS := fun ρ => some (.rt .non ρ)
theorem ss_retN : SS c tRetN mRetN := by
  intro ρ o e s σ hs E q
  cases e
  exact q _ s σ hs .refl .non
def mDrop {α : Type} (m : MM α) : MS := mE m fun _ ρ => some (.nx ρ)
theorem ss_drop {te : TE} {m : MM D} (h : SE c te m) : SS c (tDrop te) (mDrop m) := by
  intro ρ o e s σ hs E q
  refine ss_go (t := te) h e hs q fun v d ρ s e hs rx q tr => ?_
  cases e
  exact q s σ hs .refl
def mBreak : MS := fun ρ => some (.bk ρ)
def mCont : MS := fun ρ => some (.ct ρ)
theorem ss_break : SS c tBreak mBreak := by
  intro ρ o e s σ hs E q
  cases e
  exact q s σ hs .refl
theorem ss_cont : SS c tCont mCont := by
  intro ρ o e s σ hs E q
  cases e
  exact q s σ hs .refl
def mNever : MS := fun _ => none
theorem ss_never : SS c tNever mNever := by
  intro ρ o e
  cases e

/-! ### stores -/
def St.put (ρ : St) (i : Nat) (l : Loc) : St := ⟨ρ.e.set i l, ρ.c⟩
def setD (i : Nat) (d : D) (ρ : St) : Option St := if i < ρ.e.length then some (ρ.put i (.dat d)) else none
theorem getElem_set {α : Type} {l : List α} {i j : Nat} {a b : α} (h : (l.set i a)[j]? = some b) : (j = i ∧ b = a ∧ i < l.length) ∨ (j ≠ i ∧ l[j]? = some b) := by
  by_cases e : j = i
  · subst e
    have hl := (List.getElem?_eq_some_iff.mp h).1
    rw [List.length_set] at hl
    rw [List.getElem?_set_self hl] at h
    exact .inl ⟨rfl, (Option.some.inj h).symm, hl⟩
  · rw [List.getElem?_set_ne (Ne.symm e)] at h
    exact .inr ⟨e, h⟩
theorem SR.put {ρ : St} {s : Ws} {σ : L2.St} {i : Nat} {v : V} {d : D} (h : SR c ρ s σ) (r : Rep c.K s.g v d) : SR c (ρ.put i (.dat d)) s (σ.set i (some v)) := by
  refine ⟨h.cr, by show (σ.set i _).length = (ρ.e.set i _).length; rw [List.length_set, List.length_set]; exact h.len, fun j d' e => ?_⟩
  rcases getElem_set e with ⟨rfl, e2, hl⟩ | ⟨hj, e⟩
  · cases e2
    exact ⟨v, List.getElem?_set_self (by rw [h.len]; exact hl), r⟩
  · obtain ⟨v', h1, h2⟩ := h.loc j d' e
    exact ⟨v', by rw [List.getElem?_set_ne (Ne.symm hj)]; exact h1, h2⟩
theorem sg_name {i : Nat} : SG c (gName i) (setD i) := by
  intro d ρ ρ' e v s σ hs r Q q
  unfold setD at e
  split at e
  · cases e
    exact q s _ (hs.put r) .refl
  · cases e
def setNil : List D → St → Option St
  | [], ρ => some ρ
  | _ :: _, _ => none
def setCons (g : D → St → Option St) (gs : List D → St → Option St) : List D → St → Option St
  | d :: ds, ρ => (g d ρ).bind (gs ds)
  | [], _ => none
theorem sgs_nil : SGs c gNil setNil := by
  intro ds ρ ρ' e vs s σ hs r Q q
  cases ds with
  | cons d ds => cases e
  | nil =>
    cases e
    cases r
    exact ⟨rfl, q s σ hs .refl⟩
theorem sgs_cons {t : TG} {u : TGs} {m : D → St → Option St} {n : List D → St → Option St} (h : SG c t m) (k : SGs c u n) : SGs c (gCons t u) (setCons m n) := by
  intro ds ρ ρ' e vs s σ hs r Q q
  cases ds with
  | nil => cases e
  | cons d ds =>
    obtain ⟨ρ1, e1, e2⟩ := Option.bind_eq_some_iff.mp e
    cases r with
    | cons r rr => exact ⟨_, _, rfl, h d ρ ρ1 e1 _ s σ hs r _ fun s' σ' a b => k ds ρ1 ρ' e2 _ s' σ' a (rr.mono b.le) _ fun s2 σ2 a2 b2 => q s2 σ2 a2 (b.trans b2)⟩
def setTup (n : Nat) (g : List D → St → Option St) : D → St → Option St
  | .tup ds, ρ => if ds.length = n then g ds ρ else none
  | _, _ => none
theorem sg_tup {n : Nat} {t : TGs} {m : List D → St → Option St} (h : SGs c t m) : SG c (gTup c.K n t) (setTup n m) := by
  intro d ρ ρ' e v s σ hs r Q q
  cases d <;> try (cases e; done)
  rename_i ds
  have e : (if ds.length = n then m ds ρ else none) = some ρ' := e
  split at e
  · rename_i hn
    cases r with
    | tup hq rr => exact ⟨_, _, rfl, hs.ex.st hq, by rw [rr.length]; exact hn, h ds ρ ρ' e _ s σ hs rr Q q⟩
  · cases e
def mAsg (m : MM D) (g : D → St → Option St) : MS := mE m fun d ρ => (g d ρ).map .nx
theorem ss_asg {te : TE} {g : TG} {m : MM D} {mg : D → St → Option St} (h : SE c te m) (k : SG c g mg) : SS c (tAsg te g) (mAsg m mg) := by
  intro ρ o e s σ hs E q
  refine ss_go (t := te) h e hs q fun v d ρ s e hs rx q tr => ?_
  obtain ⟨ρ', e1, rfl⟩ := Option.map_eq_some_iff.mp e
  exact k d ρ ρ' e1 v s σ hs rx _ q
/-- x, y = a, b -/
def mPar (i j : Nat) (m : MM (List D)) : MS := mE m fun ds ρ => match ds with
  | [a, b] => ((setD i a ρ).bind (setD j b)).map .nx
  | _ => none
theorem ss_par {i j : Nat} {ta : TA} {m : MM (List D)} (h : SA c ta m) : SS c (tPar i j ta) (mPar i j m) := by
  intro ρ o e s σ hs E q
  refine ss_go (t := ta) h e hs q fun vs ds ρ s e hs rx q tr => ?_
  cases rx with
  | nil => cases e
  | cons r1 rx =>
    cases rx with
    | nil => cases e
    | cons r2 rx =>
      cases rx with
      | cons _ _ => cases e
      | nil =>
        obtain ⟨ρ', e1, rfl⟩ := Option.map_eq_some_iff.mp e
        obtain ⟨ρ1, e1, e2⟩ := Option.bind_eq_some_iff.mp e1
        refine ⟨_, _, rfl, ?_⟩
        exact sg_name (c := c) _ ρ ρ1 e1 _ s σ hs r1 (fun σ' H' => E.nx (σ'.set j (some _)) H') fun s1 σ1 a b => sg_name (c := c) _ ρ1 ρ' e2 _ s1 σ1 a (r2.mono b.le) _ fun s2 σ2 a2 b2 => q s2 σ2 a2 (b.trans b2)
def mPar3 (i j l : Nat) (m : MM (List D)) : MS := mE m fun ds ρ => match ds with
  | [a, b, d] => (((setD i a ρ).bind (setD j b)).bind (setD l d)).map .nx
  | _ => none
/-- x op= e -/
def mAug (i : Nat) (op : D → D → Option D) (m : MM D) : MS := mE (bnd (rd i) fun a => bnd m fun b => lftK fun κ => op (see1 κ a) (see1 κ b)) fun d ρ => (setD i d ρ).map .nx
def RIp (c : Cc) (r : TIp) (op : D → D → Option D) : Prop := ROp c r op
theorem ss_aug {i : Nat} {te : TE} {ti : TIp} {op : D → D → Option D} {m : MM D} (ho : ROp c ti op) (h : SE c te m) : SS c (tAug i te ti) (mAug i op m) := by
  intro ρ o e s σ hs E q
  have z : SE c (tOp ti (tVar i) te) (bnd (rd i) fun a => bnd m fun b => lftK fun κ => op (see1 κ a) (see1 κ b)) := se_op ho se_var h
  have y := ss_go (t := tOp ti (tVar i) te) (R := fun z H2 => E.nx (σ.set i (some z)) H2) z e hs q fun v d ρ s e hs rx q tr => by
    obtain ⟨ρ', e1, rfl⟩ := Option.map_eq_some_iff.mp e
    exact sg_name (c := c) d ρ ρ' e1 v s σ hs rx _ q
  exact y

/-! ### while -/
def loopW (t : MM Bool) (b : MS) : Nat → MS
  | 0, _ => none
  | n + 1, ρ => match t ρ with
    | some (.ok true ρ1) => match b ρ1 with
      | some (.nx ρ2) => loopW t b n ρ2
      | some (.ct ρ2) => loopW t b n ρ2
      | some (.bk ρ2) => some (.nx ρ2)
      | some (.rt d ρ2) => some (.rt d ρ2)
      | some (.er x ρ2) => some (.er x ρ2)
      | none => none
    | some (.ok false ρ1) => some (.nx ρ1)
    | some (.er x ρ1) => some (.er x ρ1)
    | none => none
def mWhile (fuel : St → Nat) (t : MM Bool) (b : MS) : MS := fun ρ => loopW t b (fuel ρ) ρ
theorem ss_while {tc : TT} {tb : TS} {mt : MM Bool} {mb : MS} {fuel : St → Nat} (h : ST c tc mt) (hb : SS c tb mb) : SS c (tWhile tc tb) (mWhile fuel mt mb) := by
  intro ρ o e s σ hs E q
  refine ⟨fun m σ H => ∃ ρ' s', SR c ρ' s' σ ∧ s'.H = H ∧ Tr s s' ∧ loopW mt mb m ρ' = some o, ⟨fuel ρ, ρ, s, hs, rfl, .refl, e⟩, ?_⟩
  rintro m σ H ⟨ρ1, s1, hs1, rfl, tr1, e⟩
  cases m with
  | zero => cases e
  | succ m =>
    unfold loopW at e
    split at e
    · rename_i ρ2 e2
      refine h ρ1 _ e2 s1 σ hs1 _ fun b s2 hs2 tr2 hb' => ?_
      subst hb'
      refine ⟨fun σ H => ∃ ρ' s', SR c ρ' s' σ ∧ s'.H = H ∧ Tr s s' ∧ loopW mt mb m ρ' = some o, fun σ' H' z => ⟨m, Nat.lt_succ_self m, z⟩, ?_⟩
      have t2 := tr1.trans tr2
      split at e
      · rename_i ρ3 e3
        exact hb ρ2 _ e3 s2 σ hs2 _ fun s3 σ3 a b => ⟨ρ3, s3, a, rfl, t2.trans b, e⟩
      · rename_i ρ3 e3
        exact hb ρ2 _ e3 s2 σ hs2 _ fun s3 σ3 a b => ⟨ρ3, s3, a, rfl, t2.trans b, e⟩
      · rename_i ρ3 e3
        cases e
        exact hb ρ2 _ e3 s2 σ hs2 _ fun s3 σ3 a b => q s3 σ3 a (t2.trans b)
      · rename_i d' ρ3 e3
        cases e
        exact hb ρ2 _ e3 s2 σ hs2 _ fun v s3 σ3 a b r => q v s3 σ3 a (t2.trans b) r
      · rename_i x ρ3 e3
        cases e
        exact hb ρ2 _ e3 s2 σ hs2 _ fun s3 σ3 a b => q s3 σ3 a (t2.trans b)
      · cases e
    · rename_i ρ2 e2
      cases e
      refine h ρ1 _ e2 s1 σ hs1 _ fun b s2 hs2 tr2 hb' => ?_
      subst hb'
      exact q s2 σ hs2 (tr1.trans tr2)
    · rename_i x ρ2 e2
      cases e
      exact h ρ1 _ e2 s1 σ hs1 _ fun s2 hs2 tr2 => q s2 σ hs2 (tr1.trans tr2)
    · cases e
end
end PH
end
section
set_option maxHeartbeats 0
namespace PH
open PySem L2
section
variable {c : Cc} {κ : List Cell} {s : Ws} {σ : L2.St} {ρ : St}
theorem CS.mem {n : Nat} {p : Addr} (ha : s.A[n]? = some p) : p ∈ s.A := List.mem_of_getElem? ha
theorem CS.ne {b : Bs} (h : CS b κ s) {n m : Nat} {p q : Addr} (hp : s.A[n]? = some p) (hq : s.A[m]? = some q) (hnm : n ≠ m) : p ≠ q := fun z => by
  subst z
  obtain ⟨h1, e1⟩ := List.getElem?_eq_some_iff.mp hp
  obtain ⟨h2, e2⟩ := List.getElem?_eq_some_iff.mp hq
  exact hnm ((List.getElem_inj h.inj).mp (e1.trans e2.symm))
/-- a cell's object becomes another one -/
theorem CS.change (h : CS c κ s) {n : Nat} {cl cl2 : Cell} {p : Addr} {u : HO} (e : κ[n]? = some cl) (ha : s.A[n]? = some p) (lu : Lx u) (du : ∀ C dx fs, u = .ins C dx fs → ∃ C' fs', s.H p = some (.ins C' dx fs')) (ok : CellOk c s.g (upd s.H p u) p cl2) (nl : ∀ kd, cl ≠ .lck kd := by intro _ h; cases h) :
    CS c (κ.set n cl2) ⟨s.g, upd s.H p u⟩ ∧ Tr s ⟨s.g, upd s.H p u⟩ := by
  have hp := CS.mem ha
  have ok0 := h.cell e ha
  obtain ⟨z, hz, nz, lz⟩ := ok0.there
  have zo : ∀ x, z ≠ .own x := fun x q => by
    rw [q] at hz
    cases cl with
    | lst ds => obtain ⟨vs, h1, _⟩ := ok0; rw [h1] at hz; cases hz
    | dct kd => obtain ⟨vs, h1, _⟩ := ok0; rw [h1] at hz; cases hz
    | obj y fs => obtain ⟨dx, vf, h1, _⟩ := ok0; rw [h1] at hz; cases hz
    | lck kd => obtain ⟨vs, od, h1, _⟩ := ok0; rw [h1] at hz; cases hz
  have hn : n < κ.length := (List.getElem?_eq_some_iff.mp e).1
  have own1 : ∀ d x, s.H d = some (.own x) → upd s.H p u d = some (.own x) := fun d x q => by
    have hd : d ≠ p := fun w => by rw [w, hz] at q; cases q; exact absurd rfl (zo x)
    rw [upd_ne hd]; exact q
  have wne : ∀ a o, s.W a = some o → a ≠ p := fun a o q w => by
    rw [w, h.fr p hp] at q; cases q
  refine ⟨⟨by rw [List.length_set]; exact h.len, fun m cl' em => ?_, h.fr, h.inj, fun a o q => ?_, h.nt, h.tb.ext fun a o q nl => ?_⟩, ⟨Ex.refl _, List.prefix_refl _, fun _ _ _ w => w, fun a o na _ q _ => ?_, fun a q => ?_, fun a q => ?_, fun a od w q => ?_⟩⟩
  · rcases getElem_set em with ⟨rfl, rfl, _⟩ | ⟨hm, em⟩
    · exact ⟨p, ha, ok⟩
    · obtain ⟨p', h1, h2⟩ := h.cel m cl' em
      have np : p' ≠ p := h.ne h1 ha hm
      exact ⟨p', h1, h2.mono (Le.refl _) (fun v _ q => (upd_ne np).trans q) fun d q => own1 d p' q⟩
  · show upd s.H p u a = some o ∨ ∃ od kv, o = .dK kv ∧ upd s.H p u a = some (.frz od o)
    rw [upd_ne (wne a o q)]; exact h.ex a o q
  · have ha' : a ≠ p := fun w => by
      rw [w, hz] at q; cases q
      exact nl lz
    show upd s.H p u a = some o
    rw [upd_ne ha']; exact q
  · have ha' : a ≠ p := fun w => na (.inl (w ▸ hp))
    show upd s.H p u a = some o
    rw [upd_ne ha']; exact q
  · rcases q with q | ⟨x, hx, C, fs, q⟩
    · exact .inl (.inl q)
    · have q : upd s.H p u x = some (.ins C a fs) := q
      by_cases hxp : x = p
      · rw [hxp, upd_same] at q
        cases q
        obtain ⟨C', fs', e'⟩ := du C a fs rfl
        exact .inl (.inr ⟨p, hp, C', fs', e'⟩)
      · rw [upd_ne hxp] at q
        exact .inl (.inr ⟨x, hx, C, fs, q⟩)
  · by_cases ha' : a = p
    · show upd s.H p u a ≠ none
      rw [ha', upd_same]; exact fun z => nomatch z
    · show upd s.H p u a ≠ none
      rw [upd_ne ha']; exact q
  · have ha' : a ≠ p := fun x => by
      rw [x] at q
      cases cl with
      | lst ds => obtain ⟨vs, h1, _⟩ := ok0; rw [h1] at q; cases q
      | dct kd => obtain ⟨vs, h1, _⟩ := ok0; rw [h1] at q; cases q
      | obj y fs => obtain ⟨dx, vf, h1, _⟩ := ok0; rw [h1] at q; cases q
      | lck kd => exact nl kd rfl
    show upd s.H p u a = _
    rw [upd_ne ha']; exact q
def St.setc (ρ : St) (n : Nat) (cl : Cell) : St := ⟨ρ.e, ρ.c.set n cl⟩
theorem SR.change (h : SR c ρ s σ) {n : Nat} {cl cl2 : Cell} {p : Addr} {u : HO} (e : ρ.c[n]? = some cl) (ha : s.A[n]? = some p) (lu : Lx u) (du : ∀ C dx fs, u = .ins C dx fs → ∃ C' fs', s.H p = some (.ins C' dx fs')) (ok : CellOk c s.g (upd s.H p u) p cl2) (nl : ∀ kd, cl ≠ .lck kd := by intro _ h; cases h) :
    SR c (ρ.setc n cl2) ⟨s.g, upd s.H p u⟩ σ ∧ Tr s ⟨s.g, upd s.H p u⟩ := by
  obtain ⟨h1, h2⟩ := h.cr.change e ha lu du ok nl
  exact ⟨⟨h1, h.len, h.loc⟩, h2⟩
/-- a new cell -/
theorem CS.add (h : CS c κ s) {cl : Cell} {p : Addr} {H' : Hp} (n : Nw c.tb s.W s.H s.W H') (h0 : s.H p = none) (ok : CellOk c ⟨s.W, s.A ++ [p]⟩ H' p cl) (hd : ∀ C d fs, H' p = some (.ins C d fs) → s.H d = none) :
    CS c (κ ++ [cl]) ⟨⟨s.W, s.A ++ [p]⟩, H'⟩ ∧ Tr s ⟨⟨s.W, s.A ++ [p]⟩, H'⟩ := by
  obtain ⟨h1, t1⟩ := h.nw n
  have hpA : p ∉ s.A := fun z => by
    obtain ⟨u, hu, _⟩ := h.there z
    rw [h0] at hu; cases hu
  have le : Le s.g ⟨s.W, s.A ++ [p]⟩ := ⟨Ex.refl _, fun m q e => by rw [List.getElem?_append_left (List.getElem?_eq_some_iff.mp e).1]; exact e⟩
  have there : ∀ q ∈ s.A, s.H q ≠ none := fun q hq => by
    obtain ⟨u, hu, _⟩ := h.there hq
    rw [hu]; exact fun z => nomatch z
  refine ⟨⟨by show (s.A ++ [p]).length = _; rw [List.length_append, List.length_append, h.len]; rfl, fun m cl' e => ?_, fun q hq => ?_, ?_, n.x, n.nt, n.t⟩, ⟨Ex.refl _, List.prefix_append _ _, fun _ _ _ w => w, fun a o na _ q nt => n.f a o q nt, fun a z => ?_, n.p, fun a od w q => n.f a _ q (fun _ z => nomatch z)⟩⟩
  · by_cases hm : m < κ.length
    · rw [List.getElem?_append_left hm] at e
      obtain ⟨q, e1, e2⟩ := h.cel m cl' e
      exact ⟨q, le.a m q e1, e2.mono le (fun u nu hu => n.f q u hu nu) fun d hd => n.f d _ hd (fun _ z => nomatch z)⟩
    · rw [List.getElem?_append_right (by omega)] at e
      have e0 : m = κ.length := by
        have := (List.getElem?_eq_some_iff.mp e).1
        simp at this
        omega
      subst e0
      rw [Nat.sub_self] at e
      cases e
      refine ⟨p, ?_, ok⟩
      show (s.A ++ [p])[κ.length]? = some p
      rw [← h.len, List.getElem?_append_right (Nat.le_refl _), Nat.sub_self]
      rfl
  · rcases List.mem_append.mp hq with hq | hq
    · exact h.fr q hq
    · rw [List.mem_singleton.mp hq]; exact h.wfree h0
  · show (s.A ++ [p]).Nodup
    rw [List.nodup_append]
    exact ⟨h.inj, by simp, fun a ha b hb z => hpA (by rw [← List.mem_singleton.mp hb, ← z]; exact ha)⟩
  · rcases z with z | ⟨x, hx, C, fs, z⟩
    · rcases List.mem_append.mp z with z | z
      · exact .inl (.inl z)
      · rw [List.mem_singleton.mp z]; exact .inr h0
    · have z : H' x = some (.ins C a fs) := z
      rcases List.mem_append.mp hx with hx | hx
      · obtain ⟨u, hu, nu, _⟩ := h.there hx
        rw [n.f x u hu nu] at z
        exact .inl (.inr ⟨x, hx, C, fs, hu.trans z⟩)
      · rw [List.mem_singleton.mp hx] at z
        exact .inr (hd C a fs z)
def St.add (ρ : St) (cl : Cell) : St := ⟨ρ.e, ρ.c ++ [cl]⟩
theorem SR.add (h : SR c ρ s σ) {cl : Cell} {p : Addr} {H' : Hp} (n : Nw c.tb s.W s.H s.W H') (h0 : s.H p = none) (ok : CellOk c ⟨s.W, s.A ++ [p]⟩ H' p cl) (hd : ∀ C d fs, H' p = some (.ins C d fs) → s.H d = none) :
    SR c (ρ.add cl) ⟨⟨s.W, s.A ++ [p]⟩, H'⟩ σ ∧ Tr s ⟨⟨s.W, s.A ++ [p]⟩, H'⟩ ∧ Rep c.K ⟨s.W, s.A ++ [p]⟩ (.ref p) (.ref ρ.c.length) := by
  obtain ⟨h1, h2⟩ := h.cr.add n h0 ok hd
  refine ⟨⟨h1, h.len, fun i d e => ?_⟩, h2, .ref ?_⟩
  · obtain ⟨v, e1, e2⟩ := h.loc i d e
    exact ⟨v, e1, e2.mono h2.le⟩
  · show (s.A ++ [p])[ρ.c.length]? = some p
    rw [← h.cr.len, List.getElem?_append_right (Nat.le_refl _), Nat.sub_self]
    rfl
theorem le_add {p : Addr} : Le s.g ⟨s.W, s.A ++ [p]⟩ := ⟨Ex.refl _, fun m q e => by rw [List.getElem?_append_left (List.getElem?_eq_some_iff.mp e).1]; exact e⟩

/-! ### a list, a dict made anew as a cell -/
def newC (cl : Cell) : MM D := fun ρ => some (.ok (.ref ρ.c.length) (ρ.add cl))
theorem post_lst {Q : VK} {vs : List V} {ds : List D} (hs : SR c ρ s σ) (q : PostX c (Rep c.K) s σ Q (.ok (.ref ρ.c.length) (ρ.add (.lst ds)))) (r : Reps c.K s.g vs ds) : ∀ p, s.H p = none → Q (.ref p) (upd s.H p (.lst vs)) := fun p hp => by
  have n := Nw.own (p := p) (o := .lst vs) hs.cr.ex hs.cr.nt hs.cr.tb hp
  obtain ⟨h1, h2, h3⟩ := hs.add n hp (cl := .lst ds) ⟨vs, upd_same, r.mono le_add⟩ (fun C d fs e => by rw [upd_same] at e; cases e)
  exact q (.ref p) _ h1 h2 h3
theorem post_dct {Q : VK} {vs : List (Key × V)} {ds : List (Key × D)} (hs : SR c ρ s σ) (q : PostX c (Rep c.K) s σ Q (.ok (.ref ρ.c.length) (ρ.add (.dct ds)))) (r : RepK c.K s.g vs ds) : ∀ p, s.H p = none → Q (.ref p) (upd s.H p (.dK vs)) := fun p hp => by
  have n := Nw.own (p := p) (o := .dK vs) hs.cr.ex hs.cr.nt hs.cr.tb hp
  obtain ⟨h1, h2, h3⟩ := hs.add n hp (cl := .dct ds) ⟨vs, upd_same, r.mono le_add⟩ (fun C d fs e => by rw [upd_same] at e; cases e)
  exact q (.ref p) _ h1 h2 h3
theorem se_lstC {t : TA} {ms : MM (List D)} (h : SA c t ms) : SE c (tLst t) (bnd ms fun ds => if ds.length ≤ cap then newC (.lst ds) else fun _ => none) := by
  intro ρ rr e s σ hs Q q
  refine sx_go (t := t) h e hs q fun xs ds ρ s e hs rx q tr => ?_
  split at e
  · rename_i hl
    cases e
    exact ⟨cap_le (by rw [rx.length]; exact hl), post_lst hs q rx⟩
  · cases e
/-- a list made by values, as a cell; known for good -/
def ROwn (c : Cc) (r : R2) (op : List Cell → D → D → Option (List D)) : Prop := ∀ κ s x y a b ds, CS c κ s → Rep c.K s.g x a → Rep c.K s.g y b → op κ a b = some ds → ∃ vs, Reps c.K s.g vs ds ∧ ∀ Q : VK, (∀ p, s.H p = none → Q (.ref p) (upd s.H p (.lst vs))) → r x y s.H Q
theorem se_opC {r : R2} {op : List Cell → D → D → Option (List D)} {ta tb : TE} {ma mb : MM D} (ho : ROwn c r op) (ha : SE c ta ma) (hb : SE c tb mb) :
    SE c (tOp r ta tb) (bnd ma fun a => bnd mb fun b => bnd (lftK fun κ => op κ a b) fun ds => newC (.lst ds)) := by
  intro ρ rr e s σ hs Q q
  refine sx_go (t := ta) ha e hs q fun x a ρ s e hs rx q tr => ?_
  refine sx_go (t := tb) hb e hs q fun y b ρ s e hs ry q tr => ?_
  rcases bnd_cases e with ⟨ds, ρ', e1, e2⟩ | ⟨x', ρ', e1, _⟩
  · obtain ⟨ds', e3, e4⟩ := lftK_cases e1
    cases e4
    cases e2
    obtain ⟨vs, hv, h⟩ := ho _ _ x y a b _ hs.cr (rx.mono tr.le) ry e3
    exact h Q (post_lst hs q hv)
  · obtain ⟨ds', e3, e4⟩ := lftK_cases e1
    cases e4
theorem rop_of {r : R2} {op : List Cell → D → D → Option (List D)} (ho : ROwn c r op) : RKp c r (fun κ a b => (op κ a b).map .lst) := by
  intro κ s x y a b d w rx ry e Q q
  obtain ⟨ds, e4, rfl⟩ := Option.map_eq_some_iff.mp e
  obtain ⟨vs, hv, h⟩ := ho κ s x y a b ds w rx ry e4
  exact h Q (rx_lst w hv Q q)

/-! ### what a cell is, read and changed -/
/-- a list: known for good, or a cell -/
def seeL (κ : List Cell) : D → Option (List D)
  | .lst ds => some ds
  | .ref n => match κ[n]? with
    | some (.lst ds) => some ds
    | _ => none
  | _ => none
theorem seeL_rep {d : D} {ds : List D} {v : V} (h : CS c κ s) (r : Rep c.K s.g v d) (e : seeL κ d = some ds) : ∃ a vs, v = .ref a ∧ s.H a = some (.lst vs) ∧ Reps c.K s.g vs ds := by
  cases d <;> try (cases e; done)
  · cases e
    cases r with
    | @lst a vs _ h1 h2 => exact ⟨a, vs, rfl, h.ex.l h1, h2⟩
  · rename_i n
    cases r with
    | @ref a _ h1 =>
      have e : (match κ[n]? with
        | some (.lst ds) => some ds
        | _ => none) = some ds := e
      split at e
      · rename_i ds' e1
        cases e
        obtain ⟨vs, h2, h3⟩ := h.cell e1 h1
        exact ⟨a, vs, rfl, h2, h3⟩
      · cases e
/-- a dict -/
def seeD (κ : List Cell) : D → Option (List (Key × D))
  | .dct kd => some kd
  | .ref n => match κ[n]? with
    | some (.dct kd) => some kd
    | some (.lck kd) => some kd
    | _ => none
  | _ => none
theorem seeD_rep {d : D} {ds : List (Key × D)} {v : V} (h : CS c κ s) (r : Rep c.K s.g v d) (e : seeD κ d = some ds) : ∃ a vs, v = .ref a ∧ Rd s.H a (.dK vs) ∧ RepK c.K s.g vs ds := by
  cases d <;> try (cases e; done)
  · cases e
    cases r with
    | @dct a vs _ h1 h2 => exact ⟨a, vs, rfl, h.ex.d h1, h2⟩
  · rename_i n
    cases r with
    | @ref a _ h1 =>
      have e : (match κ[n]? with
        | some (.dct ds) => some ds
        | some (.lck ds) => some ds
        | _ => none) = some ds := e
      split at e
      · rename_i ds' e1
        cases e
        obtain ⟨vs, h2, h3⟩ := h.cell e1 h1
        exact ⟨a, vs, rfl, .inl h2, h3⟩
      · rename_i ds' e1
        cases e
        obtain ⟨vs, od, h2, h3⟩ := h.cell e1 h1
        exact ⟨a, vs, rfl, .inr ⟨od, h2⟩, h3⟩
      · cases e
/-- an instance: its class, its fields -/
def seeO (κ : List Cell) : D → Option (Str × List (Str × D))
  | .ref n => match κ[n]? with
    | some (.obj x fs) => some (x, fs)
    | _ => none
  | _ => none
theorem seeO_rep {d : D} {x : Str} {fs : List (Str × D)} {v : V} (h : CS c κ s) (r : Rep c.K s.g v d) (e : seeO κ d = some (x, fs)) : ∃ n a dx vf, d = .ref n ∧ κ[n]? = some (.obj x fs) ∧ s.A[n]? = some a ∧ v = .ref a ∧ s.H a = some (.ins (c.ca x) dx vf) ∧ s.H dx = some (.own a) ∧ RepF c.K s.g vf fs := by
  cases d <;> try (cases e; done)
  rename_i n
  cases r with
  | @ref a _ h1 =>
    have e : (match κ[n]? with
      | some (.obj x fs) => some (x, fs)
      | _ => none) = some (x, fs) := e
    split at e
    · rename_i x' fs' e1
      cases e
      obtain ⟨dx, vf, h2, h3, h4⟩ := h.cell e1 h1
      exact ⟨n, a, dx, vf, rfl, e1, h1, rfl, h2, h3, h4⟩
    · cases e
theorem tyV_l {p : Addr} {vs : List V} {K : PySem.W.Frag} {H : Hp} (h : H p = some (.lst vs)) : tyV K "list" (.ref p) H := .inl ⟨rfl, _, .inl (.inl h)⟩
/-- o.m(..) that changes the list o -/
def mMeth (op : List Cell → List D → List D → Option (List D × D)) (mo : MM D) (ma : MM (List D)) : MM D := bnd mo fun o => match o with
  | .ref n => fun ρ => match ρ.c[n]? with
    | some (.lst _) => bnd ma (fun as ρ => match ρ.c[n]? with
      | some (.lst ds) => match op ρ.c ds as with
        | some (ds2, d) => some (.ok d (ρ.setc n (.lst ds2)))
        | none => none
      | _ => none) ρ
    | _ => none
  | _ => fun _ => none
/-- what a list's method does, by values -/
def RMe (c : Cc) (r : V → List V → Hp → VK → Prop) (op : List Cell → List D → List D → Option (List D × D)) : Prop := ∀ κ s p xs vs ds as ds2 d, CS c κ s → s.H p = some (.lst xs) → Reps c.K s.g xs ds → Reps c.K s.g vs as → op κ ds as = some (ds2, d) →
  ∃ ys v, Reps c.K s.g ys ds2 ∧ Rep c.K s.g v d ∧ ∀ Q : VK, Q v (upd s.H p (.lst ys)) → r (.ref p) vs s.H Q
theorem se_meth {r : V → List V → Hp → VK → Prop} {op : List Cell → List D → List D → Option (List D × D)} {to : TE} {t : TA} {mo : MM D} {m : MM (List D)} (ho : RMe c r op) (h0 : SE c to mo) (h : SA c t m) : SE c (tBM c.K "list" r to t) (mMeth op mo m) := by
  intro ρ rr e s σ hs Q q
  refine sx_go (t := to) h0 e hs q fun x o ρ s e hs rx q tr => ?_
  cases o <;> try (cases e; done)
  rename_i n
  dsimp only at e
  split at e
  · rename_i ds0 e0
    cases rx with
    | @ref p _ hA =>
    obtain ⟨vs0, hp0, _⟩ := hs.cr.cell e0 hA
    refine ⟨tyV_l hp0, ?_⟩
    refine sx_go (t := t) h e hs q fun vs as ρ s' e hs' rx q tr => ?_
    split at e
    · rename_i ds1 e1
      split at e
      · rename_i ds2 d eo
        cases e
        have hA' : s'.A[n]? = some p := tr.le.a n p hA
        obtain ⟨vs1, hp1, r1⟩ := hs'.cr.cell e1 hA'
        obtain ⟨ys, v, ry, rv, hr⟩ := ho _ s' p vs1 vs ds1 as ds2 d hs'.cr hp1 r1 rx eo
        obtain ⟨k1, k2⟩ := hs'.change (u := .lst ys) (cl2 := .lst ds2) e1 hA' trivial (fun _ _ _ z => nomatch z) ⟨ys, upd_same, ry⟩
        exact hr Q (q v _ k1 k2 rv)
      · cases e
    · cases e
  · cases e
end
end PH
end
section
set_option maxHeartbeats 0
namespace PH
open PySem L2

theorem atI_reps {K : PySem.W.Frag} {g : Gh} {vs : List V} {ds : List D} {k : Int} {d : D} (r : Reps K g vs ds) (h : atI ds k = some d) : ∃ v, atI vs k = some v ∧ Rep K g v d := by
  unfold atI at h ⊢
  rw [r.length]
  obtain ⟨j, e1, e2⟩ := Option.bind_eq_some_iff.mp h
  obtain ⟨v, hv, rv⟩ := r.getD e2
  exact ⟨v, by rw [e1]; exact hv, rv⟩
/-- len's reading, truth's -/
def rLn (K : PySem.W.Frag) : List V → Hp → VK → Prop := fun xs H Q => ∃ x n, xs = [x] ∧ LenV K x H n ∧ Q (.int n) H
def tTru (K : PySem.W.Frag) (te : TE) : TT := fun σ H Q => te σ H fun x H1 => ∃ k, TruV K x H1 k ∧ Q k H1
theorem isEmpty_reps {K : PySem.W.Frag} {g : Gh} {vs : List V} {ds : List D} (r : Reps K g vs ds) : vs.isEmpty = ds.isEmpty := by
  cases r <;> rfl
/-! ### == of data -/
mutual
def toP : D → PyData
  | .non => .none
  | .bl b => .bool b
  | .int i => .int i
  | .str x => .str x
  | .tup xs => .tuple (toPs xs)
  | .lst xs => .list (toPs xs)
  | .dct _ => .dict []
  | .frz _ => .dict []
  | .ref _ => .dict []
def toPs : List D → List PyData
  | [] => []
  | x :: xs => toP x :: toPs xs
end
mutual
theorem Rep.dp {K : PySem.W.Frag} {g : Gh} {H : Hp} (e : Kn g.W H) : ∀ {d : D} {v : V}, Rep K g v d → (toP d).plain = true → Dp K H v (toP d)
  | _, _, .non, _ => .non
  | _, _, .bl b, _ => .bl b
  | _, _, .int i, _ => .int i
  | _, _, .str x, _ => .str x
  | _, _, .tup h r, q => .tup (e.st h) (Reps.dp e r (by simpa [toP, PyData.plain] using q))
  | _, _, .lst h r, q => .lst (e.sl (.inl (.inl h))) (Reps.dp e r (by simpa [toP, PyData.plain] using q))
  | _, _, .dct h r, q => by simp [toP, PyData.plain] at q
  | _, _, .frz h r, q => by simp [toP, PyData.plain] at q
  | _, _, .ref h, q => by simp [toP, PyData.plain] at q
theorem Reps.dp {K : PySem.W.Frag} {g : Gh} {H : Hp} (e : Kn g.W H) : ∀ {ds : List D} {vs : List V}, Reps K g vs ds → PyData.plainAll (toPs ds) = true → DpAll K H vs (toPs ds)
  | _, _, .nil, _ => .nil
  | _, _, .cons h r, q => by
    simp only [toPs, PyData.plainAll, Bool.and_eq_true] at q
    exact .cons (Rep.dp e h q.1) (Reps.dp e r q.2)
end
theorem RepH.dp {K : PySem.W.Frag} {g : Gh} {H : Hp} (e : Kn g.W H) {d : D} {v : V} (r : RepH K g H v d) (q : (toP d).plain = true) : Dp K H v (toP d) := by
  cases r with
  | non => exact .non
  | bl b => exact .bl b
  | int i => exact .int i
  | str x => exact .str x
  | tup h r => exact .tup (e.st h) (Reps.dp e r (by simpa [toP, PyData.plain] using q))
  | lst h r => exact .lst (.inl (.inl h)) (Reps.dp e r (by simpa [toP, PyData.plain] using q))
  | frz h r => simp [toP, PyData.plain] at q
  | dct h r => simp [toP, PyData.plain] at q
  | ref h => simp [toP, PyData.plain] at q
def eqD (a b : D) : Option Bool := if (toP a).plain = true ∧ (toP b).plain = true ∧ min (toP a).depth (toP b).depth ≤ 64 then some (PyData.eqv (toP a) (toP b)) else none
def rEqP (K : PySem.W.Frag) : R2 := fun x y H Q => ∃ d e, Dp K H x d ∧ Dp K H y e ∧ d.plain = true ∧ e.plain = true ∧ min d.depth e.depth ≤ 64 ∧ Q (.bl (PyData.eqv d e)) H
def rNeP (K : PySem.W.Frag) : R2 := fun x y H Q => ∃ d e, Dp K H x d ∧ Dp K H y e ∧ d.plain = true ∧ e.plain = true ∧ min d.depth e.depth ≤ 64 ∧ Q (.bl (!PyData.eqv d e)) H
section
variable {X : Cx}
theorem op_eqP (hu : X.A.units + 64 < cLine) : OpR X (compareOp .Eq) (rEqP X.K) := by
  intro pins s σ H x y v u Q I rx ry h
  obtain ⟨d, e, hd, he, sd, se, hm, q⟩ := h
  obtain ⟨as, r1⟩ := Dp.reads I d x v hd rx
  obtain ⟨bs, r2⟩ := Dp.reads I e y u he ry
  exact SeqAt.eq_plain r1 r2 sd se (by omega) ⟨.bl _, H, I, rfl, q⟩
theorem op_neP (hu : X.A.units + 64 < cLine) : OpR X (compareOp .NotEq) (rNeP X.K) := by
  intro pins s σ H x y v u Q I rx ry h
  obtain ⟨d, e, hd, he, sd, se, hm, q⟩ := h
  obtain ⟨as, r1⟩ := Dp.reads I d x v hd rx
  obtain ⟨bs, r2⟩ := Dp.reads I e y u he ry
  exact SeqAt.ne_plain r1 r2 sd se (by omega) ⟨.bl _, H, I, rfl, q⟩
end
def dEq (a b : D) : Option D := (eqD a b).map .bl
def dNe (a b : D) : Option D := (eqD a b).map fun b => .bl (!b)
section
variable {c : Cc}
theorem rop_eq : ROp c (rEqP c.K) dEq := by
  intro κ s x y a b d w rx ry e Q q
  obtain ⟨k, e1, rfl⟩ := Option.map_eq_some_iff.mp e
  unfold eqD at e1
  split at e1
  · rename_i h
    cases e1
    exact ⟨_, _, rx.dp w.ex h.1, ry.dp w.ex h.2.1, h.1, h.2.1, h.2.2, q _ s.W s.H w.nref (.bl _)⟩
  · cases e1
theorem rop_ne : ROp c (rNeP c.K) dNe := by
  intro κ s x y a b d w rx ry e Q q
  obtain ⟨k, e1, rfl⟩ := Option.map_eq_some_iff.mp e
  unfold eqD at e1
  split at e1
  · rename_i h
    cases e1
    exact ⟨_, _, rx.dp w.ex h.1, ry.dp w.ex h.2.1, h.1, h.2.1, h.2.2, q _ s.W s.H w.nref (.bl _)⟩
  · cases e1

/-! ### arithmetic -/
def dInt2 (C : Int → Int → Bool) (g : Int → Int → D) : D → D → Option D
  | .int i, .int j => if C i j = true then some (g i j) else none
  | _, _ => none
theorem rop_I {C : Int → Int → Prop} {Cb : Int → Int → Bool} {g : Int → Int → V} {gd : Int → Int → D} (hc : ∀ i j, Cb i j = true → C i j) (hg : ∀ gh i j, Rep c.K gh (g i j) (gd i j)) : ROp c (rI C g) (dInt2 Cb gd) := by
  intro κ s x y a b d w rx ry e Q q
  cases a <;> try (cases e; done)
  cases b <;> try (cases e; done)
  rename_i i j
  cases rx
  cases ry
  have e : (if Cb i j = true then some (gd i j) else none) = some d := e
  split at e
  · rename_i h
    cases e
    exact ⟨i, j, rfl, rfl, hc i j h, q _ s.W s.H w.nref (hg _ i j)⟩
  · cases e
def dInt (g : Int → Int → D) : D → D → Option D
  | .int i, .int j => some (g i j)
  | _, _ => none
theorem rop_I0 {g : Int → Int → V} {gd : Int → Int → D} (hg : ∀ gh i j, Rep c.K gh (g i j) (gd i j)) : ROp c (rI0 g) (dInt gd) := by
  intro κ s x y a b d w rx ry e Q q
  cases a <;> try (cases e; done)
  cases b <;> try (cases e; done)
  rename_i i j
  cases rx
  cases ry
  cases e
  exact ⟨i, j, rfl, rfl, q _ s.W s.H w.nref (hg _ i j)⟩
def dSub : D → D → Option D := dInt fun i j => .int (i - j)
def dMod : D → D → Option D := dInt2 (fun _ j => j != 0) fun i j => .int (i.fmod j)
def dDiv : D → D → Option D := dInt2 (fun _ j => decide (0 < j) && decide (j < 1073741824)) fun i j => .int (i / j)
def dLt : D → D → Option D := dInt fun i j => .bl (decide (i < j))
def dLe : D → D → Option D := dInt fun i j => .bl (decide (i ≤ j))
def dGt : D → D → Option D := dInt fun i j => .bl (decide (j < i))
def dGe : D → D → Option D := dInt fun i j => .bl (decide (j ≤ i))
theorem rop_sub : ROp c (rI0 fun i j => .int (i - j)) dSub := rop_I0 fun _ _ _ => .int _
theorem rop_mod : ROp c (rI (fun _ j => j ≠ 0) fun i j => .int (i.fmod j)) dMod := rop_I (fun i j h => by simpa using h) fun _ _ _ => .int _
theorem rop_div : ROp c (rI CDiv fun i j => .int (i / j)) dDiv := rop_I (fun i j h => by rw [Bool.and_eq_true] at h; exact ⟨of_decide_eq_true h.1, of_decide_eq_true h.2⟩) fun _ _ _ => .int _
theorem rop_lt : ROp c (rI0 fun i j => .bl (decide (i < j))) dLt := rop_I0 fun _ _ _ => .bl _
theorem rop_le : ROp c (rI0 fun i j => .bl (decide (i ≤ j))) dLe := rop_I0 fun _ _ _ => .bl _
theorem rop_gt : ROp c (rI0 fun i j => .bl (decide (j < i))) dGt := rop_I0 fun _ _ _ => .bl _
theorem rop_ge : ROp c (rI0 fun i j => .bl (decide (j ≤ i))) dGe := rop_I0 fun _ _ _ => .bl _

/-! ### + -/
def rOr (r r' : R2) : R2 := fun x y H Q => r x y H Q ∨ r' x y H Q
theorem OpR.or {X : Cx} {f : Value → Value → Sem Value} {r r' : R2} (h : OpR X f r) (h' : OpR X f r') : OpR X f (rOr r r') := by
  intro pins s σ H x y v u Q I rx ry q
  rcases q with q | q
  · exact h pins s σ H x y v u Q I rx ry q
  · exact h' pins s σ H x y v u Q I rx ry q
theorem ROp.or {r r' : R2} {f g : D → D → Option D} (h : ROp c r f) (h' : ROp c r' g) : ROp c (rOr r r') (fun a b => (f a b).or (g a b)) := by
  intro κ s x y a b d w rx ry e Q q
  dsimp only at e
  cases e1 : f a b with
  | none => rw [e1] at e; exact .inr (h' κ s x y a b d w rx ry e Q q)
  | some z => rw [e1] at e; cases e; exact .inl (h κ s x y a b _ w rx ry e1 Q q)
def rStrAdd : R2 := fun x y H Q => ∃ i j, x = .str i ∧ y = .str j ∧ i.length + j.length ≤ sizeLine ∧ Q (.str (i ++ j)) H
def dAdd : D → D → Option D
  | .int i, .int j => some (.int (i + j))
  | .str x, .str y => if x.length + y.length ≤ cap then some (.str (x ++ y)) else none
  | .tup x, .tup y => if x.length + y.length ≤ cap then some (.tup (x ++ y)) else none
  | .lst x, .lst y => if x.length + y.length ≤ cap then some (.lst (x ++ y)) else none
  | _, _ => none
def rAddAll (K : PySem.W.Frag) : R2 := rOr (rI0 fun i j => .int (i + j)) (rOr rStrAdd (rOr (rCatA K) rCat))
theorem op_addAll {X : Cx} : OpR X (binaryOp .Add) (rAddAll X.K) := OpR.or op_add (OpR.or op_add_str (OpR.or op_catA op_cat))
theorem rop_add : ROp c (rAddAll c.K) dAdd := by
  intro κ s x y a b d w rx ry e Q q
  cases a <;> try (cases e; done)
  · cases b <;> try (cases e; done)
    cases rx; cases ry; cases e
    exact .inl ⟨_, _, rfl, rfl, q _ s.W s.H w.nref (.int _)⟩
  · cases b <;> try (cases e; done)
    rename_i z1 z2
    cases rx; cases ry
    have e : (if z1.length + z2.length ≤ cap then some (D.str (z1 ++ z2)) else none) = some d := e
    split at e
    · rename_i h
      cases e
      exact .inr (.inl ⟨_, _, rfl, rfl, cap_le h, q _ s.W s.H w.nref (.str _)⟩)
    · cases e
  · cases b <;> try (cases e; done)
    rename_i z1 z2
    have e : (if z1.length + z2.length ≤ cap then some (D.tup (z1 ++ z2)) else none) = some d := e
    split at e
    · rename_i h
      cases e
      cases rx with
      | @tup p xs _ hx r1 =>
        cases ry with
        | @tup p2 ys _ hy r2 =>
          refine .inr (.inr (.inl ⟨p, p2, xs, ys, rfl, rfl, w.ex.st hx, w.ex.st hy, cap_le (by rw [r1.length, r2.length]; exact h), fun hn => ?_, fun _ hn => ?_, fun _ _ => rx_tup w (r1.append r2) Q q⟩))
          · subst hn
            have := r1.nilL
            subst this
            exact q _ s.W s.H w.nref (.tup hy r2)
          · subst hn
            have := r2.nilL
            subst this
            exact q _ s.W s.H w.nref (.tup hx (by rw [List.append_nil]; exact r1))
    · cases e
  · cases b <;> try (cases e; done)
    rename_i z1 z2
    have e : (if z1.length + z2.length ≤ cap then some (D.lst (z1 ++ z2)) else none) = some d := e
    split at e
    · rename_i h
      cases e
      cases rx with
      | @lst p xs _ hx r1 =>
        cases ry with
        | @lst p2 ys _ hy r2 =>
          exact .inr (.inr (.inr ⟨p, p2, xs, ys, rfl, rfl, hx, hy, cap_le (by rw [r1.length, r2.length]; exact h), rx_lst w (r1.append r2) Q q⟩))
    · cases e
/-! ### * -/
def mulOk (i j : Int) : Bool := (decide (-(2 ^ 64) < i) && decide (i < 2 ^ 64)) || (decide (-(2 ^ 64) < j) && decide (j < 2 ^ 64))
def repOk (n : Nat) (k : Int) : Bool := decide (-(2 ^ 63) ≤ k) && decide (k < 2 ^ 63) && decide (n * k.toNat ≤ cap)
def rStrMul : R2 := fun x y H Q => ∃ z k, x = .str z ∧ y = .int k ∧ 1 ≤ k ∧ k ≤ 1000 ∧ z.length ≤ 1000 ∧ Q (.str (Txt.mul z k)) H
theorem op_strMul {X : Cx} : OpR X (binaryOp .Mult) rStrMul := by
  intro pins s σ H x y v u Q I rx ry h
  obtain ⟨z, k, rfl, rfl, h1, h2, h3, q⟩ := h
  obtain ⟨t, rfl⟩ := rx
  obtain ⟨t', rfl⟩ := ry
  refine SB.mul ⟨?_, fun _ _ => ?_, fun _ _ => ?_⟩ fun t' k' => ⟨.str _, H, I.tok _, ⟨_, rfl⟩, q⟩
  · rw [decide_eq_false (by omega), decide_eq_false (by omega)]; rfl
  · have : (z.length : Int) ≤ (2 ^ 63 - 1) / k := by
      rw [Int.le_ediv_iff_mul_le (by omega)]
      have h4 : (z.length : Int) * k ≤ 1000 * 1000 := Int.mul_le_mul (by omega) h2 (by omega) (by omega)
      omega
    omega
  · have h5 : z.length * k.toNat ≤ 1000 * 1000 := Nat.mul_le_mul h3 (by omega)
    show decide (z.length * k.toNat > sizeLine) = false
    rw [sizeLine_eq]
    exact decide_eq_false (by omega)
def dMul : D → D → Option D
  | .int i, .int j => if mulOk i j = true then some (.int (i * j)) else none
  | .str z, .int k => if 1 ≤ k ∧ k ≤ 1000 ∧ z.length ≤ 1000 then some (.str (Txt.mul z k)) else none
  | .lst x, .int k => if repOk x.length k = true then some (.lst (List.replicate k.toNat x).flatten) else none
  | _, _ => none
theorem Reps.flat {K : PySem.W.Frag} {g : Gh} {vs : List V} {ds : List D} (r : Reps K g vs ds) : ∀ n : Nat, Reps K g (List.replicate n vs).flatten (List.replicate n ds).flatten
  | 0 => .nil
  | n + 1 => by
    rw [List.replicate_succ, List.replicate_succ, List.flatten_cons, List.flatten_cons]
    exact r.append (Reps.flat r n)
def rMulAll : R2 := rOr (rI CMul fun i j => .int (i * j)) (rOr rStrMul rRep)
theorem op_mulAll {X : Cx} : OpR X (binaryOp .Mult) rMulAll := OpR.or op_mul (OpR.or op_strMul op_rep)
theorem rop_mul : ROp c rMulAll dMul := by
  intro κ s x y a b d w rx ry e Q q
  cases a <;> try (cases e; done)
  · cases b <;> try (cases e; done)
    rename_i i j
    cases rx; cases ry
    have e : (if mulOk i j = true then some (D.int (i * j)) else none) = some d := e
    split at e
    · rename_i h
      cases e
      refine .inl ⟨_, _, rfl, rfl, ?_, q _ s.W s.H w.nref (.int _)⟩
      unfold mulOk at h
      rw [Bool.or_eq_true, Bool.and_eq_true, Bool.and_eq_true] at h
      rcases h with h | h
      · exact .inl ⟨of_decide_eq_true h.1, of_decide_eq_true h.2⟩
      · exact .inr ⟨of_decide_eq_true h.1, of_decide_eq_true h.2⟩
    · cases e
  · cases b <;> try (cases e; done)
    rename_i z k
    cases rx; cases ry
    have e : (if 1 ≤ k ∧ k ≤ 1000 ∧ z.length ≤ 1000 then some (D.str (Txt.mul z k)) else none) = some d := e
    split at e
    · rename_i h
      cases e
      exact .inr (.inl ⟨_, _, rfl, rfl, h.1, h.2.1, h.2.2, q _ s.W s.H w.nref (.str _)⟩)
    · cases e
  · cases b <;> try (cases e; done)
    rename_i ds k
    cases ry
    have e : (if repOk ds.length k = true then some (D.lst (List.replicate k.toNat ds).flatten) else none) = some d := e
    split at e
    · rename_i h
      cases e
      cases rx with
      | @lst p xs _ hx r1 =>
        unfold repOk at h
        rw [Bool.and_eq_true, Bool.and_eq_true] at h
        exact .inr (.inr ⟨p, _, xs, rfl, rfl, hx, of_decide_eq_true h.1.1, of_decide_eq_true h.1.2, by rw [r1.length]; exact cap_le (of_decide_eq_true h.2), rx_lst w (r1.flat _) Q q⟩)
    · cases e
/-- a list times an int, for a slot's own -/
def dRepL : D → D → Option (List D)
  | .lst x, .int k => if repOk x.length k = true then some (List.replicate k.toNat x).flatten else none
  | _, _ => none
theorem own_rep : ∀ (κ : List Cell) (s : Ws) x y a b ds, CS c κ s → RepH c.K s.g s.H x a → RepH c.K s.g s.H y b → dRepL a b = some ds → ∃ vs, Reps c.K s.g vs ds ∧ ∀ Q : VK, (∀ p, s.H p = none → Q (.ref p) (upd s.H p (.lst vs))) → rMulAll x y s.H Q := by
  intro κ s x y a b ds w rx ry e
  cases a <;> try (cases e; done)
  cases b <;> try (cases e; done)
  rename_i xs k
  cases ry
  have e : (if repOk xs.length k = true then some (List.replicate k.toNat xs).flatten else none) = some ds := e
  split at e
  · rename_i h
    cases e
    cases rx with
    | @lst p vs _ hx r1 =>
      unfold repOk at h
      rw [Bool.and_eq_true, Bool.and_eq_true] at h
      exact ⟨_, r1.flat _, fun Q q => .inr (.inr ⟨p, _, vs, rfl, rfl, hx, of_decide_eq_true h.1.1, of_decide_eq_true h.1.2, by rw [r1.length]; exact cap_le (of_decide_eq_true h.2), q⟩)⟩
  · cases e

/-! ### subscripts, slices -/
def dIx : D → D → Option D
  | .tup ds, .int k => atI ds k
  | .lst ds, .int k => atI ds k
  | .str z, .int k => if z.length ≤ cap then (atI z.cps.toList k).map fun c => .str ⟨#[c]⟩ else none
  | _, _ => none
theorem rop_ix : ROp c (rIx c.K) dIx := by
  intro κ s x y a b d w rx ry e Q q
  cases a <;> try (cases e; done)
  · cases b <;> try (cases e; done)
    rename_i z k
    cases rx; cases ry
    have e : (if z.length ≤ cap then (atI z.cps.toList k).map fun c => D.str ⟨#[c]⟩ else none) = some d := e
    split at e
    · rename_i h
      obtain ⟨ch, e1, rfl⟩ := Option.map_eq_some_iff.mp e
      exact .inr (.inr ⟨z, k, ch, rfl, rfl, cap_le h, e1, q _ s.W s.H w.nref (.str _)⟩)
    · cases e
  · cases b <;> try (cases e; done)
    rename_i ds k
    cases ry
    cases rx with
    | @tup p xs _ hx r1 =>
      obtain ⟨v, hv, rv⟩ := atI_reps r1 e
      exact .inr (.inl ⟨p, xs, k, v, rfl, rfl, w.ex.st hx, hv, q v s.W s.H w.nref rv⟩)
  · cases b <;> try (cases e; done)
    rename_i ds k
    cases ry
    cases rx with
    | @lst p xs _ hx r1 =>
      obtain ⟨v, hv, rv⟩ := atI_reps r1 e
      exact .inl ⟨p, xs, k, v, rfl, rfl, .inl (.inl hx), hv, q v s.W s.H w.nref rv⟩
def cutD (xs : List D) (lo hi : Option Int) : List D := (xs.drop (HT.sIx xs.length 0 lo)).take (HT.sIx xs.length xs.length hi - HT.sIx xs.length 0 lo)
theorem cut_reps {K : PySem.W.Frag} {g : Gh} {vs : List V} {ds : List D} (r : Reps K g vs ds) (lo hi : Option Int) : Reps K g (cutV vs lo hi) (cutD ds lo hi) := by
  unfold cutV cutD
  rw [r.length]
  exact (r.drop _).take _
def dSl : D → Option Int → Option Int → Option D
  | .tup ds, lo, hi => some (.tup (cutD ds lo hi))
  | .lst ds, lo, hi => some (.lst (cutD ds lo hi))
  | .frz ds, lo, hi => some (.lst (cutD ds lo hi))
  | .str z, lo, hi => if z.length ≤ cap then some (.str (cutS z lo hi)) else none
  | _, _, _ => none
def rSlAll (K : PySem.W.Frag) : V → Option Int → Option Int → Hp → VK → Prop := fun x lo hi H Q => rSlA K x lo hi H Q ∨ (rSlL K x lo hi H Q ∨ rSlS x lo hi H Q)
theorem sl_all {X : Cx} : SlR X (rSlAll X.K) := sl_tupA.or (sl_list.or sl_str)
theorem cutD_whole {ds : List D} {lo hi : Option Int} (h : HT.sIx ds.length 0 lo = 0 ∧ HT.sIx ds.length ds.length hi = ds.length) : cutD ds lo hi = ds := by
  unfold cutD
  rw [h.1, h.2, List.drop_zero, Nat.sub_zero, List.take_length]
theorem rsl {κ : List Cell} {s : Ws} {x : V} {a d : D} {lo hi : Option Int} (w : CS c κ s) (rx : RepH c.K s.g s.H x a) (e : dSl a lo hi = some d) : RX c (Rep c.K) (rSlAll c.K x lo hi) s d := by
  intro Q q
  cases a <;> try (cases e; done)
  · rename_i z
    cases rx
    have e : (if z.length ≤ cap then some (D.str (cutS z lo hi)) else none) = some d := e
    split at e
    · rename_i h
      cases e
      exact .inr (.inr ⟨z, rfl, cap_le h, q _ s.W s.H w.nref (.str _)⟩)
    · cases e
  · cases e
    cases rx with
    | @tup p xs ds hx r1 =>
      refine .inl ⟨p, xs, rfl, w.ex.st hx, fun h => ?_, fun _ => rx_tup w (cut_reps r1 lo hi) Q q⟩
      rw [r1.length] at h
      rw [cutD_whole h] at q
      exact q _ s.W s.H w.nref (.tup hx r1)
  · cases e
    cases rx with
    | @lst p xs ds hx r1 => exact .inr (.inl ⟨p, xs, rfl, .inl (.inl hx), rx_lst w (cut_reps r1 lo hi) Q q⟩)
  · cases e
    cases rx with
    | @frz p xs ds hx r1 => exact .inr (.inl ⟨p, xs, rfl, w.ex.sl hx, rx_lst w (cut_reps r1 lo hi) Q q⟩)
def asI : D → Option Int
  | .int i => some i
  | _ => none
theorem so_none : SO c tNoPart (ret none) := by
  intro ρ r e s σ hs Q q
  cases e
  exact q _ s hs .refl rfl
theorem so_some {te : TE} {m : MM D} (h : SE c te m) : SO c (tPart te) (bnd m fun d => lft ((asI d).map some)) := by
  intro ρ rr e s σ hs Q q
  refine sx_go (t := te) h e hs q fun x a ρ s e hs rx q tr => ?_
  obtain ⟨b, e3, rfl⟩ := lft_cases e
  cases a <;> try (cases e3; done)
  cases e3
  cases rx
  exact ⟨_, rfl, q _ s hs .refl rfl⟩
def mSl (m : MM D) (ml mh : MM (Option Int)) : MM D := bnd m fun d => bnd ml fun lo => bnd mh fun hi => lftK fun κ => dSl (see1 κ d) lo hi
theorem se_sl {te : TE} {tl th : TO} {m : MM D} {ml mh : MM (Option Int)} (h : SE c te m) (hl : SO c tl ml) (hh : SO c th mh) : SE c (tSl (rSlAll c.K) te tl th) (mSl m ml mh) := by
  intro ρ rr e s σ hs Q q
  refine sx_go (t := te) h e hs q fun x a ρ s e hs rx q tr => ?_
  refine sx_go (t := tl) hl e hs q fun l lo ρ s1 e hs1 el q tr1 => ?_
  refine sx_go (t := th) hh e hs1 q fun u hi ρ s2 e hs2 eu q tr2 => ?_
  obtain ⟨d, e3, rfl⟩ := lftK_cases e
  subst el eu
  exact rsl hs2.cr (see1_rep hs2.cr (rx.mono (tr1.le.trans tr2.le))) e3 Q (post_nw hs2 q)

/-! ### built-in functions -/
def dLen : List D → Option D
  | [.tup ds] => some (.int (ds.length : Int))
  | [.lst ds] => some (.int (ds.length : Int))
  | [.str z] => if z.length ≤ cap then some (.int (z.length : Int)) else none
  | _ => none
theorem rca1 {r : List V → Hp → VK → Prop} {op : List D → Option D} (h : ∀ κ s x a d, CS c κ s → RepH c.K s.g s.H x a → op [a] = some d → RX c (Rep c.K) (r [x]) s d) (h0 : op [] = none) (h2 : ∀ a b l, op (a :: b :: l) = none) : RCa c r op := by
  intro κ s xs as d w rx e
  cases rx with
  | nil => rw [h0] at e; cases e
  | cons r1 r2 =>
    cases r2 with
    | nil => exact h κ s _ _ d w r1 e
    | cons _ _ => rw [h2] at e; cases e
theorem rca_len : RCa c (rLn c.K) dLen := by
  refine rca1 (fun κ s x a d w rx e Q q => ?_) rfl (fun a b l => by cases a <;> rfl)
  cases a <;> try (cases e; done)
  · rename_i z
    cases rx
    have e : (if z.length ≤ cap then some (D.int (z.length : Int)) else none) = some d := e
    split at e
    · rename_i h
      cases e
      exact ⟨_, z.length, rfl, ⟨cap_le h, rfl⟩, q _ s.W s.H w.nref (.int _)⟩
    · cases e
  · cases e
    cases rx with
    | @tup p xs ds hx r1 => exact ⟨_, _, rfl, .inr ⟨xs, w.ex.st hx, r1.length.symm⟩, q _ s.W s.H w.nref (.int _)⟩
  · cases e
    cases rx with
    | @lst p xs ds hx r1 => exact ⟨_, _, rfl, .inl ⟨xs, .inl (.inl hx), r1.length.symm⟩, q _ s.W s.H w.nref (.int _)⟩
def rLs (K : PySem.W.Frag) : List V → Hp → VK → Prop := fun xs H Q => ∃ p ys, xs = [.ref p] ∧ (SqL K H p ys ∨ SqT K H p ys) ∧ ∀ l, H l = none → Q (.ref l) (upd H l (.lst ys))
def dList : List D → Option (List D)
  | [.tup ds] => some ds
  | [.lst ds] => some ds
  | _ => none
theorem own_list {κ : List Cell} {s : Ws} {xs : List V} {as ds : List D} (w : CS c κ s) (rx : RepsH c.K s.g s.H xs as) (e : dList as = some ds) : ∃ vs, Reps c.K s.g vs ds ∧ ∀ Q : VK, (∀ p, s.H p = none → Q (.ref p) (upd s.H p (.lst vs))) → rLs c.K xs s.H Q := by
  cases rx with
  | nil => cases e
  | @cons v vs a as r1 r2 =>
    cases r2 with
    | cons _ _ => cases a <;> cases e
    | nil =>
      cases a <;> try (cases e; done)
      · cases e
        cases r1 with
        | @tup p xs ds hx r => exact ⟨xs, r, fun Q q => ⟨p, xs, rfl, .inr (w.ex.st hx), q⟩⟩
      · cases e
        cases r1 with
        | @lst p xs ds hx r => exact ⟨xs, r, fun Q q => ⟨p, xs, rfl, .inl (.inl (.inl hx)), q⟩⟩
theorem rca_list : RCa c (rLs c.K) (fun as => (dList as).map .lst) := by
  intro κ s xs as d w rx e Q q
  obtain ⟨ds, e1, rfl⟩ := Option.map_eq_some_iff.mp e
  obtain ⟨vs, hv, h⟩ := own_list w rx e1
  exact h Q (rx_lst w hv Q q)
/-- .. as a cell -/
theorem se_cbC {r : List V → Hp → VK → Prop} {op : List D → Option (List D)} {ta : TA} {ma : MM (List D)} (ho : ∀ (κ : List Cell) (s : Ws) xs as ds, CS c κ s → RepsH c.K s.g s.H xs as → op as = some ds → ∃ vs, Reps c.K s.g vs ds ∧ ∀ Q : VK, (∀ p, s.H p = none → Q (.ref p) (upd s.H p (.lst vs))) → r xs s.H Q) (ha : SA c ta ma) :
    SE c (tCB r ta) (bnd ma fun a => bnd (lftK fun κ => op (a.map (see1 κ))) fun ds => newC (.lst ds)) := by
  intro ρ rr e s σ hs Q q
  refine sx_go (t := ta) ha e hs q fun x a ρ s e hs rx q tr => ?_
  rcases bnd_cases e with ⟨ds, ρ', e1, e2⟩ | ⟨x', ρ', e1, _⟩
  · obtain ⟨ds', e3, e4⟩ := lftK_cases e1
    cases e4
    cases e2
    obtain ⟨vs, hv, h⟩ := ho _ _ x _ _ hs.cr (see1_reps hs.cr rx) e3
    exact h Q (post_lst hs q hv)
  · obtain ⟨ds', e3, e4⟩ := lftK_cases e1
    cases e4
theorem own_list' : ∀ (κ : List Cell) (s : Ws) xs as ds, CS c κ s → RepsH c.K s.g s.H xs as → dList as = some ds → ∃ vs, Reps c.K s.g vs ds ∧ ∀ Q : VK, (∀ p, s.H p = none → Q (.ref p) (upd s.H p (.lst vs))) → rLs c.K xs s.H Q := fun _ _ _ _ _ w rx e => own_list w rx e
theorem own_rep' : ROwn c rMulAll (fun κ a b => dRepL (see1 κ a) (see1 κ b)) := fun κ s x y a b ds w rx ry e => own_rep κ s x y _ _ ds w (see1_rep w rx) (see1_rep w ry) e
def rTp (K : PySem.W.Frag) : List V → Hp → VK → Prop := fun xs H Q => ∃ p ys, xs = [.ref p] ∧ ((SqL K H p ys ∧ ∀ l, H l = none → Q (.ref l) (upd H l (.tup ys))) ∨ (SqT K H p ys ∧ Q (.ref p) H))
def dTuple : List D → Option D
  | [.tup ds] => some (.tup ds)
  | [.lst ds] => some (.tup ds)
  | _ => none
theorem rca_tuple : RCa c (rTp c.K) dTuple := by
  refine rca1 (fun κ s x a d w rx e Q q => ?_) rfl (fun a b l => by cases a <;> rfl)
  cases a <;> try (cases e; done)
  · cases e
    cases rx with
    | @tup p xs ds hx r1 => exact ⟨p, xs, rfl, .inr ⟨w.ex.st hx, q _ s.W s.H w.nref (.tup hx r1)⟩⟩
  · cases e
    cases rx with
    | @lst p xs ds hx r1 => exact ⟨p, xs, rfl, .inl ⟨.inl (.inl hx), rx_tup w r1 Q q⟩⟩
def rMx2 : List V → Hp → VK → Prop := fun xs H Q => ∃ i j, xs = [.int i, .int j] ∧ Q (.int (if j > i then j else i)) H
def dMax2 : List D → Option D
  | [.int i, .int j] => some (.int (if j > i then j else i))
  | _ => none
theorem rca_max2 : RCa c rMx2 dMax2 := by
  intro κ s xs as d w rx e Q q
  cases rx with
  | nil => cases e
  | @cons v vs a as r1 r2 =>
    cases r2 with
    | nil => cases a <;> cases e
    | @cons v2 vs2 a2 as2 r2 r3 =>
      cases r3 with
      | cons _ _ => cases a <;> cases a2 <;> cases e
      | nil =>
        cases a <;> try (cases e; done)
        cases a2 <;> try (cases e; done)
        cases e
        cases r1; cases r2
        exact ⟨_, _, rfl, q _ s.W s.H w.nref (.int _)⟩
def rInt : List V → Hp → VK → Prop := fun xs H Q => ((∃ i, xs = [.int i] ∧ Q (.int i) H) ∨ ∃ k, xs = [.bl k] ∧ Q (.int (if k then 1 else 0)) H) ∨ ∃ a n, xs = [.str a] ∧ PySem.intText? a = some n ∧ a.length ≤ 640 ∧ Q (.int n) H
theorem call_intAll {X : Cx} : CallR X (.type "int") rInt := by
  intro pins s σ H xs us Q I r h
  rcases h with h | h
  · exact call_int1 pins s σ H xs us Q I r h
  · exact call_int_str pins s σ H xs us Q I r h
def dIntOf : List D → Option D
  | [.int i] => some (.int i)
  | [.bl k] => some (.int (if k then 1 else 0))
  | [.str z] => if z.length ≤ 640 then (PySem.intText? z).map .int else none
  | _ => none
theorem rca_int : RCa c rInt dIntOf := by
  refine rca1 (fun κ s x a d w rx e Q q => ?_) rfl (fun a b l => by cases a <;> rfl)
  cases a <;> try (cases e; done)
  · cases e; cases rx; exact .inl (.inr ⟨_, rfl, q _ s.W s.H w.nref (.int _)⟩)
  · cases e; cases rx; exact .inl (.inl ⟨_, rfl, q _ s.W s.H w.nref (.int _)⟩)
  · rename_i z
    cases rx
    have e : (if z.length ≤ 640 then (PySem.intText? z).map D.int else none) = some d := e
    split at e
    · rename_i h
      obtain ⟨n, e1, rfl⟩ := Option.map_eq_some_iff.mp e
      exact .inr ⟨z, n, rfl, e1, h, q _ s.W s.H w.nref (.int _)⟩
    · cases e
def rAbs : List V → Hp → VK → Prop := fun xs H Q => ∃ i, xs = [.int i] ∧ Q (.int (if i < 0 then -i else i)) H
def dAbs : List D → Option D
  | [.int i] => some (.int (if i < 0 then -i else i))
  | _ => none
theorem rca_abs : RCa c rAbs dAbs := by
  refine rca1 (fun κ s x a d w rx e Q q => ?_) rfl (fun a b l => by cases a <;> rfl)
  cases a <;> try (cases e; done)
  cases e; cases rx; exact ⟨_, rfl, q _ s.W s.H w.nref (.int _)⟩
def rStrI : List V → Hp → VK → Prop := fun xs H Q => ∃ i, xs = [.int i] ∧ i.natAbs.log2 < 1920 ∧ Q (.str (toString i)) H
def dStrI : List D → Option D
  | [.int i] => if i.natAbs.log2 < 1920 then some (.str (toString i)) else none
  | _ => none
theorem rca_str : RCa c rStrI dStrI := by
  refine rca1 (fun κ s x a d w rx e Q q => ?_) rfl (fun a b l => by cases a <;> rfl)
  cases a <;> try (cases e; done)
  rename_i i
  cases rx
  have e : (if i.natAbs.log2 < 1920 then some (D.str (toString i)) else none) = some d := e
  split at e
  · rename_i h
    cases e
    exact ⟨i, rfl, h, q _ s.W s.H w.nref (.str _)⟩
  · cases e
def intsD : List D → Option (List Int)
  | [] => some []
  | .int i :: ds => (intsD ds).map (i :: ·)
  | _ => none
theorem ints_reps {K : PySem.W.Frag} {g : Gh} : ∀ {vs : List V} {ds : List D} {ns : List Int}, Reps K g vs ds → intsD ds = some ns → vs = ns.map V.int
  | _, _, _, .nil, e => by cases e; rfl
  | _, _, ns, .cons (d := d) r1 r2, e => by
    cases d <;> try (cases e; done)
    obtain ⟨ms, e1, rfl⟩ := Option.map_eq_some_iff.mp e
    cases r1
    rw [List.map_cons, ints_reps r2 e1]
def dSum : List D → Option D
  | [.lst ds] => (intsD ds).map fun ns => .int ns.sum
  | _ => none
theorem rca_sum : RCa c (rSum c.K) dSum := by
  refine rca1 (fun κ s x a d w rx e Q q => ?_) rfl (fun a b l => by cases a <;> rfl)
  cases a <;> try (cases e; done)
  obtain ⟨ns, e1, rfl⟩ := Option.map_eq_some_iff.mp e
  cases rx with
  | @lst p xs ds hx r1 =>
    have := ints_reps r1 e1
    subst this
    exact ⟨p, ns, rfl, .inl (.inl hx), q _ s.W s.H w.nref (.int _)⟩
/-! ### truth of data -/
def truD : D → Option Bool
  | .non => some false
  | .bl b => some b
  | .int i => some (i != 0)
  | .str z => if z.length ≤ cap then some ((z.length : Int) != 0) else none
  | .tup ds => some (!ds.isEmpty)
  | .lst ds => some (!ds.isEmpty)
  | .dct _ => none
  | .frz _ => none
  | .ref _ => none
theorem isEmpty_repk {K : PySem.W.Frag} {g : Gh} {vs : List (Key × V)} {ds : List (Key × D)} (r : RepK K g vs ds) : vs.isEmpty = ds.isEmpty := by
  cases r <;> rfl
theorem st_tru {te : TE} {m : MM D} (h : SE c te m) : ST c (tTru c.K te) (bnd m fun d => lftK fun κ => truD (see1 κ d)) := by
  intro ρ rr e s σ hs Q q
  refine sx_go (t := te) h e hs q fun x a ρ s e hs rx q tr => ?_
  obtain ⟨b, e3, rfl⟩ := lftK_cases e
  refine ⟨b, ?_, q _ s hs .refl rfl⟩
  have rx := see1_rep hs.cr rx
  generalize see1 ρ.c a = a at rx e3
  cases a with
  | non => cases e3; cases rx; exact rfl
  | bl b => cases e3; cases rx; exact rfl
  | int i => cases e3; cases rx; exact rfl
  | str z =>
    cases rx
    have e : (if z.length ≤ cap then some ((z.length : Int) != 0) else none) = some b := e3
    split at e
    · rename_i h
      cases e
      exact ⟨cap_le h, rfl⟩
    · cases e
  | tup ds =>
    cases e3
    cases rx with
    | @tup p xs _ hx r1 => exact .inr (.inl ⟨xs, hs.ex.st hx, by rw [isEmpty_reps r1]⟩)
  | lst ds =>
    cases e3
    cases rx with
    | @lst p xs _ hx r1 => exact .inl ⟨xs, .inl (.inl hx), by rw [isEmpty_reps r1]⟩
  | dct ds => cases e3
  | frz ds => cases e3
  | ref n => cases e3
/-- the truth of a dict that is a cell -/
def truC (κ : List Cell) : D → Option Bool
  | .ref n => match κ[n]? with
    | some (.dct kvs) => some (!kvs.isEmpty)
    | _ => none
  | _ => none
theorem st_truC {te : TE} {m : MM D} (h : SE c te m) : ST c (tTru c.K te) (bnd m fun d => lftK fun κ => truC κ d) := by
  intro ρ rr e s σ hs Q q
  refine sx_go (t := te) h e hs q fun x a ρ s e hs rx q tr => ?_
  obtain ⟨b, e3, rfl⟩ := lftK_cases e
  refine ⟨b, ?_, q _ s hs .refl rfl⟩
  cases a <;> try (cases e3; done)
  rename_i n
  cases rx with
  | @ref p _ h1 =>
  have e3 : (match ρ.c[n]? with
    | some (.dct kvs) => some (!kvs.isEmpty)
    | _ => none) = some b := e3
  split at e3
  · rename_i kvs e1
    cases e3
    obtain ⟨vs, h2, h3⟩ := hs.cr.cell e1 h1
    exact .inr (.inr ⟨vs, h2, by rw [isEmpty_repk h3]⟩)
  · cases e3
end
end PH
end
section
set_option maxHeartbeats 0
namespace PH
open PySem PySem.Spec PyProof.Rows L2

/-! ### the end of a def: what was made there is known for good, or stays a cell -/
def optAll {α β : Type} (g : α → Option β) : List α → Option (List β)
  | [] => some []
  | d :: ds => (g d).bind fun d' => (optAll g ds).map (d' :: ·)
def optAllK {α β : Type} (g : α → Option β) : List (Key × α) → Option (List (Key × β))
  | [] => some []
  | (k, d) :: ds => (g d).bind fun d' => (optAllK g ds).map ((k, d') :: ·)
/-- a value with all cells from n on as data -/
def frz (κ : List Cell) (n : Nat) : Nat → D → Option D
  | _, .non => some .non
  | _, .bl b => some (.bl b)
  | _, .int i => some (.int i)
  | _, .str x => some (.str x)
  | f + 1, .tup ds => (optAll (frz κ n f) ds).map .tup
  | f + 1, .lst ds => (optAll (frz κ n f) ds).map .lst
  | f + 1, .frz ds => (optAll (frz κ n f) ds).map .frz
  | f + 1, .dct kd => (optAllK (frz κ n f) kd).map .dct
  | f + 1, .ref m => if m < n then some (.ref m) else match κ[m]? with
    | some (.lst ds) => (optAll (frz κ n f) ds).map .lst
    | some (.dct kd) => (optAllK (frz κ n f) kd).map .dct
    | _ => none
  | 0, _ => none
inductive FMode where
  | keep | pure
open Classical in
noncomputable def exitF (mo : FMode) (κ κ' : List Cell) (d : D) : Option (D × List Cell) := match mo with
  | .keep => some (d, κ')
  | .pure => if κ'.take κ.length = κ then (frz κ' κ.length 9 d).map fun d' => (d', κ) else none
section
variable {b : Bs} {κ κ' : List Cell} {s s' : Ws}
/-- what an older ghost spoke of, a later one with the older cells alone speaks of -/
structure Cut (g g1 g2 : Gh) : Prop where
  w : Ex g1.W g2.W
  a : ∀ (n : Nat) (p : Addr), g.A[n]? = some p → g1.A[n]? = some p
  c : g2.A = g.A
mutual
theorem Rep.cut {K : PySem.W.Frag} {g g1 g2 : Gh} (ct : Cut g g1 g2) : ∀ {d : D} {v0 v : V}, Rep K g v0 d → Rep K g1 v d → Rep K g2 v d
  | _, _, _, .non, .non => .non
  | _, _, _, .bl b, .bl _ => .bl b
  | _, _, _, .int i, .int _ => .int i
  | _, _, _, .str x, .str _ => .str x
  | _, _, _, .tup _ r0, .tup h r => .tup (ct.w.st h) (Reps.cut ct r0 r)
  | _, _, _, .lst _ r0, .lst h r => .lst (ct.w _ _ h) (Reps.cut ct r0 r)
  | _, _, _, .frz _ r0, .frz h r => .frz (ct.w.sl h) (Reps.cut ct r0 r)
  | _, _, _, .dct _ r0, .dct h r => .dct (ct.w _ _ h) (RepK.cut ct r0 r)
  | _, _, _, .ref h0, .ref h => .ref (by
      rw [ct.a _ _ h0] at h; cases h
      rw [ct.c]; exact h0)
theorem Reps.cut {K : PySem.W.Frag} {g g1 g2 : Gh} (ct : Cut g g1 g2) : ∀ {ds : List D} {v0 v : List V}, Reps K g v0 ds → Reps K g1 v ds → Reps K g2 v ds
  | _, _, _, .nil, .nil => .nil
  | _, _, _, .cons h0 r0, .cons h r => .cons (Rep.cut ct h0 h) (Reps.cut ct r0 r)
theorem RepK.cut {K : PySem.W.Frag} {g g1 g2 : Gh} (ct : Cut g g1 g2) : ∀ {ds : List (Key × D)} {v0 v : List (Key × V)}, RepK K g v0 ds → RepK K g1 v ds → RepK K g2 v ds
  | _, _, _, .nil, .nil => .nil
  | _, _, _, .cons h0 r0, .cons h r => .cons (Rep.cut ct h0 h) (RepK.cut ct r0 r)
end
theorem RepF.cut {K : PySem.W.Frag} {g g1 g2 : Gh} (ct : Cut g g1 g2) : ∀ {ds : List (Str × D)} {v0 v : List (Str × V)}, RepF K g v0 ds → RepF K g1 v ds → RepF K g2 v ds
  | _, _, _, .nil, .nil => .nil
  | _, _, _, .cons h0 r0, .cons h r => .cons (Rep.cut ct h0 h) (RepF.cut ct r0 r)
/-- the new lists and dicts -/
def NewC (κ' : List Cell) (n : Nat) (A : List Addr) (a : Addr) : Prop := ∃ m : Nat, n ≤ m ∧ A[m]? = some a ∧ ((∃ ds, κ'[m]? = some (.lst ds)) ∨ ∃ kd, κ'[m]? = some (.dct kd))
open Classical in
noncomputable def clW (κ' : List Cell) (n : Nat) (s' : Ws) : Hp := fun a => if NewC κ' n s'.A a then s'.H a else s'.W a
theorem close_pure (h0 : CS b κ s) (h : CS b κ' s') (t : Tr s s') (e : κ'.take κ.length = κ) :
    CS b κ ⟨⟨clW κ' κ.length s', s.A⟩, s'.H⟩ ∧ Tr s ⟨⟨clW κ' κ.length s', s.A⟩, s'.H⟩ ∧ ∀ f v d d', Rep b.K s'.g v d → frz κ' κ.length f d = some d' → Rep b.K ⟨clW κ' κ.length s', s.A⟩ v d' := by
  obtain ⟨more, eA⟩ := t.a
  have eA : s'.A = s.A ++ more := eA.symm
  have a1 : ∀ (n : Nat) (p : Addr), s.A[n]? = some p → s'.A[n]? = some p := t.le.a
  have nw : ∀ a, NewC κ' κ.length s'.A a → a ∈ s'.A ∧ a ∉ s.A := fun a ⟨m, hm, ha, _⟩ => by
    refine ⟨CS.mem ha, fun z => ?_⟩
    obtain ⟨i, hi, ei⟩ := List.getElem_of_mem z
    have h1 : s'.A[i]? = some a := a1 i a (by rw [List.getElem?_eq_getElem hi, ei])
    have : i ≠ m := by rw [h0.len] at hi; omega
    exact h.ne h1 ha this rfl
  have wNew : ∀ a, NewC κ' κ.length s'.A a → clW κ' κ.length s' a = s'.H a := fun a z => by unfold clW; rw [if_pos z]
  have wOld : ∀ a, ¬ NewC κ' κ.length s'.A a → clW κ' κ.length s' a = s'.W a := fun a z => by unfold clW; rw [if_neg z]
  have ex1 : Ex s'.W (clW κ' κ.length s') := fun a o q => by
    have : ¬ NewC κ' κ.length s'.A a := fun z => by
      rw [h.fr a (nw a z).1] at q; cases q
    rw [wOld a this]; exact q
  have ct : Cut s.g s'.g ⟨clW κ' κ.length s', s.A⟩ := ⟨ex1, a1, rfl⟩
  have hk : ∀ (i : Nat) (cl : Cell), κ[i]? = some cl → κ'[i]? = some cl := fun i cl q => by
    have hi := (List.getElem?_eq_some_iff.mp q).1
    rw [← e, List.getElem?_take_of_lt hi] at q
    exact q
  refine ⟨⟨h0.len, fun i cl q => ?_, fun p hp => ?_, h0.inj, fun a o q => ?_, fun a o q => ?_, h.tb⟩, ⟨t.w.trans ex1, List.prefix_refl _, fun a h1 h2 h3 => ?_, t.f, fun a z => ?_, t.p, t.z⟩, ?_⟩
  · obtain ⟨p, p1, p2⟩ := h0.cel i cl q
    have p3 := h.cell (hk i cl q) (a1 i p p1)
    refine ⟨p, p1, ?_⟩
    cases cl with
    | lst ds =>
      obtain ⟨v0, _, r0⟩ := p2
      obtain ⟨vs, q1, r1⟩ := p3
      exact ⟨vs, q1, Reps.cut ct r0 r1⟩
    | dct kd =>
      obtain ⟨v0, _, r0⟩ := p2
      obtain ⟨vs, q1, r1⟩ := p3
      exact ⟨vs, q1, RepK.cut ct r0 r1⟩
    | obj x fs =>
      obtain ⟨_, v0, _, _, r0⟩ := p2
      obtain ⟨dx, vs, q1, q2, r1⟩ := p3
      exact ⟨dx, vs, q1, q2, RepF.cut ct r0 r1⟩
    | lck kd =>
      obtain ⟨v0, _, _, r0⟩ := p2
      obtain ⟨vs, od, q1, r1⟩ := p3
      exact ⟨vs, od, q1, RepK.cut ct r0 r1⟩
  · have hp' : p ∈ s'.A := by rw [eA]; exact List.mem_append_left _ hp
    show clW κ' κ.length s' p = none
    rw [wOld p fun z => (nw p z).2 hp]
    exact h.fr p hp'
  · have q : clW κ' κ.length s' a = some o := q
    by_cases z : NewC κ' κ.length s'.A a
    · rw [wNew a z] at q; exact .inl q
    · rw [wOld a z] at q; exact h.ex a o q
  · have q : clW κ' κ.length s' a = some o := q
    by_cases z : NewC κ' κ.length s'.A a
    · rw [wNew a z] at q
      obtain ⟨m, _, ha, hc⟩ := z
      rcases hc with ⟨ds, hc⟩ | ⟨ds, hc⟩
      · obtain ⟨vs, q1, _⟩ := h.cell hc ha
        rw [q1] at q; cases q; trivial
      · obtain ⟨vs, q1, _⟩ := h.cell hc ha
        rw [q1] at q; cases q; trivial
    · rw [wOld a z] at q; exact h.nt a o q
  · show clW κ' κ.length s' a = none
    have : ¬ NewC κ' κ.length s'.A a := fun z => by
      rcases t.o a (.inl (nw a z).1) with w | w
      · exact h2 w
      · exact h1 w
    rw [wOld a this]
    exact t.n a h1 h2 h3
  · refine t.o a ?_
    rcases z with z | ⟨x, hx, z⟩
    · exact .inl (by rw [eA]; exact List.mem_append_left _ z)
    · exact .inr ⟨x, by rw [eA]; exact List.mem_append_left _ hx, z⟩
  · intro f
    have all : ∀ (g : D → Option D), (∀ v d d', Rep b.K s'.g v d → g d = some d' → Rep b.K ⟨clW κ' κ.length s', s.A⟩ v d') → ∀ (ds ds' : List D) (vs : List V), Reps b.K s'.g vs ds → optAll g ds = some ds' → Reps b.K ⟨clW κ' κ.length s', s.A⟩ vs ds' := by
      intro g hg ds
      induction ds with
      | nil => intro ds' vs r q; cases r; cases q; exact .nil
      | cons d ds ih =>
        intro ds' vs r q
        cases r with
        | cons r1 r2 =>
          obtain ⟨d1, q1, q2⟩ := Option.bind_eq_some_iff.mp q
          obtain ⟨d2, q3, rfl⟩ := Option.map_eq_some_iff.mp q2
          exact .cons (hg _ _ _ r1 q1) (ih _ _ r2 q3)
    have allK : ∀ (g : D → Option D), (∀ v d d', Rep b.K s'.g v d → g d = some d' → Rep b.K ⟨clW κ' κ.length s', s.A⟩ v d') → ∀ (ds ds' : List (Key × D)) (vs : List (Key × V)), RepK b.K s'.g vs ds → optAllK g ds = some ds' → RepK b.K ⟨clW κ' κ.length s', s.A⟩ vs ds' := by
      intro g hg ds
      induction ds with
      | nil => intro ds' vs r q; cases r; cases q; exact .nil
      | cons d ds ih =>
        intro ds' vs r q
        cases r with
        | cons r1 r2 =>
          obtain ⟨d1, q1, q2⟩ := Option.bind_eq_some_iff.mp q
          obtain ⟨d2, q3, rfl⟩ := Option.map_eq_some_iff.mp q2
          exact .cons (hg _ _ _ r1 q1) (ih _ _ r2 q3)
    induction f with
    | zero =>
      intro v d d' r q
      cases d <;> first | (cases q; done) | (cases q; cases r; first | exact .non | exact .bl _ | exact .int _ | exact .str _)
    | succ f ih =>
      intro v d d' r q
      cases d with
      | non => cases q; cases r; exact .non
      | bl _ => cases q; cases r; exact .bl _
      | int _ => cases q; cases r; exact .int _
      | str _ => cases q; cases r; exact .str _
      | tup ds =>
        obtain ⟨ds', q1, rfl⟩ := Option.map_eq_some_iff.mp q
        cases r with
        | tup h1 h2 => exact .tup (ex1.st h1) (all _ ih _ _ _ h2 q1)
      | lst ds =>
        obtain ⟨ds', q1, rfl⟩ := Option.map_eq_some_iff.mp q
        cases r with
        | lst h1 h2 => exact .lst (ex1 _ _ h1) (all _ ih _ _ _ h2 q1)
      | frz ds =>
        obtain ⟨ds', q1, rfl⟩ := Option.map_eq_some_iff.mp q
        cases r with
        | frz h1 h2 => exact .frz (ex1.sl h1) (all _ ih _ _ _ h2 q1)
      | dct ds =>
        obtain ⟨ds', q1, rfl⟩ := Option.map_eq_some_iff.mp q
        cases r with
        | dct h1 h2 => exact .dct (ex1 _ _ h1) (allK _ ih _ _ _ h2 q1)
      | ref m =>
        cases r with
        | @ref a _ ha =>
        have q : (if m < κ.length then some (.ref m) else match κ'[m]? with
          | some (.lst ds) => (optAll (frz κ' κ.length f) ds).map .lst
          | some (.dct kd) => (optAllK (frz κ' κ.length f) kd).map .dct
          | _ => none) = some d' := q
        split at q
        · rename_i hm
          cases q
          refine .ref ?_
          have hm' : m < s.A.length := by rw [h0.len]; exact hm
          have ha : s'.A[m]? = some a := ha
          rw [eA, List.getElem?_append_left hm'] at ha
          exact ha
        · rename_i hm
          have hm : κ.length ≤ m := by omega
          split at q
          · rename_i ds hc
            obtain ⟨ds', q1, rfl⟩ := Option.map_eq_some_iff.mp q
            obtain ⟨vs, p1, p2⟩ := h.cell hc ha
            exact .lst (by show clW κ' κ.length s' a = _; rw [wNew a ⟨m, hm, ha, .inl ⟨ds, hc⟩⟩]; exact p1) (all _ ih _ _ _ p2 q1)
          · rename_i ds hc
            obtain ⟨ds', q1, rfl⟩ := Option.map_eq_some_iff.mp q
            obtain ⟨vs, p1, p2⟩ := h.cell hc ha
            exact .dct (by show clW κ' κ.length s' a = _; rw [wNew a ⟨m, hm, ha, .inr ⟨ds, hc⟩⟩]; exact p1) (allK _ ih _ _ _ p2 q1)
          · cases q
open Classical in
theorem exit_ok {mo : FMode} {d d' : D} {κ2 : List Cell} (h0 : CS b κ s) (h : CS b κ' s') (t : Tr s s') (e : exitF mo κ κ' d = some (d', κ2)) : ∃ s2, CS b κ2 s2 ∧ Tr s s2 ∧ s2.H = s'.H ∧ ∀ v, Rep b.K s'.g v d → Rep b.K s2.g v d' := by
  cases mo with
  | keep => cases e; exact ⟨s', h, t, rfl, fun _ r => r⟩
  | pure =>
    have e : (if κ'.take κ.length = κ then (frz κ' κ.length 9 d).map fun d' => (d', κ) else none) = some (d', κ2) := e
    split at e
    · rename_i hk
      obtain ⟨d1, e1, e2⟩ := Option.map_eq_some_iff.mp e
      cases e2
      obtain ⟨k1, k2, k3⟩ := close_pure h0 h t hk
      exact ⟨_, k1, k2, rfl, fun v r => k3 _ v d d' r e1⟩
    · cases e
end

/-! ### defs -/
inductive FR where
  | ok (d : D) (κ : List Cell) | er (x : Str) (κ : List Cell)
abbrev FF := List D → List Cell → Option FR
/-- a def's mirror: N names -/
noncomputable def runF (mo : FMode) (N : Nat) (m : MS) : FF := fun ds κ => match m ⟨ds.map .dat ++ List.replicate (N - ds.length) .non, κ⟩ with
  | some (.nx st) => (exitF mo κ st.c .non).map fun p => .ok p.1 p.2
  | some (.rt d st) => (exitF mo κ st.c d).map fun p => .ok p.1 p.2
  | some (.er x st) => (exitF mo κ st.c .non).map fun p => .er x p.2
  | _ => none
section
variable (b : Bs)
def spG (n : Nat) (F : FF) : Sp := fun vs H Q E => ∃ (ds : List D) (κ : List Cell) (s : Ws) (r : FR), vs.length = n ∧ Reps b.K s.g vs ds ∧ CS b κ s ∧ s.H = H ∧ F ds κ = some r ∧ match r with
  | .ok d κ' => ∀ v s', CS b κ' s' → Tr s s' → Rep b.K s'.g v d → Q v s'.H
  | .er x κ' => ∀ s', CS b κ' s' → Tr s s' → E (.ref (b.ca x)) none s'.H
def ccOf (E : XK) : Cc := ⟨b, fun x _ H => E (.ref (b.ca x)) none H⟩
end
/-- the wish of an exception, from what is wished by names -/
def wOf (ca : Str → Addr) (xw : Str → L2.St → Hp → Prop) : WX := fun cls d σ H => ∃ x, cls = .ref (ca x) ∧ d = none ∧ xw x σ H
section
variable {b : Bs}
theorem sr_args {ds : List D} {vs : List V} {κ : List Cell} {s : Ws} (r : Reps b.K s.g vs ds) (h : CS b κ s) (k : Nat) : SR b ⟨ds.map .dat ++ List.replicate k .non, κ⟩ s (vs.map some ++ List.replicate k none) := by
  refine ⟨h, ?_, fun i d e => ?_⟩
  · show (vs.map some ++ List.replicate k none).length = (ds.map Loc.dat ++ List.replicate k Loc.non).length
    rw [List.length_append, List.length_append, List.length_map, List.length_map, List.length_replicate, List.length_replicate, r.length]
  · have e : (ds.map Loc.dat ++ List.replicate k Loc.non)[i]? = some (.dat d) := e
    by_cases hi : i < (ds.map Loc.dat).length
    · rw [List.getElem?_append_left hi, List.getElem?_map] at e
      obtain ⟨d', e1, e2⟩ := Option.map_eq_some_iff.mp e
      cases e2
      obtain ⟨v, h1, h2⟩ := r.getD e1
      refine ⟨v, ?_, h2⟩
      rw [List.getElem?_append_left (by rw [List.length_map, r.length]; rw [List.length_map] at hi; exact hi), List.getElem?_map, h1]
      rfl
    · rw [List.getElem?_append_right (by omega), List.getElem?_replicate] at e
      split at e <;> cases e
section
variable {P : Program} {w : World} {mg : Str → Option Value} {base : Heap}
/-- a def as it stands, whatever its defaults -/
structure FunA (K : PySem.W.Frag) (x qual : Str) (st : Stmt) (f : Addr) (fd : FuncData) : Prop where
  ex : ∃ (oc : Value) (od : Option Addr) (dV kV doc pm : Value) (an : Option Addr) (cdv ct : Value) (osl : Array (Option Value)),
    fd = PySem.W.fnOf x qual (defArgs st) (defBody st) (defScope st) dV kV doc pm an cdv ct ∧ K.lookup f = some ⟨oc, od, .func fd, osl⟩ ∧ PySem.W.codeIn K cdv qual = true
theorem FunA.of {K : PySem.W.Frag} {x qual : Str} {st : Stmt} {f : Addr} {fd : FuncData} (F : Fun K x qual st f fd) : FunA K x qual st f fd := by
  obtain ⟨oc, od, kV, doc, pm, an, cdv, ct, osl, e, lk, hcd⟩ := F.ex
  exact ⟨⟨oc, od, .none, kV, doc, pm, an, cdv, ct, osl, e, lk, hcd⟩⟩
theorem okXC {K : PySem.W.Frag} {x qual : Str} {st : Stmt} {f : Addr} {fd : FuncData} {N ps : List Str} {k : Nat} {sp : Sp} (F : FunA K x qual st f fd) (S : FnScope N ps (defScope st)) (len : ∀ vs H Q E, sp vs H Q E → vs.length = ps.length)
    (hbody : ∀ (cdv : Value) (A : Around) (outer : List PySem.Env) (s : Shared) (H : Hp) (vs : List V) (Q : VK) (E : XK), fd.code = cdv → Room k (A.deeper (envOfC qual (defScope st) s.heap.objs.size f cdv)) → sp vs H Q E →
      ∃ t, PSs (cxOf (L2.CX P w) P w K mg base N qual (defScope st) f cdv A outer s H E) (defBody st) t ∧ t { nx := fun _ H' => Q .non H', rt := Q } (start N vs) H) : FnOk P w K mg base (L2.CX P w) (k + 1) f fd ps sp := by
  obtain ⟨oc, od, dV, kV, doc, pm, an, cdv, ct, osl, rfl, lk, hcd⟩ := F.ex
  exact fn_of lk hcd S len fun A outer s H vs Q E hr hsp => hbody cdv A outer s H vs Q E rfl hr hsp
theorem fn_phC {x qual : Str} {st : Stmt} {f : Addr} {fd : FuncData} {N ps : List Str} {k : Nat} {mo : FMode} {m : MS} (F : FunA b.K x qual st f fd) (S : FnScope N ps (defScope st))
    (body : ∀ (cdv : Value) (A : Around) (outer : List PySem.Env) (s : Shared) (H : Hp) (E : XK), fd.code = cdv → Room k (A.deeper (envOfC qual (defScope st) s.heap.objs.size f cdv)) →
      ∃ t, PSs (cxOf (L2.CX P w) P w b.K mg base N qual (defScope st) f cdv A outer s H E) (defBody st) t ∧ SS (ccOf b E) t m) :
    FnOk P w b.K mg base (L2.CX P w) (k + 1) f fd ps (spG b ps.length (runF mo N.length m)) := by
  refine okXC F S (fun vs H Q E h => ?_) (fun cdv A outer s H vs Q E hcdv hr h => ?_)
  · obtain ⟨_, _, _, _, h, _⟩ := h; exact h
  · obtain ⟨ds, κ, s0, r, hv, hrep, hs, rfl, hF, post⟩ := h
    obtain ⟨t, h1, h2⟩ := body cdv A outer s s0.H E hcdv hr
    refine ⟨t, h1, ?_⟩
    have hd : ds.length = ps.length := by rw [← hrep.length, hv]
    have hs' : SR (ccOf b E) ⟨ds.map .dat ++ List.replicate (N.length - ds.length) .non, κ⟩ s0 (vs.map some ++ List.replicate (N.length - ds.length) none) := sr_args hrep hs _
    have est : L2.start N vs = vs.map some ++ List.replicate (N.length - ds.length) none := by unfold L2.start; rw [hv, hd]
    rw [est]
    unfold runF at hF
    split at hF
    · rename_i st e
      obtain ⟨p, e1, rfl⟩ := Option.map_eq_some_iff.mp hF
      refine h2 _ _ e s0 _ hs' _ fun s' σ' a t' => ?_
      obtain ⟨s2, k1, k2, k3, k4⟩ := exit_ok hs a.cr t' e1
      have z := post .non s2 k1 k2 (k4 .non .non)
      rw [k3] at z; exact z
    · rename_i d st e
      obtain ⟨p, e1, rfl⟩ := Option.map_eq_some_iff.mp hF
      refine h2 _ _ e s0 _ hs' _ fun v s' σ' a t' rv => ?_
      obtain ⟨s2, k1, k2, k3, k4⟩ := exit_ok hs a.cr t' e1
      have z := post v s2 k1 k2 (k4 v rv)
      rw [k3] at z; exact z
    · rename_i y st e
      obtain ⟨p, e1, rfl⟩ := Option.map_eq_some_iff.mp hF
      refine h2 _ _ e s0 _ hs' _ fun s' σ' a t' => ?_
      obtain ⟨s2, k1, k2, k3, k4⟩ := exit_ok hs a.cr t' e1
      have z := post s2 k1 k2
      rw [k3] at z; exact z
    · cases hF
theorem fn_ph {x qual : Str} {st : Stmt} {f : Addr} {fd : FuncData} {N ps : List Str} {k : Nat} {mo : FMode} {m : MS} (F : FunA b.K x qual st f fd) (S : FnScope N ps (defScope st))
    (body : ∀ (cdv : Value) (A : Around) (outer : List PySem.Env) (s : Shared) (H : Hp) (E : XK), Room k (A.deeper (envOfC qual (defScope st) s.heap.objs.size f cdv)) →
      ∃ t, PSs (cxOf (L2.CX P w) P w b.K mg base N qual (defScope st) f cdv A outer s H E) (defBody st) t ∧ SS (ccOf b E) t m) :
    FnOk P w b.K mg base (L2.CX P w) (k + 1) f fd ps (spG b ps.length (runF mo N.length m)) := fn_phC F S fun cdv A outer s H E _ hr => body cdv A outer s H E hr
end
end

/-! ### calls of defs -/
def mCall (F : FF) (ma : MM (List D)) : MM D := bnd ma fun ds ρ => match F ds ρ.c with
  | some (.ok d κ) => some (.ok d ⟨ρ.e, κ⟩)
  | some (.er x κ) => some (.er x ⟨ρ.e, κ⟩)
  | none => none
section
variable {c : Cc}
theorem SR.call {ρ : St} {s s' : Ws} {σ : L2.St} {κ : List Cell} (h : SR c ρ s σ) (k : CS c κ s') (t : Tr s s') : SR c ⟨ρ.e, κ⟩ s' σ := ⟨k, h.len, fun i d e => by
  obtain ⟨v, e1, e2⟩ := h.loc i d e
  exact ⟨v, e1, e2.mono t.le⟩⟩
theorem se_call {n : Nat} {F : FF} {t : TA} {ma : MM (List D)} (h : SA c t ma) (hn : ∀ ρ as ρ', ma ρ = some (.ok as ρ') → as.length = n) :
    SE c (tCallSD (spG c n F) [] (WE (wOf c.ca c.xw)) t) (mCall F ma) := by
  intro ρ rr e s σ hs Q q
  rcases bnd_cases e with ⟨as, ρ1, e1, e2⟩ | ⟨x, ρ1, e1, rfl⟩
  · refine h ρ _ e1 s σ hs _ fun vs s1 hs1 t1 rv => ?_
    have q1 := q.after t1
    have len := hn _ _ _ e1
    have fin : ∃ r, F as ρ1.c = some r ∧ (match r with
        | .ok d κ' => ∀ v s', CS c κ' s' → Tr s1 s' → Rep c.K s'.g v d → Q v s'.H
        | .er x κ' => ∀ s', CS c κ' s' → Tr s1 s' → WE (wOf c.ca c.xw) σ (.ref (c.ca x)) none s'.H) := by
      have e2 : (match F as ρ1.c with
        | some (.ok d κ) => some (.ok d ⟨ρ1.e, κ⟩)
        | some (.er x κ) => some (.er x ⟨ρ1.e, κ⟩)
        | none => none) = some rr := e2
      split at e2
      · rename_i d κ' eF
        cases e2
        exact ⟨_, eF, fun v s' a b r => q1 v s' (hs1.call a b) b r⟩
      · rename_i x κ' eF
        cases e2
        exact ⟨_, eF, fun s' a b => ⟨x, rfl, rfl, q1 s' (hs1.call a b) b⟩⟩
      · cases e2
    obtain ⟨r, hF, hp⟩ := fin
    refine ⟨as, ρ1.c, s1, r, ?_, ?_, hs1.cr, rfl, hF, hp⟩
    · rw [List.append_nil, rv.length, len]
    · rw [List.append_nil]; exact rv
  · exact h ρ _ e1 s σ hs _ fun s1 a b => q s1 a b
end
/-! ### raise -/
section
variable {c : Cc}
def mRaise (x : Str) : MS := fun ρ => some (.er x ρ)
def mRaiseE (x : Str) (m : MM D) : MS := mE m fun _ ρ => some (.er x ρ)
theorem ss_raise {x : Str} : SS c (fun _ σ H => wOf c.ca c.xw (.ref (c.ca x)) none σ H) (mRaise x) := by
  intro ρ o e s σ hs E q
  cases e
  exact ⟨x, rfl, rfl, q s σ hs .refl⟩
theorem ss_raiseE {x : Str} {te : TE} {m : MM D} (h : SE c te m) : SS c (fun _ σ H => te σ H fun _ H1 => wOf c.ca c.xw (.ref (c.ca x)) none σ H1) (mRaiseE x m) := by
  intro ρ o e s σ hs E q
  refine ss_go (t := te) h e hs q fun v d ρ s e hs rx q tr => ?_
  cases e
  exact ⟨x, rfl, rfl, q s σ hs .refl⟩
end
end PH
end
section
set_option maxHeartbeats 0
namespace PH
open PySem PySem.Spec PyProof.Rows L2

/-! ### a list or tuple, walked -/
def iSeq (K : PySem.W.Frag) (tl : TE) : TI := fun σ H R => tl σ H fun x H1 => ∃ a, x = .ref a ∧ (((∃ xs, SqL K H1 a xs) ∧ R (Itl K a) H1) ∨ ((∃ xs, SqT K H1 a xs) ∧ R (Itt K a) H1))
section
variable {X : Cx} {tg : Expr}
theorem pi_seq {l : Expr} {tl : TE} (hl : PE X l tl) : PI X tg l (iSeq X.K tl) := by
  refine ⟨fun pins s σ H R I h => ?_⟩
  refine thn (hl.run pins s σ H _ I h) fun v s1 ⟨x, H1, I1, r1, q1⟩ => ?_
  obtain ⟨a, e, h1⟩ := q1
  subst e
  cases r1
  rcases h1 with ⟨⟨xs, hq⟩, q⟩ | ⟨⟨xs, hq⟩, q⟩
  · obtain ⟨its, rv, p, hz⟩ := I1.list hq
    refine wpAny_pyIter_list p.isList ?_
    refine ⟨s1.heap.objs.size, [s1.heap.objs.size], _, _, H1, rfl, I1.kept (t' := s1.toks) fun b o e => Heap.get?_push_of_some _ e, turn_list a _, ⟨_, Heap.get?_push_size _ rfl, rfl, rfl⟩, fun b hb => ?_, q⟩
    have e : b = s1.heap.objs.size := by simpa using hb
    subst e
    exact I1.fpOk (Nat.le_refl _) (I1.hok.fresh (Nat.le_refl _))
  · obtain ⟨its, rv, p, hz⟩ := I1.tuple hq
    refine wpAny_pyIter_tuple (show s1.heap.IsTuple a its.toArray from p) ?_
    refine ⟨s1.heap.objs.size, [s1.heap.objs.size], _, _, H1, rfl, I1.kept (t' := s1.toks) fun b o e => Heap.get?_push_of_some _ e, turn_tuple a _, ⟨_, Heap.get?_push_size _ rfl, rfl, rfl⟩, fun b hb => ?_, q⟩
    have e : b = s1.heap.objs.size := by simpa using hb
    subst e
    exact I1.fpOk (Nat.le_refl _) (I1.hok.fresh (Nat.le_refl _))
end


/-! ### slots of a block -/
theorem wipe_get (σ : L2.St) (i : Nat) : ∀ vs : List Nat, (wipe σ vs)[i]? = if i ∈ vs ∧ i < σ.length then some none else σ[i]?
  | [] => by simp [wipe]
  | v :: vs => by
    unfold wipe
    by_cases h : v = i
    · subst h
      by_cases hl : v < σ.length
      · rw [List.getElem?_set_self (by rw [wipe_length]; exact hl), if_pos ⟨List.mem_cons_self, hl⟩]
      · rw [List.getElem?_eq_none (by rw [List.length_set, wipe_length]; omega), if_neg (fun z => hl z.2), List.getElem?_eq_none (by omega)]
    · rw [List.getElem?_set_ne h, wipe_get σ i vs]
      have : (i ∈ v :: vs) ↔ i ∈ vs := by
        rw [List.mem_cons]
        exact ⟨fun z => z.resolve_left (fun w => h w.symm), .inr⟩
      simp only [this]
theorem wipe_wipe (σ : L2.St) (vs : List Nat) : wipe (wipe σ vs) vs = wipe σ vs := by
  apply List.ext_getElem?
  intro i
  rw [wipe_get, wipe_length, wipe_get]
  split
  · rfl
  · rfl
theorem wipe_set (σ : L2.St) (vs : List Nat) (i : Nat) (x : Option V) (h : i ∈ vs) : wipe (σ.set i x) vs = wipe σ vs := by
  apply List.ext_getElem?
  intro j
  rw [wipe_get, wipe_get, List.length_set]
  split
  · rfl
  · rename_i hn
    by_cases e : j = i
    · subst e
      have hl : ¬ j < σ.length := fun z => hn ⟨h, z⟩
      rw [List.getElem?_eq_none (by rw [List.length_set]; omega), List.getElem?_eq_none (by omega)]
    · rw [List.getElem?_set_ne (Ne.symm e)]
/-- a target that stores into the block's own slots alone -/
def GW (vs : List Nat) (g : TG) : Prop := ∀ v σ H (Q : L2.St → Hp → Prop), (g v σ H fun σ' H' => wipe σ' vs = wipe σ vs → Q σ' H') → g v σ H fun σ' H' => wipe σ' vs = wipe σ vs ∧ Q σ' H'
def GWs (vs : List Nat) (g : TGs) : Prop := ∀ v σ H (Q : L2.St → Hp → Prop), (g v σ H fun σ' H' => wipe σ' vs = wipe σ vs → Q σ' H') → g v σ H fun σ' H' => wipe σ' vs = wipe σ vs ∧ Q σ' H'
theorem gw_name {vs : List Nat} {i : Nat} (h : i ∈ vs) : GW vs (gName i) := fun v σ H Q q => ⟨wipe_set σ vs i _ h, q (wipe_set σ vs i _ h)⟩
theorem gw_nil {vs : List Nat} : GWs vs gNil := fun v σ H Q ⟨e, q⟩ => ⟨e, rfl, q rfl⟩
theorem gw_cons {vs : List Nat} {i : Nat} {u : TGs} (h : i ∈ vs) (k : GWs vs u) : GWs vs (gCons (gName i) u) := fun v σ H Q ⟨a, r, e, q⟩ => by
  refine ⟨a, r, e, ?_⟩
  have q : u r (σ.set i (some a)) H fun σ' H' => wipe σ' vs = wipe σ vs → Q σ' H' := q
  rw [← wipe_set σ vs i (some a) h] at q
  have z := k r (σ.set i (some a)) H Q q
  rw [wipe_set σ vs i _ h] at z
  exact z
theorem gw_tup {vs : List Nat} {K : PySem.W.Frag} {n : Nat} {u : TGs} (k : GWs vs u) : GW vs (gTup K n u) := fun v σ H Q ⟨a, xs, e, h1, h2, q⟩ => ⟨a, xs, e, h1, h2, k xs σ H Q q⟩

/-! ### what is walked -/
/-- the cell that must stay as it is while it is walked -/
abbrev KC := Option (Nat × Cell)
def kOk : KC → List Cell → Prop
  | none, _ => True
  | some (n, cl), κ => κ[n]? = some cl
/-- while only known things and cells are added, the walk goes on and gives the items -/
def WOk (c : Bs) (s0 : Ws) (J : It) (ds : List D) (k : KC) : Prop := ∃ (G : Hp → Prop) (Y : Nat → Hp → V → Hp → Prop), Walk J ds.length G Y ∧
  (∀ κ s, CS c κ s → Tr s0 s → kOk k κ → G s.H) ∧
  ∀ κ s i x H' d, CS c κ s → Tr s0 s → kOk k κ → Y i s.H x H' → ds[i]? = some d → ∃ W', Nw c.tb s.W s.H W' H' ∧ Rep c.K ⟨W', s.A⟩ x d
section
variable (c : Cc)
def PostI (s : Ws) (σ : L2.St) (R : It → Hp → Prop) : Res (List D × KC) → Prop
  | .ok p ρ' => ∀ J s', SR c ρ' s' σ → Tr s s' → WOk c s' J p.1 p.2 → kOk p.2 ρ'.c → R J s'.H
  | .er x ρ' => ∀ s', SR c ρ' s' σ → Tr s s' → c.xw x σ s'.H
def SI (wi : TI) (m : MM (List D × KC)) : Prop := ∀ ρ r, m ρ = some r → ∀ s σ, SR c ρ s σ → ∀ R, PostI c s σ R r → wi σ s.H R
end
section
variable {c : Cc}
theorem PostI.after {s s1 : Ws} {σ : L2.St} {R : It → Hp → Prop} {r : Res (List D × KC)} (h : PostI c s σ R r) (t : Tr s s1) : PostI c s1 σ R r := by
  cases r with
  | ok d ρ' => exact fun J s' a b => h J s' a (t.trans b)
  | er x ρ' => exact fun s' a b => h s' a (t.trans b)
/-- a value, then a walk over it -/
theorem si_go {τ δ : Type} {rep : Gh → τ → δ → Prop} {t : TX τ} {m : MM δ} {f : δ → MM (List D × KC)} {ρ : St} {r : Res (List D × KC)} {s : Ws} {σ : L2.St} {R2 : It → Hp → Prop} {R : τ → Hp → Prop} (h : Sx c rep t m) (e : bnd m f ρ = some r) (hs : SR c ρ s σ)
    (q : PostI c s σ R2 r) (hk : ∀ v d ρ' s', f d ρ' = some r → SR c ρ' s' σ → rep s'.g v d → PostI c s' σ R2 r → Tr s s' → R v s'.H) : t σ s.H R := by
  rcases bnd_cases e with ⟨d, ρ', e1, e2⟩ | ⟨x, ρ', e1, rfl⟩
  · exact h ρ _ e1 s σ hs _ fun v s' a b kk => hk v d ρ' s' e2 a kk (q.after b) b
  · exact h ρ _ e1 s σ hs _ fun s' a b => q s' a b
/-! for -/
open Classical in
/-- the turns of a loop -/
noncomputable def loopK (k : KC) (g : D → St → Option St) (b : MS) : List D → MS
  | [], ρ => if kOk k ρ.c then some (.nx ρ) else none
  | d :: ds, ρ => if kOk k ρ.c then match g d ρ with
    | none => none
    | some ρ1 => match b ρ1 with
      | some (.nx ρ2) => loopK k g b ds ρ2
      | some (.ct ρ2) => loopK k g b ds ρ2
      | some (.bk ρ2) => some (.nx ρ2)
      | some (.rt d ρ2) => some (.rt d ρ2)
      | some (.er x ρ2) => some (.er x ρ2)
      | none => none
    else none
theorem loopK_ok {k : KC} {g : D → St → Option St} {b : MS} {ds : List D} {ρ : St} {o : Out} (h : loopK k g b ds ρ = some o) : kOk k ρ.c := by
  cases ds with
  | nil => unfold loopK at h; split at h <;> first | assumption | cases h
  | cons d ds => unfold loopK at h; split at h <;> first | assumption | cases h
noncomputable def mForI (m : MM (List D × KC)) (g : D → St → Option St) (b : MS) : MS := mE m fun p => loopK p.2 g b p.1
def LoopAt (c : Cc) (k : KC) (g : D → St → Option St) (b : MS) (ds : List D) (s0 s : Ws) (o : Out) (i : Nat) (σ : L2.St) (H : Hp) : Prop :=
  ∃ ρ s', SR c ρ s' σ ∧ s'.H = H ∧ Tr s s' ∧ Le s0.g s'.g ∧ loopK k g b (ds.drop i) ρ = some o
theorem ss_forI {wi : TI} {g : TG} {tb : TS} {m : MM (List D × KC)} {mg : D → St → Option St} {mb : MS} (h : SI c wi m) (hg : SG c g mg) (hb : SS c tb mb) : SS c (tFor wi g tb) (mForI m mg mb) := by
  intro ρ o e s σ hs E q
  rcases mE_cases e with ⟨p, ρ', e1, e2⟩ | ⟨x, ρ', e1, rfl⟩
  · refine h ρ _ e1 s σ hs _ fun J s1 hs1 t1 wk k1 => ?_
    have q1 := q.after t1
    obtain ⟨G, Y, w, wG, wY⟩ := wk
    refine for_it w (LoopAt c p.2 mg mb p.1 s1 s1 o) ⟨ρ', s1, hs1, rfl, .refl, .refl _, e2⟩ (fun i σ H _ ⟨ρ2, s2, a, eH, t2, _, e3⟩ => eH ▸ wG _ s2 a.cr t2 (loopK_ok e3)) (fun i x σ H H' hi hp hy => ?_) fun σ H hp => ?_
    · obtain ⟨ρ2, s2, a, rfl, t2, le, e3⟩ := hp
      obtain ⟨d, hd⟩ : ∃ d, p.1[i]? = some d := ⟨_, List.getElem?_eq_getElem hi⟩
      obtain ⟨W', n, rv⟩ := wY _ s2 i x H' d a.cr t2 (loopK_ok e3) hy hd
      obtain ⟨a', t'⟩ := a.nw n
      have hd2 : p.1.drop i = d :: p.1.drop (i + 1) := by
        rw [List.drop_eq_getElem_cons hi, (List.getElem?_eq_some_iff.mp hd).2]
      rw [hd2] at e3
      unfold loopK at e3
      split at e3
      · split at e3
        · cases e3
        · rename_i ρ3 e4
          refine hg d ρ2 ρ3 e4 x _ σ a' rv _ fun s3 σ3 a3 t3 => ?_
          have t13 := (t2.trans t').trans t3
          have le3 := (le.trans t'.le).trans t3.le
          split at e3
          · rename_i ρ4 e5
            exact hb ρ3 _ e5 s3 σ3 a3 _ fun s4 σ4 a4 t4 => ⟨ρ4, s4, a4, rfl, t13.trans t4, le3.trans t4.le, e3⟩
          · rename_i ρ4 e5
            exact hb ρ3 _ e5 s3 σ3 a3 _ fun s4 σ4 a4 t4 => ⟨ρ4, s4, a4, rfl, t13.trans t4, le3.trans t4.le, e3⟩
          · rename_i ρ4 e5
            cases e3
            exact hb ρ3 _ e5 s3 σ3 a3 _ fun s4 σ4 a4 t4 => q1 s4 σ4 a4 (t13.trans t4)
          · rename_i d' ρ4 e5
            cases e3
            exact hb ρ3 _ e5 s3 σ3 a3 _ fun v s4 σ4 a4 t4 r => q1 v s4 σ4 a4 (t13.trans t4) r
          · rename_i y ρ4 e5
            cases e3
            exact hb ρ3 _ e5 s3 σ3 a3 _ fun s4 σ4 a4 t4 => q1 s4 σ4 a4 (t13.trans t4)
          · cases e3
      · cases e3
    · obtain ⟨ρ2, s2, a, rfl, t2, _, e3⟩ := hp
      rw [List.drop_length] at e3
      unfold loopK at e3
      split at e3
      · cases e3
        exact q1 s2 σ a t2
      · cases e3
  · exact h ρ _ e1 s σ hs _ fun s1 a b => q s1 σ a b
/-! instances -/
theorem wok_fn {s0 : Ws} {J : It} {ds : List D} {f : Nat → V} (w : Walk J ds.length (fun _ => True) (YFn f)) (r : ∀ (i : Nat) d g, ds[i]? = some d → Rep c.K g (f i) d) : WOk c s0 J ds none :=
  ⟨_, _, w, fun _ _ _ _ _ => trivial, fun κ s i x H' d a _ _ y e => by
    obtain ⟨rfl, rfl⟩ := y
    exact ⟨s.W, a.nref, r i d _ e⟩⟩
def rangeD (lo : Int) (n : Nat) : List D := (List.range n).map fun (i : Nat) => .int (lo + (i : Int))
theorem rangeD_get {lo : Int} {n i : Nat} (h : i < n) : (rangeD lo n)[i]? = some (.int (lo + (i : Int))) := by
  unfold rangeD
  rw [List.getElem?_map, List.getElem?_range h]
  rfl
theorem rangeD_len {lo : Int} {n : Nat} : (rangeD lo n).length = n := by unfold rangeD; rw [List.length_map, List.length_range]
def rangeN (lo : Int) (n : Nat) : List D := (List.range n).map fun (i : Nat) => .int (lo + (i : Int) * -1)
theorem rangeN_get {lo : Int} {n i : Nat} (h : i < n) : (rangeN lo n)[i]? = some (.int (lo + (i : Int) * -1)) := by
  unfold rangeN
  rw [List.getElem?_map, List.getElem?_range h]
  rfl
theorem rangeN_len {lo : Int} {n : Nat} : (rangeN lo n).length = n := by unfold rangeN; rw [List.length_map, List.length_range]
def rgOk (i : Int) : Bool := decide (-(2 ^ 62) ≤ i) && decide (i < 2 ^ 62)
theorem rgOk_of {i : Int} (h : rgOk i = true) : -(2 ^ 62) ≤ i ∧ i < 2 ^ 62 := by
  unfold rgOk at h
  rw [Bool.and_eq_true] at h
  exact ⟨of_decide_eq_true h.1, of_decide_eq_true h.2⟩
def rg1 : List D → Option (List D)
  | [.int j] => if rgOk j = true then some (rangeD 0 j.toNat) else none
  | _ => none
def rg2 : List D → Option (List D)
  | [.int i, .int j] => if rgOk i = true ∧ rgOk j = true then some (rangeD i (j - i).toNat) else none
  | _ => none
def rg3 : List D → Option (List D)
  | [.int i, .int j, .int k] => if rgOk i = true ∧ rgOk j = true ∧ k = -1 then some (rangeN i (i - j).toNat) else none
  | _ => none
/-- a range's walk, its ints known -/
def mRg (rg : List D → Option (List D)) (m : MM (List D)) : MM (List D × KC) := bnd m fun ds => lft ((rg ds).map fun l => (l, none))
theorem reps_i1 {K : PySem.W.Frag} {g : Gh} {vs : List V} {j : Int} (r : Reps K g vs [.int j]) : vs = [.int j] := by
  cases r with
  | cons r1 r2 => cases r1; cases r2; rfl
theorem reps_i2 {K : PySem.W.Frag} {g : Gh} {vs : List V} {i j : Int} (r : Reps K g vs [.int i, .int j]) : vs = [.int i, .int j] := by
  cases r with
  | cons r1 r2 =>
    cases r1
    rw [reps_i1 r2]
theorem reps_i3 {K : PySem.W.Frag} {g : Gh} {vs : List V} {i j k : Int} (r : Reps K g vs [.int i, .int j, .int k]) : vs = [.int i, .int j, .int k] := by
  cases r with
  | cons r1 r2 =>
    cases r1
    rw [reps_i2 r2]
theorem si_rg1 {ta : TA} {m : MM (List D)} (h : SA c ta m) : SI c (iRng1 ta) (mRg rg1 m) := by
  intro ρ r e s σ hs R q
  refine si_go (t := ta) h e hs q fun vs ds ρ s e hs rx q tr => ?_
  obtain ⟨p, e1, rfl⟩ := lft_cases e
  obtain ⟨l, e2, rfl⟩ := Option.map_eq_some_iff.mp e1
  unfold rg1 at e2
  split at e2
  · rename_i j
    split at e2
    · rename_i hj
      cases e2
      refine ⟨j, reps_i1 rx, (rgOk_of hj).1, (rgOk_of hj).2, q _ s hs .refl (wok_fn (f := fun i => .int (0 + (i : Int))) (by rw [rangeD_len]; exact walk_range) fun i d g e => ?_) trivial⟩
      have hi := (List.getElem?_eq_some_iff.mp e).1
      rw [rangeD_len] at hi
      rw [rangeD_get hi] at e
      cases e
      exact .int _
    · cases e2
  · cases e2
theorem si_rg2 {ta : TA} {m : MM (List D)} (h : SA c ta m) : SI c (iRng2 ta) (mRg rg2 m) := by
  intro ρ r e s σ hs R q
  refine si_go (t := ta) h e hs q fun vs ds ρ s e hs rx q tr => ?_
  obtain ⟨p, e1, rfl⟩ := lft_cases e
  obtain ⟨l, e2, rfl⟩ := Option.map_eq_some_iff.mp e1
  unfold rg2 at e2
  split at e2
  · rename_i i j
    split at e2
    · rename_i hj
      cases e2
      refine ⟨i, j, reps_i2 rx, ⟨(rgOk_of hj.1).1, (rgOk_of hj.1).2, (rgOk_of hj.2).1, (rgOk_of hj.2).2⟩, q _ s hs .refl (wok_fn (f := fun k => .int (i + (k : Int))) (by rw [rangeD_len]; exact walk_range) fun k d g e => ?_) trivial⟩
      have hi := (List.getElem?_eq_some_iff.mp e).1
      rw [rangeD_len] at hi
      rw [rangeD_get hi] at e
      cases e
      exact .int _
    · cases e2
  · cases e2
theorem si_rg3 {ta : TA} {m : MM (List D)} (h : SA c ta m) : SI c (iRng3 ta) (mRg rg3 m) := by
  intro ρ r e s σ hs R q
  refine si_go (t := ta) h e hs q fun vs ds ρ s e hs rx q tr => ?_
  obtain ⟨p, e1, rfl⟩ := lft_cases e
  obtain ⟨l, e2, rfl⟩ := Option.map_eq_some_iff.mp e1
  unfold rg3 at e2
  split at e2
  · rename_i i j k
    split at e2
    · rename_i hk
      cases e2
      obtain ⟨h1, h2, rfl⟩ := hk
      refine ⟨i, j, -1, (i - j).toNat, reps_i3 rx, RgC.neg (rgOk_of h1).1 (rgOk_of h1).2 (rgOk_of h2).1 (rgOk_of h2).2, q _ s hs .refl (wok_fn (f := fun k => .int (i + (k : Nat) * -1)) (by rw [rangeN_len]; exact walk_rangeC) fun k d g e => ?_) trivial⟩
      have hi := (List.getElem?_eq_some_iff.mp e).1
      rw [rangeN_len] at hi
      rw [rangeN_get hi] at e
      cases e
      exact .int _
    · cases e2
  · cases e2
/-- a list or tuple; a list that is a cell stays as it is -/
def itemsOf (κ : List Cell) : D → Option (List D × KC)
  | .tup ds => some (ds, none)
  | .lst ds => some (ds, none)
  | .ref n => match κ[n]? with
    | some (.lst ds) => some (ds, some (n, .lst ds))
    | _ => none
  | _ => none
def mItems (m : MM D) : MM (List D × KC) := bnd m fun d => lftK fun κ => itemsOf κ d
theorem sqL_pl {K : PySem.W.Frag} {H : Hp} {a : Addr} {vs : List V} (h : H a = some (.lst vs)) : SqL K H a vs := .inl (.inl h)
theorem wok_list {s0 : Ws} {a : Addr} {vs : List V} {ds : List D} (h : SqL c.K s0.W a vs) (r : Reps c.K s0.g vs ds) : WOk c s0 (Itl c.K a) ds none :=
  ⟨_, _, by rw [← r.length]; exact walk_list, fun κ s cs le _ => cs.ex.sl (le.w.sl h), fun κ s i x H' d cs le _ y e => by
    obtain ⟨rfl, e1⟩ := y
    obtain ⟨d', e2, rv⟩ := r.get e1
    rw [e] at e2; cases e2
    exact ⟨s.W, cs.nref, rv.mono le.le⟩⟩
theorem wok_tup {s0 : Ws} {a : Addr} {vs : List V} {ds : List D} (h : SqT c.K s0.W a vs) (r : Reps c.K s0.g vs ds) : WOk c s0 (Itt c.K a) ds none :=
  ⟨_, _, by rw [← r.length]; exact walk_tup, fun κ s cs le _ => cs.ex.st (le.w.st h), fun κ s i x H' d cs le _ y e => by
    obtain ⟨rfl, e1⟩ := y
    obtain ⟨d', e2, rv⟩ := r.get e1
    rw [e] at e2; cases e2
    exact ⟨s.W, cs.nref, rv.mono le.le⟩⟩
theorem walk_cell {K : PySem.W.Frag} {a : Addr} {n : Nat} : Walk (Itl K a) n (fun H => ∃ vs, H a = some (.lst vs) ∧ vs.length = n) (fun i H x H' => H' = H ∧ ∃ vs, H a = some (.lst vs) ∧ vs[i]? = some x) :=
  ⟨fun i H hi ⟨vs, h, hl⟩ => ⟨vs, vs[i]'(by omega), sqL_pl h, List.getElem?_eq_getElem (by omega)⟩, fun H ⟨vs, h, hl⟩ => ⟨vs, sqL_pl h, by omega⟩, fun i H x H' hi ⟨vs, h, hl⟩ y => ⟨y.1, vs, h, y.2 vs (sqL_pl h)⟩⟩
theorem wok_cell {s0 : Ws} {a : Addr} {n : Nat} {ds : List D} (h : s0.A[n]? = some a) : WOk c s0 (Itl c.K a) ds (some (n, .lst ds)) :=
  ⟨_, _, walk_cell, fun κ s cs le k => by
    obtain ⟨vs, h1, h2⟩ := cs.cell k (le.le.a _ _ h)
    exact ⟨vs, h1, h2.length⟩, fun κ s i x H' d cs le k y e => by
    obtain ⟨rfl, vs, h1, e1⟩ := y
    obtain ⟨vs', h2, r⟩ := cs.cell k (le.le.a _ _ h)
    rw [h1] at h2; cases h2
    obtain ⟨d', e2, rv⟩ := r.get e1
    rw [e] at e2; cases e2
    exact ⟨s.W, cs.nref, rv⟩⟩
theorem si_items {tl : TE} {m : MM D} (h : SE c tl m) : SI c (iSeq c.K tl) (mItems m) := by
  intro ρ r e s σ hs R q
  refine si_go (t := tl) h e hs q fun v d ρ s e hs rx q tr => ?_
  obtain ⟨p, e1, rfl⟩ := lftK_cases e
  cases d <;> try (cases e1; done)
  · cases e1
    cases rx with
    | @tup a vs _ h1 h2 => exact ⟨a, rfl, .inr ⟨⟨vs, hs.ex.st h1⟩, q _ s hs .refl (wok_tup h1 h2) trivial⟩⟩
  · cases e1
    cases rx with
    | @lst a vs _ h1 h2 => exact ⟨a, rfl, .inl ⟨⟨vs, sqL_pl (hs.ex.l h1)⟩, q _ s hs .refl (wok_list (sqL_pl h1) h2) trivial⟩⟩
  · rename_i n
    cases rx with
    | @ref a _ h1 =>
    have e1 : (match ρ.c[n]? with
      | some (.lst ds) => some (ds, some (n, .lst ds))
      | _ => none) = some p := e1
    split at e1
    · rename_i ds e2
      cases e1
      obtain ⟨vs, h2, h3⟩ := hs.cr.cell e2 h1
      exact ⟨a, rfl, .inl ⟨⟨vs, sqL_pl h2⟩, q _ s hs .refl (wok_cell h1) e2⟩⟩
    · cases e1
/-- reversed(..) -/
def itemsR (κ : List Cell) (d : D) : Option (List D × KC) := match d with
  | .tup ds => some (ds.reverse, none)
  | .lst ds => some (ds.reverse, none)
  | _ => none
theorem rev_get {α : Type} {ds : List α} {i : Nat} (h : i < ds.length) : ds.reverse[i]? = ds[ds.length - 1 - i]? := by
  rw [List.getElem?_reverse h]
theorem walk_revT {K : PySem.W.Frag} {a : Addr} {xs : List V} : Walk (RT.ItvT K a xs.length) xs.length (fun H => SqT K H a xs) (fun i H x H' => H' = H ∧ xs[xs.length - 1 - i]? = some x) :=
  ⟨fun i _ hi q => ⟨hi, xs, xs[xs.length - 1 - i]'(by omega), q, by simp [show xs.length - 1 - i < xs.length by omega]⟩, fun _ _ => Nat.le_refl _, fun _ _ _ _ _ q y => ⟨y.1, y.2 xs q⟩⟩
theorem si_rev {tl : TE} {m : MM D} (h : SE c tl m) : SI c (RT.iRevA c.K tl) (bnd m fun d => lftK fun κ => itemsR κ d) := by
  intro ρ r e s σ hs R q
  refine si_go (t := tl) h e hs q fun v d ρ s e hs rx q tr => ?_
  obtain ⟨p, e1, rfl⟩ := lftK_cases e
  have tail : ∀ {κ : List Cell} {s2 : Ws} {vs : List V} {ds : List D} {i : Nat} {x : V} {d : D}, CS c κ s2 → Le s.g s2.g → Reps c.K s.g vs ds → vs[vs.length - 1 - i]? = some x → ds.reverse[i]? = some d → Rep c.K s2.g x d := fun cs le r e1 e => by
    obtain ⟨d', e2, rv⟩ := r.get e1
    have hi := (List.getElem?_eq_some_iff.mp e).1
    rw [List.length_reverse] at hi
    rw [rev_get hi, ← r.length] at e
    rw [e] at e2; cases e2
    exact rv.mono le
  cases d <;> try (cases e1; done)
  · cases e1
    cases rx with
    | @tup a vs ds h1 h2 => exact ⟨a, vs, rfl, .inr ⟨hs.ex.st h1, q _ s hs .refl ⟨_, _, by rw [List.length_reverse, ← h2.length]; exact walk_revT, fun κ s2 cs le _ => cs.ex.st (le.w.st h1), fun κ s2 i x H' d cs le _ y e => by
        obtain ⟨rfl, e1⟩ := y
        exact ⟨s2.W, cs.nref, tail cs le.le h2 e1 e⟩⟩ trivial⟩⟩
  · cases e1
    cases rx with
    | @lst a vs ds h1 h2 => exact ⟨a, vs, rfl, .inl ⟨sqL_pl (hs.ex.l h1), q _ s hs .refl ⟨_, _, by rw [List.length_reverse, ← h2.length]; exact walk_rev, fun κ s2 cs le _ => cs.ex.sl (le.w.sl (sqL_pl h1)), fun κ s2 i x H' d cs le _ y e => by
        obtain ⟨rfl, e1⟩ := y
        exact ⟨s2.W, cs.nref, tail cs le.le h2 e1 e⟩⟩ trivial⟩⟩
end
end PH
end
section
set_option maxHeartbeats 0
namespace PH
open PySem PySem.Spec PyProof.Rows L2
/-! ### comprehensions -/
def wipeL (e : List Loc) : List Nat → List Loc
  | [] => e
  | v :: vs => (wipeL e vs).set v .non
theorem wipeL_len (e : List Loc) : ∀ vs : List Nat, (wipeL e vs).length = e.length
  | [] => rfl
  | v :: vs => by unfold wipeL; rw [List.length_set, wipeL_len e vs]
section
variable {b : Bs} {κ : List Cell} {s s' : Ws}
theorem sr_wipeL {ρ : St} {σ : L2.St} (h : SR b ρ s σ) (k : CS b κ s') (le : Le s.g s'.g) : ∀ vs : List Nat, SR b ⟨wipeL ρ.e vs, κ⟩ s' (wipe σ vs)
  | [] => ⟨k, h.len, fun i d e => by
      obtain ⟨v, h1, h2⟩ := h.loc i d e
      exact ⟨v, h1, h2.mono le⟩⟩
  | v :: vs => by
    have ih := sr_wipeL h k le vs
    refine ⟨k, ?_, fun i d e => ?_⟩
    · show ((wipe σ vs).set v none).length = ((wipeL ρ.e vs).set v .non).length
      rw [List.length_set, List.length_set]
      exact ih.len
    · have e : ((wipeL ρ.e vs).set v .non)[i]? = some (.dat d) := e
      rcases getElem_set e with ⟨_, z, _⟩ | ⟨hi, e⟩
      · cases z
      · obtain ⟨x, h1, h2⟩ := ih.loc i d e
        exact ⟨x, by show ((wipe σ vs).set v none)[i]? = _; rw [List.getElem?_set_ne (Ne.symm hi)]; exact h1, h2⟩
theorem SR.le' {ρ : St} {σ : L2.St} (h : SR b ρ s σ) (k : CS b κ s') (le : Le s.g s'.g) : SR b ⟨ρ.e, κ⟩ s' σ := ⟨k, h.len, fun i d e => by
  obtain ⟨v, e1, e2⟩ := h.loc i d e
  exact ⟨v, e1, e2.mono le⟩⟩
/-- the list that is being made grows -/
theorem cs_grow {L : Addr} {acc ys : List V} (h : CS b κ s) (hL : s.H L = some (.lst acc)) (wL : s.W L = none) (nL : ¬ OwnsA s L) : CS b κ ⟨s.g, upd s.H L (.lst ys)⟩ := by
  refine ⟨h.len, fun n cl e => ?_, h.fr, h.inj, fun a o q => ?_, h.nt, h.tb.ext fun a o q n1 => ?_⟩
  · obtain ⟨p, h1, h2⟩ := h.cel n cl e
    have hp : p ≠ L := fun z => nL (.inl (z ▸ CS.mem h1))
    refine ⟨p, h1, h2.mono (Le.refl _) (fun u _ q => (upd_ne hp).trans q) fun d q => ?_⟩
    have hd : d ≠ L := fun z => by rw [z, hL] at q; cases q
    exact (upd_ne hd).trans q
  · have : a ≠ L := fun z => by rw [z, wL] at q; cases q
    show upd s.H L (.lst ys) a = some o ∨ ∃ od kv, o = .dK kv ∧ upd s.H L (.lst ys) a = some (.frz od o)
    rw [upd_ne this]; exact h.ex a o q
  · have : a ≠ L := fun z => by rw [z, hL] at q; cases q; exact n1 trivial
    exact (upd_ne this).trans q
theorem tr_grow {s0 : Ws} {L : Addr} {acc ys : List V} (t : Tr s0 s) (hL : s0.H L = none) (h0 : s.H L = some (.lst acc)) (nL : L ∉ s.A) : Tr s0 ⟨s.g, upd s.H L (.lst ys)⟩ := by
  refine ⟨t.w, t.a, t.n, fun a u h1 h0 h2 h3 => ?_, fun a z => t.o a ?_, fun a h => ?_, fun a od w q => ?_⟩
  · have : a ≠ L := fun z => by rw [z, hL] at h2; cases h2
    show upd s.H L (.lst ys) a = some u
    rw [upd_ne this]; exact t.f a u h1 h0 h2 h3
  · rcases z with z | ⟨x, hx, C, fs, z⟩
    · exact .inl z
    · have hxL : x ≠ L := fun w => nL (w ▸ hx)
      have z : upd s.H L (.lst ys) x = some (.ins C a fs) := z
      rw [upd_ne hxL] at z
      exact .inr ⟨x, hx, C, fs, z⟩
  · have : a ≠ L := fun z => h (by rw [z]; exact hL)
    show upd s.H L (.lst ys) a ≠ none
    rw [upd_ne this]; exact t.p a h
  · have : a ≠ L := fun z => by rw [z, hL] at q; cases q
    show upd s.H L (.lst ys) a = _
    rw [upd_ne this]; exact t.z a od w q
theorem own_tr {u : HO} {L : Addr} (t : Tr s s') (hL : s.H L = some u) (nu : NTbl u) (wL : s.W L = none) (nL : ¬ OwnsA s L) : s'.H L = some u ∧ s'.W L = none ∧ ¬ OwnsA s' L := by
  have hn : s.H L ≠ none := by rw [hL]; exact fun z => nomatch z
  refine ⟨t.f L _ nL wL hL nu, t.n L hn nL wL, fun z => ?_⟩
  rcases t.o L z with z | z
  · exact nL z
  · exact hn z
/-- a thing of nobody's becomes known for good -/
theorem cs_known {s0 : Ws} {L : Addr} {u : HO} (h : CS b κ s) (t : Tr s0 s) (h0 : s0.H L = none) (hL : s.H L = some u) (pu : Pl u) (wL : s.W L = none) (nL : ¬ OwnsA s L) :
    CS b κ ⟨⟨upd s.W L u, s.A⟩, s.H⟩ ∧ Tr s0 ⟨⟨upd s.W L u, s.A⟩, s.H⟩ ∧ Le s.g ⟨upd s.W L u, s.A⟩ := by
  have le : Le s.g ⟨upd s.W L u, s.A⟩ := ⟨Ex.up wL, fun _ _ h => h⟩
  refine ⟨⟨h.len, fun n cl e => ?_, fun p hp => ?_, h.inj, fun a o q => ?_, fun a o q => ?_, h.tb⟩, ⟨t.w.trans le.w, t.a, fun a h1 h2 h3 => ?_, t.f, t.o, t.p, t.z⟩, le⟩
  · obtain ⟨p, h1, h2⟩ := h.cel n cl e
    exact ⟨p, h1, h2.mono le (fun _ _ q => q) fun _ q => q⟩
  · have : p ≠ L := fun z => nL (.inl (z ▸ hp))
    exact (upd_ne this).trans (h.fr p hp)
  · have q : upd s.W L u a = some o := q
    by_cases ha : a = L
    · rw [ha, upd_same] at q; cases q
      rw [ha]; exact .inl hL
    · rw [upd_ne ha] at q; exact h.ex a o q
  · have q : upd s.W L u a = some o := q
    by_cases ha : a = L
    · rw [ha, upd_same] at q; cases q
      exact pu
    · rw [upd_ne ha] at q; exact h.nt a o q
  · have : a ≠ L := fun z => h1 (by rw [z]; exact h0)
    exact (upd_ne this).trans (t.n a h1 h2 h3)
/-- a thing of nobody's becomes a cell -/
theorem cs_cell {s0 : Ws} {L : Addr} {cl : Cell} (h : CS b κ s) (t : Tr s0 s) (h0 : s0.H L = none) (ok : CellOk b s.g s.H L cl) (no : ∀ C d fs, s.H L ≠ some (.ins C d fs)) (wL : s.W L = none) (nL : ¬ OwnsA s L) :
    CS b (κ ++ [cl]) ⟨⟨s.W, s.A ++ [L]⟩, s.H⟩ ∧ Tr s0 ⟨⟨s.W, s.A ++ [L]⟩, s.H⟩ ∧ Le s.g ⟨s.W, s.A ++ [L]⟩ ∧ (s.A ++ [L])[κ.length]? = some L := by
  have le : Le s.g ⟨s.W, s.A ++ [L]⟩ := le_add
  have last : (s.A ++ [L])[κ.length]? = some L := by
    rw [← h.len, List.getElem?_append_right (Nat.le_refl _), Nat.sub_self]; rfl
  refine ⟨⟨by show (s.A ++ [L]).length = _; rw [List.length_append, List.length_append, h.len]; rfl, fun m cl' e => ?_, fun q hq => ?_, ?_, h.ex, h.nt, h.tb⟩, ⟨t.w, t.a.trans (List.prefix_append _ _), t.n, t.f, fun a z => ?_, t.p, t.z⟩, le, last⟩
  · by_cases hm : m < κ.length
    · rw [List.getElem?_append_left hm] at e
      obtain ⟨q, e1, e2⟩ := h.cel m cl' e
      exact ⟨q, le.a m q e1, e2.mono le (fun _ _ q => q) fun _ q => q⟩
    · rw [List.getElem?_append_right (by omega)] at e
      have e0 : m = κ.length := by
        have := (List.getElem?_eq_some_iff.mp e).1
        simp at this
        omega
      subst e0
      rw [Nat.sub_self] at e
      cases e
      exact ⟨L, last, ok.mono le (fun _ _ q => q) fun _ q => q⟩
  · rcases List.mem_append.mp hq with hq | hq
    · exact h.fr q hq
    · rw [List.mem_singleton.mp hq]; exact wL
  · show (s.A ++ [L]).Nodup
    rw [List.nodup_append]
    exact ⟨h.inj, by simp, fun a ha b hb z => nL (.inl (by rw [← List.mem_singleton.mp hb, ← z]; exact ha))⟩
  · rcases z with z | ⟨x, hx, C, fs, z⟩
    · rcases List.mem_append.mp z with z | z
      · exact t.o a (.inl z)
      · rw [List.mem_singleton.mp z]; exact .inr h0
    · rcases List.mem_append.mp hx with hx | hx
      · exact t.o a (.inr ⟨x, hx, C, fs, z⟩)
      · rw [List.mem_singleton.mp hx] at z
        exact absurd z (no C a fs)
end
open Classical in
noncomputable def compK (k : KC) (g : D → St → Option St) (t : MM Bool) (e : MM D) (ew : List Loc) : List D → List D → List Cell → Option (List D × List Cell)
  | [], acc, κ => if kOk k κ then some (acc, κ) else none
  | d :: ds, acc, κ => if kOk k κ then match g d ⟨ew, κ⟩ with
    | none => none
    | some ρ1 => match t ρ1 with
      | some (.ok true ρ2) => match e ρ2 with
        | some (.ok y ρ3) => if acc.length < cap then compK k g t e ew ds (acc ++ [y]) ρ3.c else none
        | _ => none
      | some (.ok false ρ2) => compK k g t e ew ds acc ρ2.c
      | _ => none
    else none
theorem compK_ok {k : KC} {g : D → St → Option St} {t : MM Bool} {e : MM D} {ew : List Loc} {ds acc : List D} {κ : List Cell} {r : List D × List Cell} (h : compK k g t e ew ds acc κ = some r) : kOk k κ := by
  cases ds with
  | nil => unfold compK at h; split at h <;> first | assumption | cases h
  | cons d ds => unfold compK at h; split at h <;> first | assumption | cases h
noncomputable def mLc (m : MM (List D × KC)) (vs : List Nat) (g : D → St → Option St) (t : MM Bool) (e : MM D) : MM (List D) := bnd m fun p ρ => match compK p.2 g t e (wipeL ρ.e vs) p.1 [] ρ.c with
  | some (ys, κ) => some (.ok ys ⟨ρ.e, κ⟩)
  | none => none
def Cc.quiet (c : Cc) : Cc := ⟨c.toBs, fun _ _ _ => False⟩
section
variable {c : Cc} {wi : TI} {g : TG} {tt : TT} {te : TE} {mi : MM (List D × KC)} {mg : D → St → Option St} {mt : MM Bool} {me : MM D} {vs : List Nat}
/-- the reading of a comprehension; fin: what its list becomes -/
theorem lc_run {fin : List D → MM D} (h : SI c wi mi) (hg : SG c.quiet g mg) (hw : GW vs g) (ht : ST c.quiet tt mt) (he : SE c.quiet te me)
    (hfin : ∀ (s0 s : Ws) (ρ : St) (σ : L2.St) (L : Addr) (acc : List V) (ys : List D) (Q : VK) (r : Res D), SR c ρ s σ → Tr s0 s → s0.H L = none → s.H L = some (.lst acc) → Reps c.K s.g acc ys → s.W L = none → ¬ OwnsA s L → fin ys ρ = some r → PostX c (Rep c.K) s0 σ Q r → Q (.ref L) s.H) :
    SE c (tLc wi g tt te vs) (bnd (mLc mi vs mg mt me) fin) := by
  intro ρ rr e s σ hs Q q
  unfold mLc at e
  have e : bnd mi (fun p => bnd (fun ρ => match compK p.2 mg mt me (wipeL ρ.e vs) p.1 [] ρ.c with
    | some (ys, κ) => some (.ok ys ⟨ρ.e, κ⟩)
    | none => none) fin) ρ = some rr := by
    unfold bnd at e ⊢
    cases e1 : mi ρ with
    | none => rw [e1] at e; exact e
    | some z =>
      rw [e1] at e
      cases z with
      | ok a ρ' => exact e
      | er x ρ' => exact e
  rcases bnd_cases e with ⟨p, ρ1, e1, e2⟩ | ⟨x, ρ1, e1, rfl⟩
  · refine h ρ _ e1 s σ hs _ fun J s1 hs1 t1 wk k1 => ?_
    have q1 := q.after t1
    rcases bnd_cases e2 with ⟨ys, ρ2, e3, e4⟩ | ⟨x, ρ2, e3, _⟩
    · have e3 : (match compK p.2 mg mt me (wipeL ρ1.e vs) p.1 [] ρ1.c with
        | some (ys, κ) => some (Res.ok ys ⟨ρ1.e, κ⟩)
        | none => none) = some (.ok ys ρ2) := e3
      split at e3
      · rename_i ys' κ' e5
        cases e3
        intro L hL
        obtain ⟨G, Y, w, wG, wY⟩ := wk
        refine lc_it w (fun i H => ∃ κ s' acc dacc, CS c κ s' ∧ s'.H = H ∧ Tr s1 s' ∧ H L = some (.lst acc) ∧ Reps c.K s'.g acc dacc ∧ s'.W L = none ∧ ¬ OwnsA s' L ∧ compK p.2 mg mt me (wipeL ρ1.e vs) (p.1.drop i) dacc κ = some (ys, κ')) ?_ (fun i H _ ⟨κ, s', _, _, a, eH, t, _, _, _, _, e6⟩ => eH ▸ wG κ s' a t (compK_ok e6)) (fun i x H H' hi hp hy => ?_) fun H hp => ?_
        · have n0 := Nw.own (p := L) (o := .lst []) hs1.cr.ex hs1.cr.nt hs1.cr.tb hL
          obtain ⟨b1, b2⟩ := hs1.cr.nw n0
          have nL := hs1.cr.free hL
          refine ⟨ρ1.c, ⟨⟨s1.W, s1.A⟩, upd s1.H L (.lst [])⟩, [], [], b1, rfl, b2, upd_same, .nil, hs1.cr.wfree hL, fun z => ?_, e5⟩
          rcases z with w | ⟨x, hx, C, fs, w⟩
          · exact nL (.inl w)
          · have w : upd s1.H L (.lst []) x = some (.ins C L fs) := w
            by_cases hxL : x = L
            · rw [hxL, upd_same] at w; cases w
            · rw [upd_ne hxL] at w; exact nL (.inr ⟨x, hx, C, fs, w⟩)
        · obtain ⟨κ, s2, acc, dacc, a, rfl, t2, hacc, racc, wL, nL, e6⟩ := hp
          obtain ⟨d, hd⟩ : ∃ d, p.1[i]? = some d := ⟨_, List.getElem?_eq_getElem hi⟩
          obtain ⟨W', n, rv⟩ := wY κ s2 i x H' d a t2 (compK_ok e6) hy hd
          obtain ⟨a', t'⟩ := a.nw n
          obtain ⟨i1, i2, i3⟩ := own_tr t' hacc (fun _ z => nomatch z) wL nL
          have t2' := t2.trans t'
          have hd2 : p.1.drop i = d :: p.1.drop (i + 1) := by
            rw [List.drop_eq_getElem_cons hi, (List.getElem?_eq_some_iff.mp hd).2]
          rw [hd2] at e6
          unfold compK at e6
          split at e6
          · split at e6
            · cases e6
            · rename_i ρ3 e7
              have sw : SR c.quiet ⟨wipeL ρ1.e vs, κ⟩ ⟨⟨W', s2.A⟩, H'⟩ (wipe σ vs) := sr_wipeL hs1 a' t2'.le vs
              have z := hg d _ ρ3 e7 x _ (wipe σ vs) sw rv (fun σ2 H2 => wipe σ2 vs = wipe σ vs → tt σ2 H2 fun b H3 => if b = true then te σ2 H3 fun y H4 => ∃ acc, H4 L = some (.lst acc) ∧ acc.length < sizeLine ∧ (∃ κ s' acc' dacc, CS c κ s' ∧ s'.H = upd H4 L (.lst (acc ++ [y])) ∧ Tr s1 s' ∧ upd H4 L (.lst (acc ++ [y])) L = some (.lst acc') ∧ Reps c.K s'.g acc' dacc ∧ s'.W L = none ∧ ¬ OwnsA s' L ∧ compK p.2 mg mt me (wipeL ρ1.e vs) (p.1.drop (i + 1)) dacc κ = some (ys, κ')) else ∃ κ s' acc dacc, CS c κ s' ∧ s'.H = H3 ∧ Tr s1 s' ∧ H3 L = some (.lst acc) ∧ Reps c.K s'.g acc dacc ∧ s'.W L = none ∧ ¬ OwnsA s' L ∧ compK p.2 mg mt me (wipeL ρ1.e vs) (p.1.drop (i + 1)) dacc κ = some (ys, κ')) ?_
              · have z2 := hw x (wipe σ vs) H' _ (by rw [wipe_wipe]; exact z)
                rw [wipe_wipe] at z2
                exact z2
              · intro s3 σ3 a3 t3 hwp
                split at e6
                · rename_i ρ4 e8
                  refine ht ρ3 _ e8 s3 σ3 a3 _ fun b s4 a4 t4 hb => ?_
                  subst hb
                  rw [if_pos rfl]
                  split at e6
                  · rename_i y ρ5 e9
                    refine he ρ4 _ e9 s4 σ3 a4 _ fun v s5 a5 t5 rv5 => ?_
                    have t35 := t3.trans (t4.trans t5)
                    obtain ⟨k1, k2, k3⟩ := own_tr t35 i1 (fun _ z => nomatch z) i2 i3
                    split at e6
                    · rename_i hlt
                      refine ⟨acc, k1, cap_lt (by rw [racc.length]; exact hlt), ρ5.c, ⟨s5.g, upd s5.H L (.lst (acc ++ [v]))⟩, acc ++ [v], dacc ++ [y], cs_grow a5.cr k1 k2 k3, rfl, tr_grow (t2'.trans t35) hL k1 fun z => k3 (.inl z), upd_same, (racc.mono (t'.le.trans t35.le)).append (.cons rv5 .nil), k2, fun z => k3 ?_, e6⟩
                      rcases z with z | ⟨x, hx, C, fs, z⟩
                      · exact .inl z
                      · have hxL : x ≠ L := fun w => k3 (.inl (w ▸ hx))
                        have z : upd s5.H L (.lst (acc ++ [v])) x = some (.ins C L fs) := z
                        rw [upd_ne hxL] at z
                        exact .inr ⟨x, hx, C, fs, z⟩
                    · cases e6
                  · cases e6
                · rename_i ρ4 e8
                  refine ht ρ3 _ e8 s3 σ3 a3 _ fun b s4 a4 t4 hb => ?_
                  subst hb
                  rw [if_neg Bool.false_ne_true]
                  have t34 := t3.trans t4
                  obtain ⟨k1, k2, k3⟩ := own_tr t34 i1 (fun _ z => nomatch z) i2 i3
                  exact ⟨ρ4.c, s4, acc, dacc, a4.cr, rfl, t2'.trans t34, k1, racc.mono (t'.le.trans t34.le), k2, k3, e6⟩
                · cases e6
          · cases e6
        · obtain ⟨κ, s2, acc, dacc, a, rfl, t2, hacc, racc, wL, nL, e6⟩ := hp
          rw [List.drop_length] at e6
          unfold compK at e6
          split at e6
          · cases e6
            exact hfin s1 s2 ⟨ρ1.e, κ'⟩ σ L acc ys Q rr (hs1.call a t2) t2 hL hacc racc wL nL e4 q1
          · cases e6
      · cases e3
    · have e3 : (match compK p.2 mg mt me (wipeL ρ1.e vs) p.1 [] ρ1.c with
        | some (ys, κ) => some (Res.ok ys ⟨ρ1.e, κ⟩)
        | none => none) = some (.er x ρ2) := e3
      split at e3 <;> cases e3
  · exact h ρ _ e1 s σ hs _ fun s1 a b => q s1 a b
/-- a comprehension's list as data -/
theorem se_lc (h : SI c wi mi) (hg : SG c.quiet g mg) (hw : GW vs g) (ht : ST c.quiet tt mt) (he : SE c.quiet te me) : SE c (tLc wi g tt te vs) (bnd (mLc mi vs mg mt me) fun ys => ret (.lst ys)) :=
  lc_run h hg hw ht he fun s0 s ρ σ L acc ys Q r a t h0 hL racc wL nL e q => by
    cases e
    obtain ⟨k1, k2, le⟩ := cs_known a.cr t h0 hL trivial wL nL
    exact q (.ref L) ⟨⟨upd s.W L (.lst acc), s.A⟩, s.H⟩ (a.le' k1 le) k2 (Rep.lst (g := ⟨upd s.W L (.lst acc), s.A⟩) upd_same (racc.mono le))
/-- .. as a cell -/
theorem se_lcC (h : SI c wi mi) (hg : SG c.quiet g mg) (hw : GW vs g) (ht : ST c.quiet tt mt) (he : SE c.quiet te me) : SE c (tLc wi g tt te vs) (bnd (mLc mi vs mg mt me) fun ys => newC (.lst ys)) :=
  lc_run h hg hw ht he fun s0 s ρ σ L acc ys Q r a t h0 hL racc wL nL e q => by
    cases e
    obtain ⟨k1, k2, le, last⟩ := cs_cell (cl := .lst ys) a.cr t h0 ⟨acc, hL, racc⟩ (fun C d fs z => by rw [hL] at z; cases z) wL nL
    exact q (.ref L) ⟨⟨s.W, s.A ++ [L]⟩, s.H⟩ (a.le' k1 le) k2 (.ref last)
end
end PH
end
section
set_option maxHeartbeats 0
namespace PH
open PySem PySem.Spec PyProof.Rows L2
section
variable {X : Cx}
/-- xs.extend(a list or a tuple) -/
def rExtA (K : PySem.W.Frag) : V → List V → Hp → VK → Prop := fun x vs H Q => rExtend x vs H Q ∨ ∃ l b xs zs, x = .ref l ∧ vs = [.ref b] ∧ H l = some (.lst xs) ∧ SqT K H b zs ∧ xs.length + zs.length ≤ sizeLine ∧ Q .non (upd H l (.lst (xs ++ zs)))
theorem mt_extendA : MtR X "list.extend" (rExtA X.K) := by
  intro pins s σ H x vs v us Q I rx rv h
  rcases h with h | h
  · exact mt_extend pins s σ H x vs v us Q I rx rv h
  obtain ⟨l, b, xs, zs, rfl, rfl, hH, hB, hz, q⟩ := h
  cases rx
  obtain ⟨u, rfl, ru⟩ := rv.one
  cases ru
  obtain ⟨z, its, n, r, hl, e⟩ := I.lstM hH
  obtain ⟨its2, r2, p2, hz2⟩ := I.tuple hB
  obtain ⟨⟨cls2, d2, data2, sl2⟩, eo2, hc2, n2, hd2⟩ := id p2
  simp only at hc2 hd2
  subst hc2 hd2
  have hl2 := r2.length
  have hsz : its.toArray.size + its2.toArray.size ≤ sizeLine := by rw [List.size_toArray, List.size_toArray]; omega
  have hlong : ¬ (!its.toArray.isEmpty && Builtin.List.listTooLong (its.toArray.size + its2.toArray.size)) = true := by
    rw [notLongL hsz, Bool.and_false]
    exact Bool.false_ne_true
  refine call_meets PySem.F.slot_list_extend ⟨_, e, rfl⟩ PySem.F.entry_list_extend (PySem.F.args_list_extend_2 _ _)
    (PySem.pd_extend_tuple l its.toArray n b its2.toArray n2 d2 sl2 hlong (by rw [List.size_toArray]; omega) (by omega)) ⟨e, eo2, ?_⟩
  refine ⟨.non, _, I.lset (its' := its ++ its2) hH e (by simp) (r.append r2) ?_, rfl, q⟩
  rw [List.length_append]
  omega
end
/-! ### a list's methods on data -/
def mdAppend (κ : List Cell) : List D → List D → Option (List D × D)
  | ds, [d] => if ds.length < cap then some (ds ++ [d], .non) else none
  | _, _ => none
def mdExtend (κ : List Cell) : List D → List D → Option (List D × D)
  | ds, [d] => match see1 κ d with
    | .tup es => if ds.length + es.length ≤ cap then some (ds ++ es, .non) else none
    | .lst es => if ds.length + es.length ≤ cap then some (ds ++ es, .non) else none
    | _ => none
  | _, _ => none
def mdPop (κ : List Cell) : List D → List D → Option (List D × D)
  | ds, [] => match ds[ds.length - 1]? with
    | some d => some (ds.dropLast, d)
    | none => none
  | _, _ => none
def mdPopAt (κ : List Cell) : List D → List D → Option (List D × D)
  | ds, [.int i] => if 0 ≤ i ∧ i < ds.length ∧ ds.length ≤ cap then match ds[i.toNat]? with
    | some d => some (ds.eraseIdx i.toNat, d)
    | none => none
    else none
  | _, _ => none
def mdReverse (κ : List Cell) : List D → List D → Option (List D × D)
  | ds, [] => some (ds.reverse, .non)
  | _, _ => none
def mdInsert (κ : List Cell) : List D → List D → Option (List D × D)
  | ds, [.int i, d] => if ds.length < cap ∧ 0 ≤ i ∧ i < 2 ^ 63 then some (ds.take i.toNat ++ [d] ++ ds.drop i.toNat, .non) else none
  | _, _ => none
def rInsert : V → List V → Hp → VK → Prop := fun x vs H Q => ∃ (l : Addr) (xs : List V) (i : Int) (y : V), x = .ref l ∧ vs = [.int i, y] ∧ H l = some (.lst xs) ∧ xs.length < sizeLine ∧ 0 ≤ i ∧ i < 2 ^ 63 ∧
    Q .non (upd H l (.lst (xs.take i.toNat ++ [y] ++ xs.drop i.toNat)))
section
variable {c : Cc}
theorem reps1 {K : PySem.W.Frag} {g : Gh} {vs : List V} {d : D} (r : Reps K g vs [d]) : ∃ v, vs = [v] ∧ Rep K g v d := by
  cases r with
  | cons r1 r2 => cases r2; exact ⟨_, rfl, r1⟩
theorem reps2 {K : PySem.W.Frag} {g : Gh} {vs : List V} {d e : D} (r : Reps K g vs [d, e]) : ∃ v u, vs = [v, u] ∧ Rep K g v d ∧ Rep K g u e := by
  cases r with
  | cons r1 r2 =>
    cases r2 with
    | cons r2 r3 => cases r3; exact ⟨_, _, rfl, r1, r2⟩
theorem rme_append : RMe c rAppend mdAppend := by
  intro κ s p xs vs ds as ds2 d w hp r ra e
  unfold mdAppend at e
  split at e
  · split at e
    · rename_i hl
      cases e
      obtain ⟨v, rfl, rv⟩ := reps1 ra
      exact ⟨_, .non, r.append (.cons rv .nil), .non, fun Q q => ⟨p, xs, v, rfl, rfl, hp, cap_lt (by rw [r.length]; exact hl), q⟩⟩
    · cases e
  · cases e
theorem rme_extend : RMe c (rExtA c.K) mdExtend := by
  intro κ s p xs vs ds as ds2 d w hp r ra e
  unfold mdExtend at e
  split at e
  · rename_i d0
    obtain ⟨v, rfl, rv⟩ := reps1 ra
    have rv := see1_rep w rv
    generalize see1 κ d0 = d1 at e rv
    cases d1 <;> try (cases e; done)
    · rename_i es
      have e : (if ds.length + es.length ≤ cap then some (ds ++ es, D.non) else none) = some (ds2, d) := e
      split at e
      · rename_i hl
        cases e
        cases rv with
        | @tup a ys _ hx r1 =>
          exact ⟨_, .non, r.append r1, .non, fun Q q => .inr ⟨p, a, xs, ys, rfl, rfl, hp, w.ex.st hx, cap_le (by rw [r.length, r1.length]; exact hl), q⟩⟩
      · cases e
    · rename_i es
      have e : (if ds.length + es.length ≤ cap then some (ds ++ es, D.non) else none) = some (ds2, d) := e
      split at e
      · rename_i hl
        cases e
        cases rv with
        | @lst a ys _ hx r1 =>
          exact ⟨_, .non, r.append r1, .non, fun Q q => .inl ⟨p, a, xs, ys, rfl, rfl, hp, hx, cap_le (by rw [r.length, r1.length]; exact hl), q⟩⟩
      · cases e
  · cases e
theorem rme_pop : RMe c rPop mdPop := by
  intro κ s p xs vs ds as ds2 d w hp r ra e
  unfold mdPop at e
  split at e
  · split at e
    · rename_i d' hd
      cases e
      cases ra
      obtain ⟨v, hv, rv⟩ := r.getD hd
      exact ⟨_, v, r.dropLast, rv, fun Q q => ⟨p, xs, v, rfl, rfl, hp, by rw [r.length]; exact hv, q⟩⟩
    · cases e
  · cases e
theorem rme_popAt : RMe c rPopAt mdPopAt := by
  intro κ s p xs vs ds as ds2 d w hp r ra e
  unfold mdPopAt at e
  split at e
  · rename_i i
    split at e
    · rename_i hi
      split at e
      · rename_i d' hd
        cases e
        have := reps_i1 ra
        subst this
        obtain ⟨v, hv, rv⟩ := r.getD hd
        have hc : (cap : Int) = 100000 := rfl
        have hcap : (ds.length : Int) ≤ 100000 := by have := hi.2.2; unfold cap at this; omega
        refine ⟨_, v, r.eraseIdx _, rv, fun Q q => ⟨p, xs, i, i.toNat, v, rfl, rfl, hp, by omega, by omega, ?_, hv, q⟩⟩
        rw [r.length]
        have hi1 := hi.1
        have hi2 := hi.2.1
        unfold seqIndex?
        have e1 : (if i < 0 then i + (ds.length : Int) else i) = i := if_neg (by omega)
        simp only [e1]
        rw [if_pos]
        rw [Bool.and_eq_true]
        exact ⟨decide_eq_true hi1, decide_eq_true hi2⟩
      · cases e
    · cases e
  · cases e
theorem rme_reverse : RMe c rReverse mdReverse := by
  intro κ s p xs vs ds as ds2 d w hp r ra e
  unfold mdReverse at e
  split at e
  · cases e
    cases ra
    exact ⟨_, .non, r.reverse, .non, fun Q q => ⟨p, xs, rfl, rfl, hp, q⟩⟩
  · cases e
theorem rme_insert : RMe c rInsert mdInsert := by
  intro κ s p xs vs ds as ds2 d w hp r ra e
  unfold mdInsert at e
  split at e
  · rename_i i y
    split at e
    · rename_i h
      cases e
      obtain ⟨v, u, rfl, rv, ru⟩ := reps2 ra
      cases rv
      exact ⟨_, .non, ((r.take _).append (.cons ru .nil)).append (r.drop _), .non, fun Q q => ⟨p, xs, i, u, rfl, rfl, hp, cap_lt (by rw [r.length]; exact h.1), h.2.1, h.2.2, q⟩⟩
    · cases e
  · cases e

/-! ### f-strings -/
def dFmt : D → Option D
  | .str y => if y.length ≤ cap then some (.str y) else none
  | .int i => if i.natAbs.log2 < 1920 then some (.str (toString i)) else none
  | _ => none
theorem se_fmt {te : TE} {m : MM D} (h : SE c te m) : SE c (tFmt te) (bnd m fun d => lft (dFmt d)) := by
  intro ρ rr e s σ hs Q q
  refine sx_go (t := te) h e hs q fun x a ρ s e hs rx q tr => ?_
  obtain ⟨d, e3, rfl⟩ := lft_cases e
  unfold dFmt at e3
  split at e3
  · rename_i y
    split at e3
    · rename_i hl
      cases e3
      cases rx
      exact .inl ⟨y, rfl, cap_le hl, q _ s hs .refl (.str _)⟩
    · cases e3
  · rename_i i
    split at e3
    · rename_i hl
      cases e3
      cases rx
      exact .inr ⟨i, rfl, hl, q _ s hs .refl (.str _)⟩
    · cases e3
  · cases e3
def joinM : List (MM D) → Str → MM D
  | [], acc => ret (.str acc)
  | m :: ms, acc => bnd m fun d => match d with
    | .str y => if (acc ++ y).length ≤ cap then joinM ms (acc ++ y) else fun _ => none
    | _ => fun _ => none
inductive SJ (c : Cc) : List TE → List (MM D) → Prop
  | nil : SJ c [] []
  | cons {t : TE} {ts : List TE} {m : MM D} {ms : List (MM D)} : SE c t m → SJ c ts ms → SJ c (t :: ts) (m :: ms)
theorem se_js : ∀ {ts : List TE} {ms : List (MM D)}, SJ c ts ms → ∀ acc : Str, SE c (fun σ H Q => tJs ts acc σ H fun out H1 => Q (.str out) H1) (joinM ms acc)
  | _, _, .nil, acc => by
    intro ρ rr e s σ hs Q q
    cases e
    exact q _ s hs .refl (.str _)
  | _, _, .cons (t := t) h r, acc => by
    intro ρ rr e s σ hs Q q
    refine sx_go (t := t) h e hs q fun x a ρ s e hs rx q tr => ?_
    cases a <;> try (cases e; done)
    rename_i y
    dsimp only at e
    split at e
    · rename_i hl
      cases rx
      exact ⟨y, rfl, cap_le hl, se_js r _ ρ rr e s σ hs Q q⟩
    · cases e
theorem se_joined {ts : List TE} {ms : List (MM D)} (h : SJ c ts ms) : SE c (fun σ H Q => tJs ts Str.empty σ H fun out H1 => Q (.str out) H1) (joinM ms Str.empty) := se_js h _

/-! ### a star in a display -/
def elemsK (κ : List Cell) (d : D) : Option (List D) := match see1 κ d with
  | .tup ds => some ds
  | .lst ds => some ds
  | _ => none
def mStar (m : MM D) (ms : MM (List D)) : MM (List D) := bnd m fun d => bnd (lftK fun κ => elemsK κ d) fun ds => bnd ms fun es => ret (ds ++ es)
theorem sa_star {te : TE} {t : TA} {m : MM D} {ms : MM (List D)} (h : SE c te m) (hr : SA c t ms) : SA c (StX.tStar c.K te t) (mStar m ms) := by
  intro ρ rr e s σ hs Q q
  refine sx_go (t := te) h e hs q fun x a ρ s e hs rx q tr => ?_
  rcases bnd_cases e with ⟨ds, ρ', e1, e2⟩ | ⟨x', ρ', e1, _⟩
  · obtain ⟨ds', ea, e4⟩ := lftK_cases e1
    cases e4
    have rx := see1_rep hs.cr rx
    unfold elemsK at ea
    generalize see1 ρ.c a = a at ea rx
    have hd : (∃ p xs, x = .ref p ∧ SqT c.K s.H p xs ∧ Reps c.K s.g xs ds) ∨ (∃ p xs, x = .ref p ∧ SqL c.K s.H p xs ∧ Reps c.K s.g xs ds) := by
      cases a <;> try (cases ea; done)
      · cases ea
        cases rx with
        | @tup p xs _ hx r1 => exact .inl ⟨p, xs, rfl, hs.ex.st hx, r1⟩
      · cases ea
        cases rx with
        | @lst p xs _ hx r1 => exact .inr ⟨p, xs, rfl, .inl (.inl hx), r1⟩
    have fin : ∀ xs, Reps c.K s.g xs ds → t σ s.H fun ys H2 => Q (xs ++ ys) H2 := fun xs rxs => by
      refine sx_go (t := t) hr e2 hs q fun y es ρ s2 e hs ry q tr2 => ?_
      cases e
      exact q _ s2 hs .refl ((rxs.mono tr2.le).append ry)
    rcases hd with ⟨p, xs, rfl, h1, h2⟩ | ⟨p, xs, rfl, h1, h2⟩
    · exact ⟨p, xs, rfl, .inl h1, fin xs h2⟩
    · exact ⟨p, xs, rfl, .inr h1, fin xs h2⟩
  · obtain ⟨ds', ea, e4⟩ := lftK_cases e1
    cases e4
theorem ss_par3 {i j l : Nat} {ta : TA} {m : MM (List D)} (h : SA c ta m) : SS c (tPar3 i j l ta) (mPar3 i j l m) := by
  intro ρ o e s σ hs E q
  refine ss_go (t := ta) h e hs q fun vs ds ρ s e hs rx q tr => ?_
  cases rx with
  | nil => cases e
  | cons r1 rx =>
    cases rx with
    | nil => cases e
    | cons r2 rx =>
      cases rx with
      | nil => cases e
      | cons r3 rx =>
        cases rx with
        | cons _ _ => cases e
        | nil =>
          obtain ⟨ρ', e1, rfl⟩ := Option.map_eq_some_iff.mp e
          obtain ⟨ρ2, e1, e3⟩ := Option.bind_eq_some_iff.mp e1
          obtain ⟨ρ1, e1, e2⟩ := Option.bind_eq_some_iff.mp e1
          refine ⟨_, _, _, rfl, ?_⟩
          exact sg_name (c := c) _ ρ ρ1 e1 _ s σ hs r1 (fun σ' H' => E.nx ((σ'.set j (some _)).set l (some _)) H') fun s1 σ1 a b => sg_name (c := c) _ ρ1 ρ2 e2 _ s1 σ1 a (r2.mono b.le) (fun σ' H' => E.nx (σ'.set l (some _)) H') fun s2 σ2 a2 b2 =>
            sg_name (c := c) _ ρ2 ρ' e3 _ s2 σ2 a2 (r3.mono (b.le.trans b2.le)) _ fun s3 σ3 a3 b3 => q s3 σ3 a3 (b.trans (b2.trans b3))
end
end PH
end
section
set_option maxHeartbeats 0
/-! methods, instances: what is raised is wished for at the caller's slots -/
namespace PH
open PySem PySem.Spec PyProof.Rows L2
def tMethSD (C : Addr) (m : Str) (sp : Sp) (dvs : List V) (E : L2.St → XK) (to : TE) (t : TA) : TE := fun σ H Q => to σ H fun x H1 =>
  ∃ a dx fs, x = .ref a ∧ H1 a = some (.ins C dx fs) ∧ fs.lookup m = none ∧ t σ H1 fun vs H2 => sp (x :: (vs ++ dvs)) H2 Q (E σ)
def tMakeSD (C : Addr) (sp : Sp) (dvs : List V) (E : L2.St → XK) (t : TA) : TE := fun σ H Q => t σ H fun vs H1 =>
  ∀ x dx, H1 x = none → H1 dx = none → dx ≠ x → sp (.ref x :: (vs ++ dvs)) (upd (upd H1 dx (.own x)) x (.ins C dx [])) (fun v H2 => v = .non ∧ Q (.ref x) H2) (E σ)
section
variable {X : Cx} {CX : CXT} {k : Nat} {f C : Addr} {fd : FuncData} {ps : List Str} {sp : Sp} {dvs : List V} {dsv : List Value} {E : L2.St → XK} {x m : Str} {p pos apos : Pos} {e o : Expr} {es : List Expr} {to : TE} {t : TA}
/-- a call that is one of the method found -/
theorem pe_methSD {pl : Sem Bool} (ho : PE X o to) (cl : Cls X.K C) (hm : Meth X.K C m f) (F : FnOk X.prog X.w X.K X.mg X.base CX k f fd ps sp) (room : Room k X.A) (bd : Binds X.K fd ps dsv) (dv : Vals dvs dsv) (pass : ∀ σ, PassesAt CX X σ (E σ)) (args : PA X (e :: es) t)
    (h1 : starEach (e :: es) X.env = (false, eval e X.env) :: starEach es X.env := by rfl) (h2 : (backTo pos (starEach es X.env)).any (·.1) = false := by rfl)
    (h3 : eval (.Call (.Attribute o m apos) (e :: es) [] pos) X.env = (eval o X.env >>= fun ov => standAt apos.atName >>= fun _ => holding [ov] (getMethod ov m pl) >>= fun q => callWith pos q.1 q.2 (backTo pos (starEach (e :: es) X.env)) (backToKw pos (keywordEach [] X.env))) := by rfl) :
    PE X (.Call (.Attribute o m apos) (e :: es) [] pos) (tMethSD C m sp dvs E to t) := ⟨fun pins s σ H Q I hq => by
  refine PySem.W.methodCall_KW (pl := pl) (thn (ho.run pins s σ H _ I hq) ?_) h3
  rintro u s1 ⟨v, H1, I1, rv, a, dx, fs, rfl, ea, nf, hq1⟩
  cases (show u = Value.ref a from rv)
  refine getmeth_ok I1 ea cl hm nf (PySem.W.callWith_K (first := [.ref a]) (h₀ := X.base) I.ok.mod.kin hm.kp (thn (args.run pos pins s1 σ H1 _ I1 hq1) ?_) h1 h2)
  rintro us s2 ⟨vs, H2, I2, rs, hq2⟩
  exact ⟨I2.kIn, run_fnSD (vs := .ref a :: vs) (us := .ref a :: us) F room bd dv (pass σ) I2 (.cons rfl rs) hq2⟩⟩
theorem pe_methSD0 {pl : Sem Bool} (ho : PE X o to) (cl : Cls X.K C) (hm : Meth X.K C m f) (F : FnOk X.prog X.w X.K X.mg X.base CX k f fd ps sp) (room : Room k X.A) (bd : Binds X.K fd ps dsv) (dv : Vals dvs dsv) (pass : ∀ σ, PassesAt CX X σ (E σ))
    (h3 : eval (.Call (.Attribute o m apos) [] [] pos) X.env = (eval o X.env >>= fun ov => standAt apos.atName >>= fun _ => holding [ov] (getMethod ov m pl) >>= fun q => callWith pos q.1 q.2 (backTo pos (starEach [] X.env)) (backToKw pos (keywordEach [] X.env))) := by rfl) :
    PE X (.Call (.Attribute o m apos) [] [] pos) (tMethSD C m sp dvs E to tNil) := ⟨fun pins s σ H Q I hq => by
  refine PySem.W.methodCall_KW (pl := pl) (thn (ho.run pins s σ H _ I hq) ?_) h3
  rintro u s1 ⟨v, H1, I1, rv, a, dx, fs, rfl, ea, nf, hq1⟩
  cases (show u = Value.ref a from rv)
  exact getmeth_ok I1 ea cl hm nf (PySem.W.callWith_K0 (first := [.ref a]) I1.kIn hm.kp (run_fnSD (vs := [.ref a]) (us := [.ref a]) F room bd dv (pass σ) I1 (.cons rfl .nil) hq1))⟩
theorem run_makeSD {pins : List (Addr × Obj)} {σ : L2.St} {H : Hp} {s : Shared} {Q : VK} {us : List Value} {vs : List V} (M : Mk X.K C f) (F : FnOk X.prog X.w X.K X.mg X.base CX k f fd ps sp) (room : Room (k + 1) X.A) (bd : Binds X.K fd ps dsv) (dv : Vals dvs dsv)
    (pass : PassesAt CX X σ (E σ)) (I : Inv X pins σ H s) (rs : Vals vs us)
    (hq : ∀ x dx, H x = none → H dx = none → dx ≠ x → sp (.ref x :: (vs ++ dvs)) (upd (upd H dx (.own x)) x (.ins C dx [])) (fun v H2 => v = .non ∧ Q (.ref x) H2) (E σ)) :
    wpAny (model X.prog X.w) X.A (call (.ref C) us) (EP X pins σ Q) X.xe s := by
  obtain ⟨n, hn⟩ : ∃ n, n = s.heap.objs.size := ⟨_, rfl⟩
  have J := Inv.made (C := C) I
  rw [← hn] at J
  have q1 := hq (n + 1) n (I.hok.fresh (hn ▸ Nat.le_succ _)) (I.hok.fresh (hn ▸ Nat.le_refl _)) (Nat.ne_of_lt (Nat.lt_succ_self n))
  have rr : Vals (V.ref (n + 1) :: (vs ++ dvs)) (Value.ref (n + 1) :: (us ++ dsv)) := .cons rfl (rs.append dv)
  have len : (Value.ref (n + 1) :: us ++ dsv).length = ps.length := (show _ = _ from rr.length.symm).trans (F.len _ _ _ _ q1)
  subst hn
  refine wpAny_call (make_map (f := f) I.kIn M.makes M.init (beq_iff_eq.mp M.fn) (codeAny_mono (F.run _ X.stack _ _ ⟨Value.ref (s.heap.objs.size + 1) :: us, []⟩ _ _ _ (E σ) (room.make C us []) (J.env0.make C us []) (bd _ (Value.ref (s.heap.objs.size + 1) :: us) J.kIn len) rr q1) ?_))
  rintro (err | fl) s' z
  · exact pass pins _ _ err s' J z
  · cases fl with
    | ret u =>
      obtain ⟨v, H', J2, rv, rfl, z2⟩ := J.after z
      exact ⟨rv, .ref (s.heap.objs.size + 1), H', J2, rfl, z2⟩
    | next => exact z.elim
    | brk => exact z.elim
    | cont => exact z.elim
theorem pe_makeSD (M : Mk X.K C f) (F : FnOk X.prog X.w X.K X.mg X.base CX k f fd ps sp) (room : Room (k + 1) X.A) (hg : Gl X x) (gm : X.mg x = some (.ref C)) (bd : Binds X.K fd ps dsv) (dv : Vals dvs dsv) (pass : ∀ σ, PassesAt CX X σ (E σ)) (args : PA X (e :: es) t)
    (nd : (x == ("__debug__" : Str)) = false := by decide) (h1 : starEach (e :: es) X.env = (false, eval e X.env) :: starEach es X.env := by rfl) (h2 : (backTo pos (starEach es X.env)).any (·.1) = false := by rfl) :
    PE X (.Call (.Name x p) (e :: es) [] pos) (tMakeSD C sp dvs E t) := ⟨fun pins s σ H Q I hq => wpAny_Call_Name_kw (ld_glob I hg gm (PySem.W.callWith_K (h₀ := X.base) I.ok.mod.kin M.kp (thn (args.run pos pins s σ H _ I hq) (by
  rintro us s1 ⟨vs, H1, I1, rs, z⟩
  exact ⟨I1.kIn, run_makeSD M F room bd dv (pass σ) I1 rs z⟩)) h1 h2) nd)⟩
theorem pe_makeSD0 (M : Mk X.K C f) (F : FnOk X.prog X.w X.K X.mg X.base CX k f fd ps sp) (room : Room (k + 1) X.A) (hg : Gl X x) (gm : X.mg x = some (.ref C)) (bd : Binds X.K fd ps dsv) (dv : Vals dvs dsv) (pass : ∀ σ, PassesAt CX X σ (E σ))
    (nd : (x == ("__debug__" : Str)) = false := by decide) : PE X (.Call (.Name x p) [] [] pos) (tMakeSD C sp dvs E tNil) := ⟨fun pins s σ H Q I hq =>
  wpAny_Call_Name_kw (ld_glob I hg gm (PySem.W.callWith_K0 I.kIn M.kp (run_makeSD (us := []) M F room bd dv (pass σ) I .nil hq)) nd)⟩
theorem pe_callSD0 (F : FnOk X.prog X.w X.K X.mg X.base CX k f fd ps sp) (room : Room k X.A) (hg : Gl X x) (gm : X.mg x = some (.ref f)) (kp : PySem.W.keepIn X.K (.ref f) = true) (bd : Binds X.K fd ps dsv) (dv : Vals dvs dsv) (pass : ∀ σ, PassesAt CX X σ (E σ))
    (nd : (x == ("__debug__" : Str)) = false := by decide) : PE X (.Call (.Name x p) [] [] pos) (tCallSD sp dvs E tNil) := ⟨fun pins s σ H Q I hq =>
  wpAny_Call_Name_kw (ld_glob I hg gm (PySem.W.callWith_K0 I.kIn kp (run_fnSD (us := []) F room bd dv (pass σ) I .nil hq)) nd)⟩
end
end PH
end
section
set_option maxHeartbeats 0
namespace PH
open PySem PySem.Spec PyProof.Rows L2
/-! ### what the generated texts use -/
section
variable {c : Cc}
def Ln (n : Nat) (m : MM (List D)) : Prop := ∀ ρ as ρ', m ρ = some (.ok as ρ') → as.length = n
theorem ln_nil : Ln 0 (ret []) := fun ρ as ρ' e => by cases e; rfl
theorem ln_cons {n : Nat} {m : MM D} {ms : MM (List D)} (h : Ln n ms) : Ln (n + 1) (bnd m fun d => bnd ms fun ds => ret (d :: ds)) := fun ρ as ρ' e => by
  rcases bnd_cases e with ⟨d, ρ1, e1, e2⟩ | ⟨x, ρ1, e1, e2⟩
  · rcases bnd_cases e2 with ⟨ds, ρ2, e3, e4⟩ | ⟨x, ρ2, e3, e4⟩
    · cases e4
      rw [List.length_cons, h _ _ _ e3]
    · cases e4
  · cases e2
def mArg (m : MM D) (ms : MM (List D)) : MM (List D) := bnd m fun d => bnd ms fun ds => ret (d :: ds)
def mOp (op : D → D → Option D) (a b : MM D) : MM D := bnd a fun x => bnd b fun y => lftK fun κ => op (see1 κ x) (see1 κ y)
def mOpK (op : List Cell → D → D → Option D) (a b : MM D) : MM D := bnd a fun x => bnd b fun y => lftK fun κ => op κ x y
def mUn (op : D → Option D) (a : MM D) : MM D := bnd a fun x => lftK fun κ => op (see1 κ x)
def mUnK (op : List Cell → D → Option D) (a : MM D) : MM D := bnd a fun x => lftK fun κ => op κ x
def mCb (op : List D → Option D) (a : MM (List D)) : MM D := bnd a fun x => lftK fun κ => op (x.map (see1 κ))
def mCbK (op : List Cell → List D → Option D) (a : MM (List D)) : MM D := bnd a fun x => lftK fun κ => op κ x
def mTest (m : MM D) : MM Bool := bnd m fun d => lft (asB d)
def mTru (m : MM D) : MM Bool := bnd m fun d => lftK fun κ => truD (see1 κ d)
def mTruC (m : MM D) : MM Bool := bnd m fun d => lftK fun κ => truC κ d
def mAnd (a b : MM Bool) : MM Bool := bnd a fun x => if x = true then b else ret false
def mOr (a b : MM Bool) : MM Bool := bnd a fun x => if x = true then ret true else b
def mNot (a : MM Bool) : MM Bool := bnd a fun x => ret (!x)
def mIfE (t : MM Bool) (a b : MM D) : MM D := bnd t fun x => if x = true then a else b
def mAndV (a b : MM D) : MM D := bnd a fun x => bnd (lft (asB x)) fun k => if k = true then b else ret (.bl false)
def mOrV (a b : MM D) : MM D := bnd a fun x => bnd (lft (asB x)) fun k => if k = true then ret (.bl true) else b
def mNotV (a : MM D) : MM D := bnd a fun x => bnd (lft (asB x)) fun k => ret (.bl (!k))
def mTupD (m : MM (List D)) : MM D := bnd m fun ds => lft (mTup ds)
def mLstD (m : MM (List D)) : MM D := bnd m fun ds => lft (mLst ds)
def mLstC (m : MM (List D)) : MM D := bnd m fun ds => if ds.length ≤ cap then newC (.lst ds) else fun _ => none
def mOpC (op : List Cell → D → D → Option (List D)) (a b : MM D) : MM D := bnd a fun x => bnd b fun y => bnd (lftK fun κ => op κ x y) fun ds => newC (.lst ds)
def mCbC (op : List D → Option (List D)) (a : MM (List D)) : MM D := bnd a fun x => bnd (lftK fun κ => op (x.map (see1 κ))) fun ds => newC (.lst ds)
noncomputable def mLcD (m : MM (List D × KC)) (vs : List Nat) (g : D → St → Option St) (t : MM Bool) (e : MM D) : MM D := bnd (mLc m vs g t e) fun ys => ret (.lst ys)
noncomputable def mLcC (m : MM (List D × KC)) (vs : List Nat) (g : D → St → Option St) (t : MM Bool) (e : MM D) : MM D := bnd (mLc m vs g t e) fun ys => newC (.lst ys)
def mPart (m : MM D) : MM (Option Int) := bnd m fun d => lft ((asI d).map some)
def mChain (op op' : D → D → Option D) (a b d : MM D) : MM D := bnd a fun x => bnd b fun y => bnd (lftK fun κ => op (see1 κ x) (see1 κ y)) fun z => bnd (lft (asB z)) fun k => if k = true then bnd d fun w => lftK fun κ => op' (see1 κ y) (see1 κ w) else ret (.bl false)
theorem se_chain {r r' : R2} {op op' : D → D → Option D} {ta tb td : TE} {ma mb md : MM D} (ho : ROp c r op) (ho' : ROp c r' op') (ha : SE c ta ma) (hb : SE c tb mb) (hd : SE c td md) : SE c (tChain r r' ta tb td) (mChain op op' ma mb md) := by
  intro ρ rr e s σ hs Q q
  refine sx_go (t := ta) ha e hs q fun x a ρ s e hs rx q tr => ?_
  refine sx_go (t := tb) hb e hs q fun y b ρ s1 e hs1 ry q tr1 => ?_
  rcases bnd_cases e with ⟨z, ρ2, e1, e2⟩ | ⟨x', ρ2, e1, _⟩
  · obtain ⟨z', e3, e4⟩ := lftK_cases e1
    cases e4
    rcases bnd_cases e2 with ⟨k, ρ3, e5, e6⟩ | ⟨x', ρ3, e5, _⟩
    · obtain ⟨k', e7, e8⟩ := lft_cases e5
      cases e8
      refine ho _ _ x y _ _ _ hs1.cr (see1_rep hs1.cr (rx.mono tr1.le)) (see1_rep hs1.cr ry) e3 _ fun v W' H' n rv => ?_
      cases z <;> try (cases e7; done)
      cases e7
      cases rv
      refine ⟨_, rfl, ?_⟩
      obtain ⟨hs2, t2⟩ := hs1.nw n
      have q2 := q.after t2
      split at e6
      · rename_i hk
        rw [if_pos hk]
        refine sx_go (t := td) (s := ⟨⟨W', s1.A⟩, H'⟩) hd e6 hs2 q2 fun w d ρ s3 e hs3 rw' q tr3 => ?_
        obtain ⟨z2, e9, rfl⟩ := lftK_cases e
        exact ho' _ _ y w _ _ _ hs3.cr (see1_rep hs3.cr ((ry.mono t2.le).mono tr3.le)) (see1_rep hs3.cr rw') e9 _ (post_nw hs3 q)
      · rename_i hk
        rw [if_neg hk]
        cases e6
        exact q2 _ ⟨⟨W', s1.A⟩, H'⟩ hs2 .refl (.bl _)
    · obtain ⟨_, _, e8⟩ := lft_cases e5
      cases e8
  · obtain ⟨_, _, e8⟩ := lftK_cases e1
    cases e8
def dNeg : D → Option D
  | .int i => some (.int (-i))
  | _ => none
theorem run_neg : RUn c (rU fun i => .int (-i)) dNeg := by
  intro κ s x a d w rx e Q q
  cases a <;> try (cases e; done)
  cases e
  cases rx
  exact ⟨_, rfl, q _ s.W s.H w.nref (.int _)⟩
def dIpAdd : D → D → Option D := dInt fun i j => .int (i + j)
theorem rop_ipadd : ROp c (ipI fun i j => i + j) dIpAdd := by
  intro κ s x y a b d w rx ry e Q q
  cases a <;> try (cases e; done)
  cases b <;> try (cases e; done)
  cases rx; cases ry; cases e
  exact ⟨_, _, rfl, rfl, q _ s.W s.H w.nref (.int _)⟩
/-- within a comprehension nothing is raised -/
theorem takesQ {X : Cx} {ca : Str → Addr} : Takes X (wOf ca fun _ _ _ => False) := L2.takes0.imp fun _ _ _ _ ⟨_, _, _, h⟩ => h
theorem takesB {X : Cx} {ca : Str → Addr} {E : XK} (h : Takes X fun cls d _ H => E cls d H) : Takes X (wOf ca fun x _ H => E (.ref (ca x)) none H) := h.imp fun cls d σ H ⟨x, h1, h2, h3⟩ => by
  subst h1 h2
  exact h3
/-- is None -/
def dIsN : D → Option D
  | .non => some (.bl true)
  | .bl _ => some (.bl false)
  | .int _ => some (.bl false)
  | .str _ => some (.bl false)
  | .tup _ => some (.bl false)
  | .lst _ => some (.bl false)
  | .dct _ => some (.bl false)
  | .ref _ => some (.bl false)
  | _ => none
theorem run_isN : RUn c (fun x H Q => Q (.bl (decide (x = .non))) H) dIsN := by
  intro κ s x a d w rx e Q q
  have fin : ∀ k, decide (x = V.non) = k → d = .bl k → Q (.bl (decide (x = V.non))) s.H := fun k h1 h2 => by
    rw [h1]
    exact q _ s.W s.H w.nref (by rw [h2]; exact .bl _)
  cases rx <;> cases e <;> exact fin _ (by rfl) rfl
theorem se_isN {t : TE} {m : MM D} (h : SE c t m) : SE c (tIsN t) (mUn dIsN m) := se_un run_isN h

/-! ### the fields of an instance -/
def putD (f : Str) (d : D) : List (Str × D) → List (Str × D)
  | [] => [(f, d)]
  | (g, x) :: r => if g = f then (g, d) :: r else (g, x) :: putD f d r
theorem RepF.look {K : PySem.W.Frag} {g : Gh} {f : Str} {d : D} : ∀ {vf : List (Str × V)} {fs : List (Str × D)}, RepF K g vf fs → fs.lookup f = some d → ∃ v, vf.lookup f = some v ∧ Rep K g v d
  | _, _, .nil, e => by cases e
  | _, _, .cons (k := k) (v := v) (d := d') r t, e => by
    rw [List.lookup_cons] at e ⊢
    cases h : f == k with
    | true => rw [h] at e; cases e; exact ⟨v, rfl, r⟩
    | false => rw [h] at e; exact RepF.look t e
theorem RepF.none {K : PySem.W.Frag} {g : Gh} {f : Str} : ∀ {vf : List (Str × V)} {fs : List (Str × D)}, RepF K g vf fs → fs.lookup f = Option.none → vf.lookup f = Option.none
  | _, _, .nil, _ => rfl
  | _, _, .cons (k := k) r t, e => by
    rw [List.lookup_cons] at e ⊢
    cases h : f == k with
    | true => rw [h] at e; cases e
    | false => rw [h] at e; exact RepF.none t e
theorem RepF.put {K : PySem.W.Frag} {g : Gh} {f : Str} {v : V} {d : D} (r : Rep K g v d) : ∀ {vf : List (Str × V)} {fs : List (Str × D)}, RepF K g vf fs → RepF K g (putF f v vf) (putD f d fs)
  | _, _, .nil => .cons r .nil
  | _, _, .cons (k := k) r1 t => by
    unfold putF putD
    by_cases h : k = f
    · rw [if_pos h, if_pos h]; exact .cons r t
    · rw [if_neg h, if_neg h]; exact .cons r1 (RepF.put r t)
/-- what is known of an own class: no attribute of that name stands in the class -/
structure Fld (c : Bs) (x f : Str) : Prop where
  cl : Cls c.K (c.ca x)
  no : NoAttr c.K (c.ca x) f
def fldOf (x f : Str) (κ : List Cell) (d : D) : Option D := match seeO κ d with
  | some (y, fs) => if y = x then fs.lookup f else none
  | none => none
theorem se_fld {x f : Str} {to : TE} {mo : MM D} (k : Fld c x f) (h : SE c to mo) : SE c (tFld c.K to f) (mUnK (fldOf x f) mo) := by
  intro ρ rr e s σ hs Q q
  refine sx_go (t := to) h e hs q fun v d ρ s e hs rx q tr => ?_
  obtain ⟨d', e1, rfl⟩ := lftK_cases e
  unfold fldOf at e1
  split at e1
  · rename_i y fs eo
    split at e1
    · rename_i hy
      subst hy
      obtain ⟨n, a, dx, vf, rfl, e2, e3, rfl, h1, h2, h3⟩ := seeO_rep hs.cr rx eo
      obtain ⟨u, h4, h5⟩ := h3.look e1
      exact ⟨a, _, dx, vf, u, rfl, h1, k.cl, k.no, h4, q u s hs .refl h5⟩
    · cases e1
  · cases e1
/-- o.f = e -/
def putC (x f : Str) (d : D) : D → MS
  | .ref n => fun ρ => match ρ.c[n]? with
    | some (.obj y fs) => if y = x ∧ fs.length < 1000 then some (.nx (ρ.setc n (.obj y (putD f d fs)))) else none
    | _ => none
  | _ => fun _ => none
def mSetF (x f : Str) (mv mo : MM D) : MS := mE mv fun v => mE mo fun o => putC x f v o
theorem ss_fld {x f : Str} {tv to : TE} {mv mo : MM D} (k : Fld c x f) (hv : SE c tv mv) (ho : SE c to mo) : SS c (sFld c.K to tv f) (mSetF x f mv mo) := by
  intro ρ o e s σ hs E q
  refine ss_go (t := tv) hv e hs q fun v d ρ s e hs rv q tr => ?_
  refine ss_go (t := to) ho e hs q fun u d' ρ s e hs ru q tr => ?_
  cases d' <;> try (cases e; done)
  rename_i n
  have e9 : (match ρ.c[n]? with
    | some (.obj y fs) => if y = x ∧ fs.length < 1000 then some (Out.nx (ρ.setc n (.obj y (putD f d fs)))) else none
    | _ => none) = some o := e
  split at e9
  · rename_i y fs e1
    split at e9
    · rename_i hy
      obtain ⟨rfl, hl⟩ := hy
      cases e9
      cases ru with
      | @ref a _ hA =>
      obtain ⟨dx, vf, h1, h2, h3⟩ := hs.cr.cell e1 hA
      have hd : dx ≠ a := fun z => by rw [z, h1] at h2; cases h2
      obtain ⟨k1, k2⟩ := hs.change (u := .ins (c.ca y) dx (putF f v vf)) (cl2 := .obj y (putD f d fs)) e1 hA trivial (fun _ _ _ z => by cases z; exact ⟨_, _, h1⟩) ⟨dx, putF f v vf, upd_same, by rw [upd_ne hd]; exact h2, h3.put (rv.mono tr.le)⟩
      exact ⟨a, _, dx, vf, rfl, h1, k.cl, k.no, by rw [h3.length]; exact hl, q _ σ k1 k2⟩
    · cases e9
  · cases e9

/-! ### methods, new instances -/
def mMethO (x m : Str) (F : FF) (mo : MM D) (ma : MM (List D)) : MM D := bnd mo fun o => match o with
  | .ref n => fun ρ => match ρ.c[n]? with
    | some (.obj y fs) => if y = x ∧ (fs.lookup m).isNone = true then bnd ma (fun as ρ => match F (.ref n :: as) ρ.c with
      | some (.ok d κ) => some (.ok d ⟨ρ.e, κ⟩)
      | some (.er x κ) => some (.er x ⟨ρ.e, κ⟩)
      | none => none) ρ else none
    | _ => none
  | _ => fun _ => none
theorem se_methO {x m : Str} {n : Nat} {F : FF} {to : TE} {t : TA} {mo : MM D} {ma : MM (List D)} (ho : SE c to mo) (h : SA c t ma) (hn : Ln n ma) : SE c (tMethSD (c.ca x) m (spG c (n + 1) F) [] (WE (wOf c.ca c.xw)) to t) (mMethO x m F mo ma) := by
  intro ρ rr e s σ hs Q q
  refine sx_go (t := to) ho e hs q fun v d ρ s e hs rx q tr => ?_
  cases d <;> try (cases e; done)
  rename_i k
  have e9 : (match ρ.c[k]? with
    | some (.obj y fs) => if y = x ∧ (fs.lookup m).isNone = true then bnd ma (fun as ρ => match F (.ref k :: as) ρ.c with
      | some (.ok d κ) => some (Res.ok d ⟨ρ.e, κ⟩)
      | some (.er x κ) => some (.er x ⟨ρ.e, κ⟩)
      | none => none) ρ else none
    | _ => none) = some rr := e
  clear e
  split at e9
  · rename_i y fs e0
    split at e9
    · rename_i hy
      obtain ⟨rfl, hf⟩ := hy
      cases rx with
      | @ref a _ hA =>
      obtain ⟨dx, vf, h1, h2, h3⟩ := hs.cr.cell e0 hA
      have nf : vf.lookup m = none := h3.none (Option.isNone_iff_eq_none.mp hf)
      refine ⟨a, dx, vf, rfl, h1, nf, ?_⟩
      rcases bnd_cases e9 with ⟨as, ρ1, e1, e2⟩ | ⟨z, ρ1, e1, rfl⟩
      · refine h ρ _ e1 s σ hs _ fun vs s1 hs1 t1 rv => ?_
        have q1 := q.after t1
        have len := hn _ _ _ e1
        have fin : ∃ r, F (.ref k :: as) ρ1.c = some r ∧ (match r with
            | .ok d κ' => ∀ v s', CS c κ' s' → Tr s1 s' → Rep c.K s'.g v d → Q v s'.H
            | .er x κ' => ∀ s', CS c κ' s' → Tr s1 s' → WE (wOf c.ca c.xw) σ (.ref (c.ca x)) none s'.H) := by
          have e2 : (match F (.ref k :: as) ρ1.c with
            | some (.ok d κ) => some (Res.ok d ⟨ρ1.e, κ⟩)
            | some (.er x κ) => some (.er x ⟨ρ1.e, κ⟩)
            | none => none) = some rr := e2
          split at e2
          · rename_i d κ' eF
            cases e2
            exact ⟨_, eF, fun v s' a b r => q1 v s' (hs1.call a b) b r⟩
          · rename_i x κ' eF
            cases e2
            exact ⟨_, eF, fun s' a b => ⟨x, rfl, rfl, q1 s' (hs1.call a b) b⟩⟩
          · cases e2
        obtain ⟨r, hF, hp⟩ := fin
        refine ⟨.ref k :: as, ρ1.c, s1, r, ?_, .cons (.ref (t1.le.a _ _ hA)) ?_, hs1.cr, rfl, hF, hp⟩
        · rw [List.append_nil, List.length_cons, rv.length, len]
        · rw [List.append_nil]; exact rv
      · exact h ρ _ e1 s σ hs _ fun s1 a b => q s1 a b
    · cases e9
  · cases e9
/-- C(..): dds the defaults -/
def mMake (x : Str) (F : FF) (dds : List D) (ma : MM (List D)) : MM D := bnd ma fun as ρ => match F (.ref ρ.c.length :: (as ++ dds)) (ρ.c ++ [.obj x []]) with
  | some (.ok .non κ) => some (.ok (.ref ρ.c.length) ⟨ρ.e, κ⟩)
  | some (.er y κ) => some (.er y ⟨ρ.e, κ⟩)
  | _ => none
theorem Nw.obj {tb : TBs} {W H : Hp} (x : Kn W H) (nt : NoT W) (t : TBok tb H) {p dx C : Addr} (hp : H p = none) (hd : H dx = none) (ne : dx ≠ p) : Nw tb W H W (upd (upd H dx (.own p)) p (.ins C dx [])) := by
  have n1 := Nw.own (p := dx) (o := .own p) x nt t hd
  have hp' : upd H dx (.own p) p = none := by rw [upd_ne ne.symm]; exact hp
  exact n1.trans (Nw.own (p := p) (o := .ins C dx []) n1.x n1.nt n1.t hp')
theorem se_make {x : Str} {n m : Nat} {F : FF} {t : TA} {ma : MM (List D)} {dvs : List V} {dds : List D} (h : SA c t ma) (hn : Ln n ma) (hd : dvs.length = m) (rd : ∀ g, Reps c.K g dvs dds) : SE c (tMakeSD (c.ca x) (spG c (n + m + 1) F) dvs (WE (wOf c.ca c.xw)) t) (mMake x F dds ma) := by
  intro ρ rr e s σ hs Q q
  rcases bnd_cases e with ⟨as, ρ1, e1, e2⟩ | ⟨z, ρ1, e1, rfl⟩
  · refine h ρ _ e1 s σ hs _ fun vs s1 hs1 t1 rv => ?_
    have q1 := q.after t1
    have len := hn _ _ _ e1
    intro p dx hp hdx ne
    have nw := Nw.obj (C := c.ca x) hs1.cr.ex hs1.cr.nt hs1.cr.tb hp hdx ne
    obtain ⟨k1, k2, k3⟩ := hs1.add nw hp (cl := .obj x []) ⟨dx, [], upd_same, by rw [upd_ne ne, upd_same], .nil⟩ (fun C d fs z => by rw [upd_same] at z; cases z; exact hdx)
    have fin : ∃ r, F (.ref ρ1.c.length :: (as ++ dds)) (ρ1.c ++ [.obj x []]) = some r ∧ (match r with
        | .ok d κ' => ∀ v s', CS c κ' s' → Tr ⟨⟨s1.W, s1.A ++ [p]⟩, upd (upd s1.H dx (.own p)) p (.ins (c.ca x) dx [])⟩ s' → Rep c.K s'.g v d → v = .non ∧ Q (.ref p) s'.H
        | .er z κ' => ∀ s', CS c κ' s' → Tr ⟨⟨s1.W, s1.A ++ [p]⟩, upd (upd s1.H dx (.own p)) p (.ins (c.ca x) dx [])⟩ s' → WE (wOf c.ca c.xw) σ (.ref (c.ca z)) none s'.H) := by
      have e2 : (match F (.ref ρ1.c.length :: (as ++ dds)) (ρ1.c ++ [.obj x []]) with
        | some (.ok .non κ) => some (Res.ok (.ref ρ1.c.length) ⟨ρ1.e, κ⟩)
        | some (.er y κ) => some (.er y ⟨ρ1.e, κ⟩)
        | _ => none) = some rr := e2
      split at e2
      · rename_i κ' eF
        cases e2
        refine ⟨_, eF, fun v s' a b r => ?_⟩
        cases r
        exact ⟨rfl, q1 (.ref p) s' (hs1.call a (k2.trans b)) (k2.trans b) (k3.mono b.le)⟩
      · rename_i y κ' eF
        cases e2
        exact ⟨_, eF, fun s' a b => ⟨y, rfl, rfl, q1 s' (hs1.call a (k2.trans b)) (k2.trans b)⟩⟩
      · cases e2
    obtain ⟨r, hF, hpost⟩ := fin
    refine ⟨.ref ρ1.c.length :: (as ++ dds), ρ1.c ++ [.obj x []], _, r, ?_, .cons k3 ((rv.mono k2.le).append (rd _)), k1.cr, rfl, hF, hpost⟩
    rw [List.length_cons, List.length_append, rv.length, len, hd]
  · exact h ρ _ e1 s σ hs _ fun s1 a b => q s1 a b
/-- a def, as it is called -/
structure Cal (P : Program) (w : World) (c : Bs) (mg : Str → Option Value) (base : Heap) (x : Str) (k : Nat) (ps : List Str) (F : FF) (f : Addr) (fd : FuncData) : Prop where
  ok : FnOk P w c.K mg base (L2.CX P w) k f fd ps (spG c ps.length F)
  g : mg x = some (.ref f)
  kp : PySem.W.keepIn c.K (.ref f) = true
  b : Binds c.K fd ps []
/-- a method of the class x -/
structure CalM (P : Program) (w : World) (c : Bs) (mg : Str → Option Value) (base : Heap) (x m : Str) (k : Nat) (ps : List Str) (F : FF) (f : Addr) (fd : FuncData) : Prop where
  ok : FnOk P w c.K mg base (L2.CX P w) k f fd ps (spG c ps.length F)
  cl : Cls c.K (c.ca x)
  me : Meth c.K (c.ca x) m f
  b : Binds c.K fd ps []
/-- a class that is made; ds, dvs, dds: the defaults of its __init__ -/
structure CalN (P : Program) (w : World) (c : Bs) (mg : Str → Option Value) (base : Heap) (x : Str) (k : Nat) (ps : List Str) (F : FF) (f : Addr) (fd : FuncData) (ds : List Value) (dvs : List V) (dds : List D) : Prop where
  ok : FnOk P w c.K mg base (L2.CX P w) k f fd ps (spG c ps.length F)
  make : Mk c.K (c.ca x) f
  g : mg x = some (.ref (c.ca x))
  b : Binds c.K fd ps ds
  d : Vals dvs ds
  rd : ∀ g, Reps c.K g dvs dds
/-- an own class of exceptions -/
structure ExcC (c : Bs) (mg : Str → Option Value) (x : Str) : Prop where
  g : mg x = some (.ref (c.ca x))
  ex : PySem.W.excIn c.K (c.ca x) [.type "ValueError", .type "Exception", .type "BaseException", .type "object"] "ValueError.__new__" = true
  kp : PySem.W.keepIn c.K (.ref (c.ca x)) = true
  xm : PySem.W.exmOne c.K (.ref (c.ca x)) (.ref (c.ca x)) = some true
  sub : PySem.W.subIn c.K (.ref (c.ca x)) (.type "BaseException") = some true
  ty : PySem.W.typeIn c.K (.ref (c.ca x)) = some (.type "type")
end
end PH
end
section
set_option maxHeartbeats 0
namespace PH
open PySem PySem.Spec PyProof.Rows L2

/-! ### dicts as data -/
def valD : List (Key × D) → Key → Option D
  | [], _ => none
  | p :: r, k => if p.1 = k then some p.2 else valD r k
def putKd (kd : List (Key × D)) (k : Key) (d : D) : List (Key × D) :=
  if (kd.any fun kv => decide (kv.1 = k)) = true then kd.map (fun kv => if kv.1 = k then (kv.1, d) else kv) else kd ++ [(k, d)]
def dropKd (kd : List (Key × D)) (k : Key) : List (Key × D) := kd.filter fun kv => decide (kv.1 ≠ k)
def keyOf : D → Option Key
  | .int i => some (.inl i)
  | .str x => some (.inr x)
  | _ => none
def kD : Key → D
  | .inl i => .int i
  | .inr x => .str x
section
variable {K : PySem.W.Frag} {g : Gh}
theorem keyOf_rep {v : V} {d : D} {k : Key} (r : Rep K g v d) (e : keyOf d = some k) : v = kV k := by
  cases d <;> try (cases e; done)
  · cases e; cases r; rfl
  · cases e; cases r; rfl
theorem kD_rep (k : Key) : Rep K g (kV k) (kD k) := by
  cases k with
  | inl i => exact .int i
  | inr x => exact .str x
theorem RepK.val {k : Key} : ∀ {kv : List (Key × V)} {kd : List (Key × D)}, RepK K g kv kd → (∃ v d, valV kv k = some v ∧ valD kd k = some d ∧ Rep K g v d) ∨ (valV kv k = none ∧ valD kd k = none)
  | _, _, .nil => .inr ⟨rfl, rfl⟩
  | _, _, .cons (k := k') (v := v) (d := d) r t => by
    by_cases h : k' = k
    · exact .inl ⟨v, d, valV_pos h, by unfold valD; rw [if_pos h], r⟩
    · have e1 := valV_neg (p := (k', v)) (r := ‹List (Key × V)›) (k := k) h
      rcases RepK.val t with ⟨a, b, h1, h2, h3⟩ | ⟨h1, h2⟩
      · exact .inl ⟨a, b, e1.trans h1, by unfold valD; rw [if_neg h]; exact h2, h3⟩
      · exact .inr ⟨e1.trans h1, by unfold valD; rw [if_neg h]; exact h2⟩
theorem RepK.keys : ∀ {kv : List (Key × V)} {kd : List (Key × D)}, RepK K g kv kd → kv.map (·.1) = kd.map (·.1)
  | _, _, .nil => rfl
  | _, _, .cons r t => by rw [List.map_cons, List.map_cons, RepK.keys t]
theorem RepK.any {k : Key} {kv : List (Key × V)} {kd : List (Key × D)} (r : RepK K g kv kd) : (kv.any fun p => decide (p.1 = k)) = (kd.any fun p => decide (p.1 = k)) := by
  have e := r.keys
  have h1 : (kv.any fun p => decide (p.1 = k)) = (kv.map (·.1)).any fun q => decide (q = k) := by rw [List.any_map]; rfl
  have h2 : (kd.any fun p => decide (p.1 = k)) = (kd.map (·.1)).any fun q => decide (q = k) := by rw [List.any_map]; rfl
  rw [h1, h2, e]
theorem RepK.append : ∀ {kv kv2 : List (Key × V)} {kd kd2 : List (Key × D)}, RepK K g kv kd → RepK K g kv2 kd2 → RepK K g (kv ++ kv2) (kd ++ kd2)
  | _, _, _, _, .nil, h => h
  | _, _, _, _, .cons r t, h => .cons r (RepK.append t h)
theorem RepK.mapPut {k : Key} {v : V} {d : D} (rv : Rep K g v d) : ∀ {kv : List (Key × V)} {kd : List (Key × D)}, RepK K g kv kd → RepK K g (kv.map fun p => if p.1 = k then (p.1, v) else p) (kd.map fun p => if p.1 = k then (p.1, d) else p)
  | _, _, .nil => .nil
  | _, _, .cons (k := k') r t => by
    rw [List.map_cons, List.map_cons]
    by_cases h : k' = k
    · rw [if_pos h, if_pos h]; exact .cons rv (RepK.mapPut rv t)
    · rw [if_neg h, if_neg h]; exact .cons r (RepK.mapPut rv t)
theorem RepK.put {k : Key} {v : V} {d : D} {kv : List (Key × V)} {kd : List (Key × D)} (rv : Rep K g v d) (r : RepK K g kv kd) : RepK K g (putK kv k v) (putKd kd k d) := by
  unfold putK putKd
  rw [r.any]
  split
  · exact r.mapPut rv
  · exact r.append (.cons rv .nil)
theorem RepK.drop {k : Key} : ∀ {kv : List (Key × V)} {kd : List (Key × D)}, RepK K g kv kd → RepK K g (dropK kv k) (dropKd kd k)
  | _, _, .nil => .nil
  | _, _, .cons (k := k') r t => by
    unfold dropK dropKd
    rw [List.filter_cons, List.filter_cons]
    by_cases h : k' ≠ k
    · rw [if_pos (decide_eq_true h), if_pos (decide_eq_true h)]; exact .cons r (RepK.drop t)
    · rw [if_neg (by simpa using h), if_neg (by simpa using h)]; exact RepK.drop t
end

/-! ### d[k], k in d, .. -/
section
variable {c : Cc}
def dGetO (κ : List Cell) (x y : D) : Option (Option D) := (seeD κ x).bind fun kd => (keyOf y).map fun k => valD kd k
theorem dget_rep {κ : List Cell} {s : Ws} {x y : V} {a b : D} {o : Option D} (w : CS c κ s) (rx : Rep c.K s.g x a) (ry : Rep c.K s.g y b) (e : dGetO κ a b = some o) : ∃ p ov, x = .ref p ∧ DGet s.H p y ov ∧ ((ov = none ∧ o = none) ∨ ∃ v d, ov = some v ∧ o = some d ∧ Rep c.K s.g v d) := by
  unfold dGetO at e
  cases e1 : seeD κ a with
  | none => rw [e1] at e; cases e
  | some kd =>
    rw [e1] at e
    obtain ⟨k, e2, rfl⟩ := Option.map_eq_some_iff.mp e
    obtain ⟨p, kv, rfl, h1, h2⟩ := seeD_rep w rx e1
    refine ⟨p, valV kv k, rfl, .inl ⟨kv, k, h1, keyOf_rep ry e2, rfl⟩, ?_⟩
    rcases h2.val (k := k) with ⟨v, d, q1, q2, q3⟩ | ⟨q1, q2⟩
    · exact .inr ⟨v, d, q1, q2, q3⟩
    · exact .inl ⟨q1, q2⟩
def rDGet : R2 := fun x y H Q => ∃ a v, x = .ref a ∧ DGet H a y (some v) ∧ Q v H
def rDIn : R2 := fun y x H Q => ∃ a o, x = .ref a ∧ DGet H a y o ∧ Q (.bl o.isSome) H
def rDNin : R2 := fun y x H Q => ∃ a o, x = .ref a ∧ DGet H a y o ∧ Q (.bl (!o.isSome)) H
def dDGet (κ : List Cell) (x y : D) : Option D := (dGetO κ x y).bind id
def dDIn (κ : List Cell) (y x : D) : Option D := (dGetO κ x y).map fun o => .bl o.isSome
def dDNin (κ : List Cell) (y x : D) : Option D := (dGetO κ x y).map fun o => .bl (!o.isSome)
theorem rk_dget : RKp c rDGet dDGet := by
  intro κ s x y a b d w rx ry e Q q
  unfold dDGet at e
  cases e1 : dGetO κ a b with
  | none => rw [e1] at e; cases e
  | some o =>
    rw [e1] at e
    have e : o = some d := e
    obtain ⟨p, ov, rfl, h1, h2⟩ := dget_rep w rx ry e1
    rcases h2 with ⟨_, h2⟩ | ⟨v, d', rfl, h2, h3⟩
    · rw [h2] at e; cases e
    · rw [h2] at e; cases e
      exact ⟨p, v, rfl, h1, q v s.W s.H w.nref h3⟩
theorem rk_din : RKp c rDIn dDIn := by
  intro κ s x y a b d w rx ry e Q q
  obtain ⟨o, e1, rfl⟩ := Option.map_eq_some_iff.mp e
  obtain ⟨p, ov, rfl, h1, h2⟩ := dget_rep w ry rx e1
  refine ⟨p, ov, rfl, h1, q _ s.W s.H w.nref ?_⟩
  rcases h2 with ⟨rfl, rfl⟩ | ⟨v, d', rfl, rfl, h3⟩
  · exact .bl _
  · exact .bl _
theorem rk_dnin : RKp c rDNin dDNin := by
  intro κ s x y a b d w rx ry e Q q
  obtain ⟨o, e1, rfl⟩ := Option.map_eq_some_iff.mp e
  obtain ⟨p, ov, rfl, h1, h2⟩ := dget_rep w ry rx e1
  refine ⟨p, ov, rfl, h1, q _ s.W s.H w.nref ?_⟩
  rcases h2 with ⟨rfl, rfl⟩ | ⟨v, d', rfl, rfl, h3⟩
  · exact .bl _
  · exact .bl _
theorem se_dget {td ty : TE} {md my : MM D} (h : SE c td md) (k : SE c ty my) : SE c (tDGet td ty) (mOpK dDGet md my) := se_opK rk_dget h k
theorem se_din {td ty : TE} {md my : MM D} (h : SE c ty my) (k : SE c td md) : SE c (tDIn ty td) (mOpK dDIn my md) := se_opK rk_din h k
theorem se_dnin {td ty : TE} {md my : MM D} (h : SE c ty my) (k : SE c td md) : SE c (tDNotIn ty td) (mOpK dDNin my md) := se_opK rk_dnin h k
/-- a dict is there -/
theorem seeD_is {κ : List Cell} {s : Ws} {x : V} {a : D} {kd : List (Key × D)} (w : CS c κ s) (rx : Rep c.K s.g x a) (e : seeD κ a = some kd) : ∃ p, x = .ref p ∧ IsD s.H p := by
  obtain ⟨p, kv, rfl, h1, h2⟩ := seeD_rep w rx e
  exact ⟨p, rfl, .inl ⟨kv, h1⟩⟩
/-- d.get(k) -/
def mDGet1 (md my : MM D) : MM D := bnd md fun d => bnd (lftK fun κ => seeD κ d) fun _ => bnd my fun y => lftK fun κ => (dGetO κ d y).map fun o => o.getD .non
theorem se_dget1 {td ty : TE} {md my : MM D} (h : SE c td md) (k : SE c ty my) : SE c (tDGet1 td ty) (mDGet1 md my) := by
  intro ρ rr e s σ hs Q q
  refine sx_go (t := td) h e hs q fun x d ρ s e hs rx q tr => ?_
  rcases bnd_cases e with ⟨kd, ρ1, e1, e2⟩ | ⟨z, ρ1, e1, _⟩
  · obtain ⟨kd', e3, e4⟩ := lftK_cases e1
    cases e4
    obtain ⟨p, rfl, hp⟩ := seeD_is hs.cr rx e3
    refine ⟨p, rfl, hp, ?_⟩
    refine sx_go (t := ty) k e2 hs q fun y b ρ s2 e hs2 ry q tr2 => ?_
    obtain ⟨d', e5, rfl⟩ := lftK_cases e
    obtain ⟨o, e6, rfl⟩ := Option.map_eq_some_iff.mp e5
    obtain ⟨p', ov, e7, h1, h2⟩ := dget_rep hs2.cr (rx.mono tr2.le) ry e6
    cases e7
    refine ⟨ov, h1, ?_⟩
    rcases h2 with ⟨rfl, rfl⟩ | ⟨v, d', rfl, rfl, h3⟩
    · exact q .non _ hs2 .refl .non
    · exact q v _ hs2 .refl h3
  · obtain ⟨_, _, e4⟩ := lftK_cases e1
    cases e4
/-- d.get(k, x) -/
def mDGet2 (md my mx : MM D) : MM D := bnd md fun d => bnd (lftK fun κ => seeD κ d) fun _ => bnd my fun y => bnd mx fun z => lftK fun κ => (dGetO κ d y).map fun o => o.getD z
theorem se_dget2 {td ty tx : TE} {md my mx : MM D} (h : SE c td md) (k : SE c ty my) (l : SE c tx mx) : SE c (tDGet2 td ty tx) (mDGet2 md my mx) := by
  intro ρ rr e s σ hs Q q
  refine sx_go (t := td) h e hs q fun x d ρ s e hs rx q tr => ?_
  rcases bnd_cases e with ⟨kd, ρ1, e1, e2⟩ | ⟨z, ρ1, e1, _⟩
  · obtain ⟨kd', e3, e4⟩ := lftK_cases e1
    cases e4
    obtain ⟨p, rfl, hp⟩ := seeD_is hs.cr rx e3
    refine ⟨p, rfl, hp, ?_⟩
    refine sx_go (t := ty) k e2 hs q fun y b ρ s2 e hs2 ry q tr2 => ?_
    refine sx_go (t := tx) l e hs2 q fun z zd ρ s3 e hs3 rz q tr3 => ?_
    obtain ⟨d', e5, rfl⟩ := lftK_cases e
    obtain ⟨o, e6, rfl⟩ := Option.map_eq_some_iff.mp e5
    obtain ⟨p', ov, e7, h1, h2⟩ := dget_rep hs3.cr ((rx.mono tr2.le).mono tr3.le) (ry.mono tr3.le) e6
    cases e7
    refine ⟨ov, h1, ?_⟩
    rcases h2 with ⟨rfl, rfl⟩ | ⟨v, d', rfl, rfl, h3⟩
    · exact q z _ hs3 .refl rz
    · exact q v _ hs3 .refl h3
  · obtain ⟨_, _, e4⟩ := lftK_cases e1
    cases e4
/-- {} -/
theorem se_dnew : SE c tDNewK (newC (.dct [])) := by
  intro ρ rr e s σ hs Q q
  cases e
  exact post_dct hs q .nil

/-! ### a dict changed -/
def putDK (x y v : D) : MS := fun ρ => match x with
  | .ref n => match ρ.c[n]? with
    | some (.dct kd) => match keyOf y with
      | some k => if kd.length < cap then some (.nx (ρ.setc n (.dct (putKd kd k v)))) else none
      | none => none
    | _ => none
  | _ => none
theorem putDK_ok {x y v : V} {dx dy dv : D} {ρ : St} {o : Out} {s : Ws} {σ : L2.St} {E : Ends} (e : putDK dx dy dv ρ = some o) (hs : SR c ρ s σ) (rx : Rep c.K s.g x dx) (ry : Rep c.K s.g y dy) (rv : Rep c.K s.g v dv) (q : PostS c E s o) :
    ∃ a H', x = .ref a ∧ DPut s.H a y v H' ∧ E.nx σ H' := by
  unfold putDK at e
  cases dx <;> try (cases e; done)
  rename_i n
  dsimp only at e
  split at e
  · rename_i kd e1
    split at e
    · rename_i k e2
      split at e
      · rename_i hl
        cases e
        cases rx with
        | @ref a _ hA =>
        obtain ⟨kv, h1, h2⟩ := hs.cr.cell e1 hA
        obtain ⟨k1, k2⟩ := hs.change (u := .dK (putK kv k v)) (cl2 := .dct (putKd kd k dv)) e1 hA trivial (fun _ _ _ z => nomatch z) ⟨_, upd_same, h2.put rv⟩
        exact ⟨a, _, rfl, .inl ⟨kv, k, h1, keyOf_rep ry e2, cap_lt (by rw [h2.length]; exact hl), rfl⟩, q _ σ k1 k2⟩
      · cases e
    · cases e
  · cases e
def mDPut (md my mv : MM D) : MS := mE mv fun v => mE md fun x => mE my fun y => putDK x y v
theorem ss_dput {td ty tv : TE} {md my mv : MM D} (h : SE c td md) (k : SE c ty my) (l : SE c tv mv) : SS c (sDPut td ty tv) (mDPut md my mv) := by
  intro ρ o e s σ hs E q
  refine ss_go (t := tv) l e hs q fun v dv ρ s e hs rv q tr => ?_
  refine ss_go (t := td) h e hs q fun x dx ρ s1 e hs1 rx q tr1 => ?_
  refine ss_go (t := ty) k e hs1 q fun y dy ρ s2 e hs2 ry q tr2 => ?_
  exact putDK_ok e hs2 (rx.mono tr2.le) ry ((rv.mono tr1.le).mono tr2.le) q
def mDAug (op : D → D → Option D) (md my mv : MM D) : MS := mE md fun x => mE my fun y => mE (lftK fun κ => dDGet κ x y) fun old => mE mv fun w => mE (lftK fun κ => op (see1 κ old) (see1 κ w)) fun z => putDK x y z
theorem ss_daug {td ty tv : TE} {r : V → V → Hp → VK → Prop} {op : D → D → Option D} {md my mv : MM D} (ho : ROp c r op) (h : SE c td md) (k : SE c ty my) (l : SE c tv mv) : SS c (sDAug td ty tv r) (mDAug op md my mv) := by
  intro ρ o e s σ hs E q
  refine ss_go (t := td) h e hs q fun x dx ρ s1 e hs1 rx q tr1 => ?_
  refine ss_go (t := ty) k e hs1 q fun y dy ρ s2 e hs2 ry q tr2 => ?_
  rcases mE_cases e with ⟨old, ρ', e1, e2⟩ | ⟨x', ρ', e1, rfl⟩
  · obtain ⟨old', e3, e4⟩ := lftK_cases e1
    cases e4
    have rx2 := rx.mono tr2.le
    unfold dDGet at e3
    cases e5 : dGetO ρ.c dx dy with
    | none => rw [e5] at e3; cases e3
    | some ov =>
    rw [e5] at e3
    have e3 : ov = some old := e3
    obtain ⟨a, ov', rfl, h1, h2⟩ := dget_rep hs2.cr rx2 ry e5
    rcases h2 with ⟨_, h2⟩ | ⟨v, d', rfl, h2, h3⟩
    · rw [h2] at e3; cases e3
    rw [h2] at e3; cases e3
    refine ⟨a, v, rfl, h1, ?_⟩
    refine ss_go (t := tv) l e2 hs2 q fun w dw ρ s3 e hs3 rw' q tr3 => ?_
    rcases mE_cases e with ⟨z, ρ', e6, e7⟩ | ⟨x', ρ', e6, rfl⟩
    · obtain ⟨z', e8, e9⟩ := lftK_cases e6
      cases e9
      refine ho _ s3 v w _ _ _ hs3.cr (see1_rep hs3.cr (h3.mono tr3.le)) (see1_rep hs3.cr rw') e8 _ fun u W' H' n ru => ?_
      obtain ⟨hs4, t4⟩ := hs3.nw n
      obtain ⟨a', H2, e10, p1, p2⟩ := putDK_ok (s := ⟨⟨W', s3.A⟩, H'⟩) (x := .ref a) (y := y) (v := u) e7 hs4 ((rx2.mono tr3.le).mono t4.le) ((ry.mono tr3.le).mono t4.le) ru (q.after t4)
      cases e10
      exact ⟨H2, p1, p2⟩
    · obtain ⟨_, _, e9⟩ := lftK_cases e6
      cases e9
  · obtain ⟨_, _, e4⟩ := lftK_cases e1
    cases e4
def mDDel (md my : MM D) : MS := mE md fun x => mE my fun y ρ => match x with
  | .ref n => match ρ.c[n]? with
    | some (.dct kd) => match keyOf y with
      | some k => if (valD kd k).isSome = true then some (.nx (ρ.setc n (.dct (dropKd kd k)))) else none
      | none => none
    | _ => none
  | _ => none
theorem ss_ddel {td ty : TE} {md my : MM D} (h : SE c td md) (k : SE c ty my) : SS c (sDDel td ty) (mDDel md my) := by
  intro ρ o e s σ hs E q
  refine ss_go (t := td) h e hs q fun x dx ρ s1 e hs1 rx q tr1 => ?_
  refine ss_go (t := ty) k e hs1 q fun y dy ρ s2 e hs2 ry q tr2 => ?_
  cases dx <;> try (cases e; done)
  rename_i n
  dsimp only at e
  split at e
  · rename_i kd e1
    split at e
    · rename_i k e2
      split at e
      · rename_i hl
        cases e
        cases rx.mono tr2.le with
        | @ref a _ hA =>
        obtain ⟨kv, h1, h2⟩ := hs2.cr.cell e1 hA
        obtain ⟨k1, k2⟩ := hs2.change (u := .dK (dropK kv k)) (cl2 := .dct (dropKd kd k)) e1 hA trivial (fun _ _ _ z => nomatch z) ⟨_, upd_same, h2.drop⟩
        refine ⟨a, kv, k, rfl, h1, keyOf_rep ry e2, ?_, q _ σ k1 k2⟩
        rcases h2.val (k := k) with ⟨v, d, q1, q2, q3⟩ | ⟨q1, q2⟩
        · rw [q1]; rfl
        · rw [q2] at hl; cases hl
      · cases e
    · cases e
  · cases e
/-- d.pop(k, x): as a value; the dict is changed -/
def mDPop2 (md my mx : MM D) : MM D := bnd md fun x => bnd (lftK fun κ => seeD κ x) fun _ => bnd my fun y => bnd mx fun z ρ => match x with
  | .ref n => match ρ.c[n]? with
    | some (.dct kd) => match keyOf y with
      | some k => match valD kd k with
        | some d => some (.ok d (ρ.setc n (.dct (dropKd kd k))))
        | none => some (.ok z ρ)
      | none => none
    | _ => none
  | _ => none
theorem se_dpop2 {td ty tx : TE} {md my mx : MM D} (h : SE c td md) (k : SE c ty my) (l : SE c tx mx) : SE c (tDPop2 td ty tx) (mDPop2 md my mx) := by
  intro ρ rr e s σ hs Q q
  refine sx_go (t := td) h e hs q fun x d ρ s e hs rx q tr => ?_
  rcases bnd_cases e with ⟨kd, ρ1, e1, e2⟩ | ⟨z, ρ1, e1, _⟩
  · obtain ⟨kd', e3, e4⟩ := lftK_cases e1
    cases e4
    obtain ⟨p, rfl, hp⟩ := seeD_is hs.cr rx e3
    refine ⟨p, rfl, hp, ?_⟩
    refine sx_go (t := ty) k e2 hs q fun y b ρ s2 e hs2 ry q tr2 => ?_
    refine sx_go (t := tx) l e hs2 q fun z zd ρ s3 e hs3 rz q tr3 => ?_
    cases d <;> try (cases e; done)
    rename_i n
    dsimp only at e
    split at e
    · rename_i kd2 e5
      split at e
      · rename_i k e6
        cases (rx.mono tr2.le).mono tr3.le with
        | @ref a _ hA =>
        obtain ⟨kv, h1, h2⟩ := hs3.cr.cell e5 hA
        refine ⟨kv, k, h1, keyOf_rep (ry.mono tr3.le) e6, fun v hv => ?_, fun hv => ?_⟩
        · rcases h2.val (k := k) with ⟨v', d, q1, q2, q3⟩ | ⟨q1, q2⟩
          · rw [hv] at q1; cases q1
            rw [q2] at e
            cases e
            obtain ⟨k1, k2⟩ := hs3.change (u := .dK (dropK kv k)) (cl2 := .dct (dropKd kd2 k)) e5 hA trivial (fun _ _ _ z => nomatch z) ⟨_, upd_same, h2.drop⟩
            exact q v _ k1 k2 (q3.mono k2.le)
          · rw [hv] at q1; cases q1
        · rcases h2.val (k := k) with ⟨v', d, q1, q2, q3⟩ | ⟨q1, q2⟩
          · rw [hv] at q1; cases q1
          · rw [q2] at e
            cases e
            exact q z _ hs3 .refl rz
      · cases e
    · cases e
  · obtain ⟨_, _, e4⟩ := lftK_cases e1
    cases e4
/-- d.pop(k) -/
def mDPop1 (md my : MM D) : MM D := bnd md fun x => bnd (lftK fun κ => seeD κ x) fun _ => bnd my fun y ρ => match x with
  | .ref n => match ρ.c[n]? with
    | some (.dct kd) => match keyOf y with
      | some k => match valD kd k with
        | some d => some (.ok d (ρ.setc n (.dct (dropKd kd k))))
        | none => none
      | none => none
    | _ => none
  | _ => none
theorem se_dpop1 {td ty : TE} {md my : MM D} (h : SE c td md) (k : SE c ty my) : SE c (tDPop1 td ty) (mDPop1 md my) := by
  intro ρ rr e s σ hs Q q
  refine sx_go (t := td) h e hs q fun x d ρ s e hs rx q tr => ?_
  rcases bnd_cases e with ⟨kd, ρ1, e1, e2⟩ | ⟨z, ρ1, e1, _⟩
  · obtain ⟨kd', e3, e4⟩ := lftK_cases e1
    cases e4
    obtain ⟨p, rfl, hp⟩ := seeD_is hs.cr rx e3
    refine ⟨p, rfl, hp, ?_⟩
    refine sx_go (t := ty) k e2 hs q fun y b ρ s3 e hs3 ry q tr3 => ?_
    cases d <;> try (cases e; done)
    rename_i n
    dsimp only at e
    split at e
    · rename_i kd2 e5
      split at e
      · rename_i k e6
        cases rx.mono tr3.le with
        | @ref a _ hA =>
        obtain ⟨kv, h1, h2⟩ := hs3.cr.cell e5 hA
        rcases h2.val (k := k) with ⟨v, d, q1, q2, q3⟩ | ⟨q1, q2⟩
        · rw [q2] at e
          cases e
          obtain ⟨k1, k2⟩ := hs3.change (u := .dK (dropK kv k)) (cl2 := .dct (dropKd kd2 k)) e5 hA trivial (fun _ _ _ z => nomatch z) ⟨_, upd_same, h2.drop⟩
          exact ⟨kv, k, v, h1, keyOf_rep ry e6, q1, q v _ k1 k2 (q3.mono k2.le)⟩
        · rw [q2] at e
          cases e
      · cases e
    · cases e
  · obtain ⟨_, _, e4⟩ := lftK_cases e1
    cases e4
end
end PH
end
section
set_option maxHeartbeats 0
namespace PH
open PySem PySem.Spec PyProof.Rows L2

/-! ### {k: v, ..} -/
inductive RepP (K : PySem.W.Frag) (g : Gh) : List (V × V) → List (D × D) → Prop
  | nil : RepP K g [] []
  | cons {x y : V} {a b : D} {ps : List (V × V)} {ds : List (D × D)} : Rep K g x a → Rep K g y b → RepP K g ps ds → RepP K g ((x, y) :: ps) ((a, b) :: ds)
def mPairs : List (MM D × MM D) → MM (List (D × D))
  | [] => ret []
  | (mk, mv) :: r => bnd mk fun a => bnd mv fun b => bnd (mPairs r) fun ps => ret ((a, b) :: ps)
inductive SPs (c : Cc) : List (TE × TE) → List (MM D × MM D) → Prop
  | nil : SPs c [] []
  | cons {tk tv : TE} {mk mv : MM D} {ts : List (TE × TE)} {ms : List (MM D × MM D)} : SE c tk mk → SE c tv mv → SPs c ts ms → SPs c ((tk, tv) :: ts) ((mk, mv) :: ms)
section
variable {c : Cc}
theorem sx_pairs : ∀ {ts : List (TE × TE)} {ms : List (MM D × MM D)}, SPs c ts ms → Sx c (RepP c.K) (tPairs ts) (mPairs ms)
  | _, _, .nil => by
    intro ρ rr e s σ hs Q q
    cases e
    exact q [] s hs .refl .nil
  | _, _, .cons (tk := tk) (tv := tv) (ts := ts) h k r => by
    intro ρ rr e s σ hs Q q
    refine sx_go (t := tk) h e hs q fun x a ρ s1 e hs1 rx q tr1 => ?_
    refine sx_go (t := tv) k e hs1 q fun y b ρ s2 e hs2 ry q tr2 => ?_
    refine sx_go (t := tPairs ts) (sx_pairs r) e hs2 q fun ps ds ρ s3 e hs3 rp q tr3 => ?_
    cases e
    exact q _ s3 hs3 .refl (.cons ((rx.mono tr2.le).mono tr3.le) (ry.mono tr3.le) rp)
def keysOf : List (D × D) → Option (List (Key × D))
  | [] => some []
  | (a, b) :: r => (keyOf a).bind fun k => (keysOf r).map fun t => (k, b) :: t
def mergeKd (kd more : List (Key × D)) : List (Key × D) := more.foldl (fun acc kv => putKd acc kv.1 kv.2) kd
theorem RepK.merge {K : PySem.W.Frag} {g : Gh} : ∀ {kv2 : List (Key × V)} {kd2 : List (Key × D)} {kv : List (Key × V)} {kd : List (Key × D)}, RepK K g kv2 kd2 → RepK K g kv kd → RepK K g (mergeK kv kv2) (mergeKd kd kd2)
  | _, _, _, _, .nil, h => h
  | _, _, kv, kd, .cons (k := k) (v := v) (vs := vs) (d := d) (ds := ds) r t, h => show RepK K g (mergeK (putK kv k v) vs) (mergeKd (putKd kd k d) ds) from RepK.merge t (h.put r)
theorem keysOf_rep {K : PySem.W.Frag} {g : Gh} : ∀ {ps : List (V × V)} {ds : List (D × D)} {kd : List (Key × D)}, RepP K g ps ds → keysOf ds = some kd → ∃ kv, ps = kv.map (fun p => (kV p.1, p.2)) ∧ RepK K g kv kd
  | _, _, _, .nil, e => by cases e; exact ⟨[], rfl, .nil⟩
  | _, _, _, .cons (a := a) rx ry t, e => by
    unfold keysOf at e
    cases e1 : keyOf a with
    | none => rw [e1] at e; cases e
    | some k =>
      rw [e1] at e
      obtain ⟨kd', e2, rfl⟩ := Option.map_eq_some_iff.mp e
      obtain ⟨kv, h1, h2⟩ := keysOf_rep t e2
      refine ⟨(k, _) :: kv, ?_, .cons ry h2⟩
      rw [List.map_cons, ← h1, keyOf_rep rx e1]
def mDisp (ms : List (MM D × MM D)) : MM D := bnd (mPairs ms) fun ps ρ => match keysOf ps with
  | some kd => if kd.length ≤ 15 then newC (.dct (mergeKd [] kd)) ρ else none
  | none => none
/-- a thing of nobody's is changed -/
theorem cs_change {b : Bs} {κ : List Cell} {s : Ws} {L : Addr} {u u' : HO} (h : CS b κ s) (hL : s.H L = some u) (lu : Lx u) (nu : ∀ q, u ≠ .own q) (wL : s.W L = none) (nL : ¬ OwnsA s L) : CS b κ ⟨s.g, upd s.H L u'⟩ := by
  refine ⟨h.len, fun n cl e => ?_, h.fr, h.inj, fun a o q => ?_, h.nt, h.tb.ext fun a o q n1 => ?_⟩
  · obtain ⟨p, h1, h2⟩ := h.cel n cl e
    have hp : p ≠ L := fun z => nL (.inl (z ▸ CS.mem h1))
    refine ⟨p, h1, h2.mono (Le.refl _) (fun u _ q => (upd_ne hp).trans q) fun d q => ?_⟩
    have hd : d ≠ L := fun z => by rw [z, hL] at q; cases q; exact nu _ rfl
    exact (upd_ne hd).trans q
  · have : a ≠ L := fun z => by rw [z, wL] at q; cases q
    show upd s.H L u' a = some o ∨ ∃ od kv, o = .dK kv ∧ upd s.H L u' a = some (.frz od o)
    rw [upd_ne this]; exact h.ex a o q
  · have : a ≠ L := fun z => by rw [z, hL] at q; cases q; exact n1 lu
    exact (upd_ne this).trans q
theorem tr_change {s0 s : Ws} {L : Addr} {u' : HO} (t : Tr s0 s) (hL : s0.H L = none) (nL : L ∉ s.A) : Tr s0 ⟨s.g, upd s.H L u'⟩ := by
  refine ⟨t.w, t.a, t.n, fun a u h1 h0 h2 h3 => ?_, fun a z => t.o a ?_, fun a h => ?_, fun a od w q => ?_⟩
  · have : a ≠ L := fun z => by rw [z, hL] at h2; cases h2
    show upd s.H L u' a = some u
    rw [upd_ne this]; exact t.f a u h1 h0 h2 h3
  · rcases z with z | ⟨x, hx, C, fs, z⟩
    · exact .inl z
    · have hxL : x ≠ L := fun w => nL (w ▸ hx)
      have z : upd s.H L u' x = some (.ins C a fs) := z
      rw [upd_ne hxL] at z
      exact .inr ⟨x, hx, C, fs, z⟩
  · have : a ≠ L := fun z => h (by rw [z]; exact hL)
    show upd s.H L u' a ≠ none
    rw [upd_ne this]; exact t.p a h
  · have : a ≠ L := fun z => by rw [z, hL] at q; cases q
    show upd s.H L u' a = _
    rw [upd_ne this]; exact t.z a od w q
theorem owns_change {s : Ws} {L : Addr} {u' : HO} (nL : ¬ OwnsA s L) : ¬ OwnsA ⟨s.g, upd s.H L u'⟩ L := fun z => by
  rcases z with z | ⟨x, hx, C, fs, z⟩
  · exact nL (.inl z)
  · have hxL : x ≠ L := fun w => nL (.inl (w ▸ hx))
    have z : upd s.H L u' x = some (.ins C L fs) := z
    rw [upd_ne hxL] at z
    exact nL (.inr ⟨x, hx, C, fs, z⟩)
theorem se_disp {ts : List (TE × TE)} {ms : List (MM D × MM D)} (h : SPs c ts ms) : SE c (tDisp ts) (mDisp ms) := by
  intro ρ rr e s σ hs Q q p hp
  have n0 := Nw.own (p := p) (o := .dK []) hs.cr.ex hs.cr.nt hs.cr.tb hp
  obtain ⟨hs1, t1⟩ := hs.nw n0
  have nL1 : ¬ OwnsA ⟨⟨s.W, s.A⟩, upd s.H p (.dK [])⟩ p := owns_change (s := s) (hs.cr.free hp)
  rcases bnd_cases e with ⟨ps, ρ1, e1, e2⟩ | ⟨x, ρ1, e1, rfl⟩
  · refine sx_pairs h ρ _ e1 ⟨⟨s.W, s.A⟩, upd s.H p (.dK [])⟩ σ hs1 _ fun vs s2 hs2 t2 rp => ?_
    obtain ⟨k1, k2, k3⟩ := own_tr (u := .dK []) t2 upd_same (fun _ z => nomatch z) (hs.cr.wfree hp) nL1
    have e2 : (match keysOf ps with
      | some kd => if kd.length ≤ 15 then newC (.dct (mergeKd [] kd)) ρ1 else none
      | none => none) = some rr := e2
    split at e2
    · rename_i kd e3
      split at e2
      · rename_i hl
        cases e2
        obtain ⟨kv, h1, h2⟩ := keysOf_rep rp e3
        refine ⟨k1, kv, h1, by rw [h2.length]; exact hl, ?_⟩
        have c3 := cs_change (u' := .dK (mergeK [] kv)) hs2.cr k1 trivial (fun _ z => nomatch z) k2 k3
        have t3 := tr_change (u' := .dK (mergeK [] kv)) (t1.trans t2) hp (fun z => k3 (.inl z))
        obtain ⟨c4, t4, le4, last⟩ := cs_cell (cl := .dct (mergeKd [] kd)) c3 t3 hp ⟨_, upd_same, RepK.merge h2 .nil⟩ (fun C d fs z => by
          have z : upd s2.H p (.dK (mergeK [] kv)) p = some (.ins C d fs) := z
          rw [upd_same] at z; cases z) k2 (owns_change k3)
        exact q (.ref p) ⟨⟨s2.W, s2.A ++ [p]⟩, upd s2.H p (.dK (mergeK [] kv))⟩ (hs2.le' c4 le4) t4 (.ref last)
      · cases e2
    · cases e2
  · exact sx_pairs h ρ _ e1 ⟨⟨s.W, s.A⟩, upd s.H p (.dK [])⟩ σ hs1 _ fun s2 hs2 t2 => q s2 hs2 (t1.trans t2)
end
end PH
end
section
set_option maxHeartbeats 0
namespace PH
open PySem PySem.Spec PyProof.Rows L2

/-! ### sorted texts, sorted ints: there is one -/
def leS (a b : Str) : Bool := !ltCps b.cps.toList a.cps.toList
theorem leS_iff {a b : Str} : leS a b = true ↔ a.cps.toList ≤ b.cps.toList := by
  unfold leS
  rw [ltCps_eq, Bool.not_eq_true', decide_eq_false_iff_not]
  exact List.not_lt
theorem leS_trans (a b d : Str) (h : leS a b = true) (k : leS b d = true) : leS a d = true := leS_iff.mpr (List.le_trans (leS_iff.mp h) (leS_iff.mp k))
theorem leS_total (a b : Str) : (leS a b || leS b a) = true := by
  rw [Bool.or_eq_true, leS_iff, leS_iff]
  exact List.le_total _ _
theorem leS_anti {a b : Str} (h : leS a b = true) (k : leS b a = true) : a = b := Str.ext' (Array.toList_inj.mp (List.le_antisymm (leS_iff.mp h) (leS_iff.mp k)))
theorem rising_pw : ∀ (l : List Str) (p : Str), risingS p l = true → (p :: l).Pairwise fun a b => leS a b = true
  | [], p, _ => by simp
  | x :: r, p, h => by
    have h : (!ltCps x.cps.toList p.cps.toList && risingS x r) = true := h
    rw [Bool.and_eq_true] at h
    have ih := rising_pw r x h.2
    refine List.pairwise_cons.mpr ⟨fun y hy => ?_, ih⟩
    rcases List.mem_cons.mp hy with rfl | hy
    · exact h.1
    · exact leS_trans p x y h.1 ((List.pairwise_cons.mp ih).1 y hy)
theorem sorted_pw {l : List Str} (h : sortedS l = true) : l.Pairwise fun a b => leS a b = true := by
  cases l with
  | nil => exact .nil
  | cons x r => exact rising_pw r x h
def sortS (xs : List Str) : List Str := xs.mergeSort leS
theorem sortS_eq {xs ys : List Str} (p : ys.Perm xs) (h : sortedS ys = true) : ys = sortS xs :=
  List.Perm.eq_of_pairwise (le := fun a b => leS a b = true) (fun a b _ _ => leS_anti) (sorted_pw h) (List.pairwise_mergeSort leS_trans leS_total xs) (p.trans (List.mergeSort_perm xs leS).symm)
def sortI (xs : List Int) : List Int := xs.mergeSort fun a b => decide (a ≤ b)
theorem sortI_eq {xs ys : List Int} (p : ys.Perm xs) (h : ys.Pairwise (· ≤ ·)) : ys = sortI xs := by
  refine List.Perm.eq_of_pairwise (le := fun a b : Int => a ≤ b) (fun a b _ _ => Int.le_antisymm) h ?_ (p.trans (List.mergeSort_perm xs _).symm)
  have := List.pairwise_mergeSort (le := fun a b : Int => decide (a ≤ b)) (fun a b d h k => by
    have h := of_decide_eq_true h
    have k := of_decide_eq_true k
    exact decide_eq_true (Int.le_trans h k)) (fun a b => by
    rw [Bool.or_eq_true, decide_eq_true_iff, decide_eq_true_iff]; exact Int.le_total a b) xs
  exact this.imp of_decide_eq_true

/-! ### built-ins that take a dict as well -/
section
variable {X : Cx} {f : Value} {r r' : List V → Hp → VK → Prop}
def rOrC (r r' : List V → Hp → VK → Prop) : List V → Hp → VK → Prop := fun xs H Q => r xs H Q ∨ r' xs H Q
theorem CallR.or (h : CallR X f r) (k : CallR X f r') : CallR X f (rOrC r r') := by
  intro pins s σ H xs us Q I rv q
  rcases q with q | q
  · exact h pins s σ H xs us Q I rv q
  · exact k pins s σ H xs us Q I rv q
def rLnD : List V → Hp → VK → Prop := fun xs H Q => ∃ a kvs, xs = [V.ref a] ∧ Rd H a (.dK kvs) ∧ Q (.int kvs.length) H
theorem call_lenR : CallR X (.builtin "len") rLnD := by
  intro pins s σ H xs us Q I r h
  obtain ⟨a, kvs, rfl, ha, q⟩ := h
  obtain ⟨u, rfl, ru⟩ := vals1 r
  cases ru
  exact d_len I ha fun t s' I' => ⟨.int kvs.length, H, I', ⟨t, rfl⟩, q⟩
def rLnA (K : PySem.W.Frag) : List V → Hp → VK → Prop := rOrC (fun xs H Q => ∃ x n, xs = [x] ∧ LenV K x H n ∧ Q (.int n) H) rLnD
theorem call_lenA : CallR X (.builtin "len") (rLnA X.K) := CallR.or call_len call_lenR
def rLsD : List V → Hp → VK → Prop := fun xs H Q => ∃ (a : Addr) (kvs : List (Key × V)), xs = [.ref a] ∧ Rd H a (.dK kvs) ∧ ∀ p, H p = none → Q (.ref p) (upd H p (.lst (kvs.map fun kv => kV kv.1)))
def rDctD : List V → Hp → VK → Prop := fun xs H Q => ∃ (a : Addr) (kvs : List (Key × V)), xs = [.ref a] ∧ Rd H a (.dK kvs) ∧ ∀ p, H p = none → Q (.ref p) (upd H p (.dK kvs))
def rDctP (K : PySem.W.Frag) : List V → Hp → VK → Prop := fun xs H Q => ∃ (a : Addr) (ps : List Addr) (kvs : List (Key × V)), xs = [.ref a] ∧ SqL K H a (ps.map V.ref) ∧ Paired (fun p kv => SqT K H p [kV kv.1, kv.2]) ps kvs ∧
    ∀ p, H p = none → Q (.ref p) (upd H p (.dK (mergeK [] kvs)))
def rSoD : List V → Hp → VK → Prop := fun xs H Q => ∃ (a : Addr) (kvs : List (Key × V)) (ks : List Str), xs = [.ref a] ∧ Rd H a (.dK kvs) ∧ kvs.map (·.1) = ks.map Sum.inr ∧ ks.length < 64 ∧
    ∀ ys p, ys.Perm ks → sortedS ys = true → H p = none → Q (.ref p) (upd H p (.lst (ys.map V.str)))
def rSoDI : List V → Hp → VK → Prop := fun xs H Q => ∃ (a : Addr) (kvs : List (Key × V)) (ks : List Int), xs = [.ref a] ∧ Rd H a (.dK kvs) ∧ kvs.map (·.1) = ks.map Sum.inl ∧ ks.length < 64 ∧
    ∀ (ys : List Int) (p : Addr), ys.Perm ks → ys.Pairwise (· ≤ ·) → H p = none → Q (.ref p) (upd H p (.lst (ys.map V.int)))
def rSoA (K : PySem.W.Frag) : List V → Hp → VK → Prop := rOrC (rSortedS K) (rOrC (rSortedI K) (rOrC rSoD rSoDI))
theorem call_sortedA (hc : X.calm = true) : CallR X (.builtin "sorted") (rSoA X.K) := CallR.or cr_sortedS (CallR.or cr_sortedI (CallR.or (call_sortedD hc) (call_sortedDI hc)))
def rLsA (K : PySem.W.Frag) : List V → Hp → VK → Prop := rOrC (rLs K) rLsD
def rDctA (K : PySem.W.Frag) : List V → Hp → VK → Prop := rOrC rDctD (rDctP K)
theorem call_dictA (hc : X.calm = true) : CallR X (.type "dict") (rDctA X.K) := CallR.or call_dictD (call_dictP hc)
theorem call_listA (hc : X.calm = true) (h : CallR X (.type "list") (rLs X.K)) : CallR X (.type "list") (rLsA X.K) := CallR.or h (call_listD hc)
end

section
variable {c : Cc}
def dLenA : List D → Option D
  | [.dct kd] => some (.int (kd.length : Int))
  | as => dLen as
theorem rca_lenA : RCa c (rLnA c.K) dLenA := by
  intro κ s xs as d w rx e Q q
  by_cases h : ∃ kd, as = [.dct kd]
  · obtain ⟨kd, rfl⟩ := h
    cases e
    cases rx with
    | cons r1 r2 =>
      cases r2
      cases r1 with
      | @dct p kv _ h1 h2 => exact .inr ⟨p, kv, rfl, h1, q _ s.W s.H w.nref (by rw [h2.length]; exact .int _)⟩
  · have e : dLen as = some d := by
      unfold dLenA at e
      split at e
      · exact absurd ⟨_, rfl⟩ h
      · exact e
    exact .inl (rca_len κ s xs as d w rx e Q q)
def strsD : List D → Option (List Str)
  | [] => some []
  | .str i :: ds => (strsD ds).map (i :: ·)
  | _ => none
theorem strs_reps {K : PySem.W.Frag} {g : Gh} : ∀ {vs : List V} {ds : List D} {ns : List Str}, Reps K g vs ds → strsD ds = some ns → vs = ns.map V.str
  | _, _, _, .nil, e => by cases e; rfl
  | _, _, ns, .cons (d := d) r1 r2, e => by
    cases d <;> try (cases e; done)
    obtain ⟨ms, e1, rfl⟩ := Option.map_eq_some_iff.mp e
    cases r1
    rw [List.map_cons, strs_reps r2 e1]
theorem reps_strs {K : PySem.W.Frag} {g : Gh} : ∀ ns : List Str, Reps K g (ns.map V.str) (ns.map D.str)
  | [] => .nil
  | n :: ns => .cons (.str n) (reps_strs ns)
theorem reps_ints {K : PySem.W.Frag} {g : Gh} : ∀ ns : List Int, Reps K g (ns.map V.int) (ns.map D.int)
  | [] => .nil
  | n :: ns => .cons (.int n) (reps_ints ns)
def keyS : List (Key × D) → Option (List Str)
  | [] => some []
  | (.inr x, _) :: r => (keyS r).map (x :: ·)
  | _ => none
def keyI : List (Key × D) → Option (List Int)
  | [] => some []
  | (.inl x, _) :: r => (keyI r).map (x :: ·)
  | _ => none
theorem keyS_map : ∀ {kd : List (Key × D)} {ks : List Str}, keyS kd = some ks → kd.map (·.1) = ks.map Sum.inr
  | [], _, e => by cases e; rfl
  | (.inr x, d) :: r, _, e => by
    obtain ⟨ms, e1, rfl⟩ := Option.map_eq_some_iff.mp e
    rw [List.map_cons, List.map_cons, keyS_map e1]
  | (.inl x, d) :: r, _, e => by cases e
theorem keyI_map : ∀ {kd : List (Key × D)} {ks : List Int}, keyI kd = some ks → kd.map (·.1) = ks.map Sum.inl
  | [], _, e => by cases e; rfl
  | (.inl x, d) :: r, _, e => by
    obtain ⟨ms, e1, rfl⟩ := Option.map_eq_some_iff.mp e
    rw [List.map_cons, List.map_cons, keyI_map e1]
  | (.inr x, d) :: r, _, e => by cases e
/-- sorted of texts, or else of ints -/
def sortL (ss : Option (List Str)) (is : Option (List Int)) : Option (List D) := match ss with
  | some xs => if xs.length < 64 then some ((sortS xs).map .str) else none
  | none => match is with
    | some xs => some ((sortI xs).map .int)
    | none => none
def dSorted : List D → Option (List D)
  | [.lst ds] => sortL (strsD ds) (intsD ds)
  | [.dct kd] => if kd.length < 64 then sortL (keyS kd) (keyI kd) else none
  | _ => none
/-- what gives a new list by values -/
def ROwnC (c : Cc) (r : List V → Hp → VK → Prop) (op : List D → Option (List D)) : Prop := ∀ (κ : List Cell) (s : Ws) xs as ds, CS c κ s → RepsH c.K s.g s.H xs as → op as = some ds → ∃ vs, Reps c.K s.g vs ds ∧ ∀ Q : VK, (∀ p, s.H p = none → Q (.ref p) (upd s.H p (.lst vs))) → r xs s.H Q
theorem ROwnC.data {r : List V → Hp → VK → Prop} {op : List D → Option (List D)} (h : ROwnC c r op) : RCa c r (fun as => (op as).map .lst) := by
  intro κ s xs as d w rx e Q q
  obtain ⟨ds, e1, rfl⟩ := Option.map_eq_some_iff.mp e
  obtain ⟨vs, hv, k⟩ := h κ s xs as ds w rx e1
  exact k Q (rx_lst w hv Q q)
theorem own_sorted : ROwnC c (rSoA c.K) dSorted := by
  intro κ s xs as ds w rx e
  unfold dSorted at e
  split at e
  · rename_i es
    cases rx with
    | cons r1 r2 =>
    cases r2
    cases r1 with
    | @lst p vs _ h1 h2 =>
    unfold sortL at e
    split at e
    · rename_i ss e1
      split at e
      · rename_i hl
        cases e
        have := strs_reps h2 e1
        subst this
        exact ⟨_, reps_strs _, fun Q q => .inl ⟨p, ss, rfl, .inl (.inl h1), hl, fun ys a pm st ha => by rw [sortS_eq pm st]; exact q a ha⟩⟩
      · cases e
    · split at e
      · rename_i is e1
        cases e
        have := ints_reps h2 e1
        subst this
        exact ⟨_, reps_ints _, fun Q q => .inr (.inl ⟨p, is, rfl, .inl (.inl h1), fun ys a pm st ha => by rw [sortI_eq pm st]; exact q a ha⟩)⟩
      · cases e
  · rename_i kd
    cases rx with
    | cons r1 r2 =>
    cases r2
    cases r1 with
    | @dct p kv _ h1 h2 =>
    split at e
    · rename_i hl
      unfold sortL at e
      split at e
      · rename_i ss e1
        split at e
        · rename_i hl
          cases e
          exact ⟨_, reps_strs _, fun Q q => .inr (.inr (.inl ⟨p, kv, ss, rfl, h1, h2.keys.trans (keyS_map e1), hl, fun ys a pm st ha => by rw [sortS_eq pm st]; exact q a ha⟩))⟩
        · cases e
      · split at e
        · rename_i is e1
          cases e
          have e2 := keyI_map e1
          have hl' : is.length < 64 := by
            have := congrArg List.length e2
            rw [List.length_map, List.length_map] at this
            omega
          exact ⟨_, reps_ints _, fun Q q => .inr (.inr (.inr ⟨p, kv, is, rfl, h1, h2.keys.trans e2, hl', fun ys a pm st ha => by rw [sortI_eq pm st]; exact q a ha⟩))⟩
        · cases e
    · cases e
  · cases e
def dListA : List D → Option (List D)
  | [.dct kd] => some (kd.map fun p => kD p.1)
  | as => dList as
theorem reps_keys {K : PySem.W.Frag} {g : Gh} : ∀ {kv : List (Key × V)} {kd : List (Key × D)}, RepK K g kv kd → Reps K g (kv.map fun p => kV p.1) (kd.map fun p => kD p.1)
  | _, _, .nil => .nil
  | _, _, .cons _ t => .cons (kD_rep _) (reps_keys t)
theorem own_listA : ROwnC c (rLsA c.K) dListA := by
  intro κ s xs as ds w rx e
  by_cases h : ∃ kd, as = [.dct kd]
  · obtain ⟨kd, rfl⟩ := h
    cases e
    cases rx with
    | cons r1 r2 =>
      cases r2
      cases r1 with
      | @dct p kv _ h1 h2 => exact ⟨_, reps_keys h2, fun Q q => .inr ⟨p, kv, rfl, h1, q⟩⟩
  · have e : dList as = some ds := by
      unfold dListA at e
      split at e
      · exact absurd ⟨_, rfl⟩ h
      · exact e
    obtain ⟨vs, h1, h2⟩ := own_list w rx e
    exact ⟨vs, h1, fun Q q => .inl (h2 Q q)⟩
theorem se_ownC {r : List V → Hp → VK → Prop} {op : List D → Option (List D)} {ta : TA} {ma : MM (List D)} (ho : ROwnC c r op) (ha : SA c ta ma) :
    SE c (tCB r ta) (bnd ma fun a => bnd (lftK fun κ => op (a.map (see1 κ))) fun ds => newC (.lst ds)) := se_cbC ho ha

/-! dict(..) -/
def pairsD : List D → Option (List (Key × D))
  | [] => some []
  | .tup [a, b] :: r => (keyOf a).bind fun k => (pairsD r).map fun t => (k, b) :: t
  | _ => none
def dDict : List D → Option (List (Key × D))
  | [.dct kd] => some kd
  | [.lst ds] => (pairsD ds).map (mergeKd [])
  | _ => none
theorem pairs_rep {κ : List Cell} {s : Ws} (w : CS c κ s) : ∀ {ds : List D} {vs : List V} {kd : List (Key × D)}, Reps c.K s.g vs ds → pairsD ds = some kd → ∃ ps kv, vs = ps.map V.ref ∧ Paired (fun p kv => SqT c.K s.H p [kV kv.1, kv.2]) ps kv ∧ RepK c.K s.g kv kd
  | [], _, _, r, e => by cases e; cases r; exact ⟨[], [], rfl, .nil, .nil⟩
  | d :: ds, _, kd, .cons r1 r2, e => by
    unfold pairsD at e
    split at e
    · rename_i h; cases h
    · rename_i a b r h
      cases h
      cases e1 : keyOf a with
      | none => rw [e1] at e; cases e
      | some k =>
        rw [e1] at e
        obtain ⟨t, e2, rfl⟩ := Option.map_eq_some_iff.mp e
        obtain ⟨ps, kv, h1, h2, h3⟩ := pairs_rep w r2 e2
        cases r1 with
        | @tup p us _ hx rr =>
        cases rr with
        | cons q1 q2 =>
        cases q2 with
        | cons q3 q4 =>
        cases q4
        refine ⟨p :: ps, (k, _) :: kv, by rw [h1, List.map_cons], .cons ?_ h2, .cons q3 h3⟩
        have := w.ex.st hx
        rw [keyOf_rep q1 e1] at this
        exact this
    · cases e
def mDict (ma : MM (List D)) : MM D := bnd ma fun a => bnd (lftK fun κ => dDict (a.map (see1 κ))) fun kd => newC (.dct kd)
theorem se_dict {ta : TA} {ma : MM (List D)} (ha : SA c ta ma) : SE c (tCB (rDctA c.K) ta) (mDict ma) := by
  intro ρ rr e s σ hs Q q
  refine sx_go (t := ta) ha e hs q fun x a ρ s e hs rx q tr => ?_
  rcases bnd_cases e with ⟨kd, ρ', e1, e2⟩ | ⟨x', ρ', e1, _⟩
  · obtain ⟨kd', e3, e4⟩ := lftK_cases e1
    cases e4
    cases e2
    have rx := see1_reps hs.cr rx
    generalize a.map (see1 ρ.c) = as at rx e3
    unfold dDict at e3
    split at e3
    · cases e3
      cases rx with
      | cons r1 r2 =>
      cases r2
      cases r1 with
      | @dct p kv _ h1 h2 => exact .inl ⟨p, kv, rfl, h1, post_dct hs q h2⟩
    · obtain ⟨ps, e5, rfl⟩ := Option.map_eq_some_iff.mp e3
      cases rx with
      | cons r1 r2 =>
      cases r2
      cases r1 with
      | @lst p vs _ h1 h2 =>
      obtain ⟨as, kv, rfl, k1, k2⟩ := pairs_rep hs.cr h2 e5
      exact .inr ⟨p, as, kv, rfl, .inl (.inl h1), k1, post_dct hs q (RepK.merge k2 .nil)⟩
    · cases e3
  · obtain ⟨ds', e3, e4⟩ := lftK_cases e1
    cases e4
end

/-! ### truth, also of dicts -/
def TruA (K : PySem.W.Frag) (x : V) (H : Hp) (k : Bool) : Prop := TruV K x H k ∨ ∃ a kvs, x = .ref a ∧ Rd H a (.dK kvs) ∧ k = !kvs.isEmpty
def tTruA (K : PySem.W.Frag) (te : TE) : TT := fun σ H Q => te σ H fun x H1 => ∃ k, TruA K x H1 k ∧ Q k H1
theorem pt_truA {X : Cx} {a : Expr} {ta : TE} (ha : PE X a ta) (he : ∀ whole, isTrue a X.env whole = (do let v ← whole; standAt a.pos; holding [v] (truthy v))) : PT X a (tTruA X.K ta) := by
  refine ⟨fun pins s σ H Q I h => ?_⟩
  refine isTrue_plain (thn (ha.run pins s σ H _ I h) fun v s1 ⟨x, H1, I1, r1, k, q1, q2⟩ => ?_) (he _)
  rcases q1 with q1 | ⟨b, kvs, rfl, q1, rfl⟩
  · exact tru_ok pins s1 σ H1 x v Q I1 r1 ⟨k, q1, q2⟩
  · cases r1
    exact d_truth I1 q1 fun s' I' => ⟨H1, I', q2⟩
section
variable {c : Cc}
def truA : D → Option Bool
  | .dct kd => some (!kd.isEmpty)
  | d => truD d
theorem truV_rep {κ : List Cell} {s : Ws} {x : V} {d : D} {b : Bool} (w : CS c κ s) (rx : RepH c.K s.g s.H x d) (e3 : truD d = some b) : TruV c.K x s.H b := by
  cases d with
  | non => cases e3; cases rx; exact rfl
  | bl b => cases e3; cases rx; exact rfl
  | int i => cases e3; cases rx; exact rfl
  | str z =>
    cases rx
    have e : (if z.length ≤ cap then some ((z.length : Int) != 0) else none) = some b := e3
    split at e
    · rename_i h
      cases e
      exact ⟨cap_le h, rfl⟩
    · cases e
  | tup ds =>
    cases e3
    cases rx with
    | @tup p xs _ hx r1 => exact .inr (.inl ⟨xs, w.ex.st hx, by rw [isEmpty_reps r1]⟩)
  | lst ds =>
    cases e3
    cases rx with
    | @lst p xs _ hx r1 => exact .inl ⟨xs, .inl (.inl hx), by rw [isEmpty_reps r1]⟩
  | dct ds => cases e3
  | frz ds => cases e3
  | ref n => cases e3
theorem st_truA {te : TE} {m : MM D} (h : SE c te m) : ST c (tTruA c.K te) (bnd m fun d => lftK fun κ => truA (see1 κ d)) := by
  intro ρ rr e s σ hs Q q
  refine sx_go (t := te) h e hs q fun x a ρ s e hs rx q tr => ?_
  obtain ⟨b, e3, rfl⟩ := lftK_cases e
  have rx := see1_rep hs.cr rx
  generalize see1 ρ.c a = d at rx e3
  refine ⟨b, ?_, q _ s hs .refl rfl⟩
  unfold truA at e3
  split at e3
  · cases e3
    cases rx with
    | @dct p kv _ h1 h2 => exact .inr ⟨p, kv, rfl, h1, by rw [isEmpty_repk h2]⟩
  · exact .inl (truV_rep hs.cr rx e3)
end
end PH
end
section
set_option maxHeartbeats 0
namespace PH
open PySem PySem.Spec PyProof.Rows L2

/-! ### a dict that is walked is locked: one that is known for good, for good -/
def tLk (td : TE) : TE := fun σ H Q => td σ H fun x H1 => ∃ d kvs, x = .ref d ∧ ((∃ o, H1 d = some (.frz o (.dK kvs)) ∧ Q x H1) ∨ (H1 d = some (.dK kvs) ∧ ∀ o, Q x (upd H1 d (.frz o (.dK kvs)))))
theorem pe_lk {X : Cx} {e : Expr} {td : TE} (h : PE X e td) : PE X e (tLk td) := by
  refine ⟨fun pins s σ H Q I q => ?_⟩
  refine thn (h.run pins s σ H _ I q) fun u s1 ⟨x, H1, I1, rx, d, kvs, ex, q1⟩ => ?_
  subst ex
  rcases q1 with ⟨o, _, q1⟩ | ⟨hd, q1⟩
  · exact ⟨.ref d, H1, I1, rx, q1⟩
  · obtain ⟨od, I2⟩ := I1.lock hd trivial
    exact ⟨.ref d, _, I2, rx, q1 od⟩
/-- .. one that is a cell, while the walk goes on -/
def tLkS (t : TS) : TS := fun D σ H => tLock t D σ H ∨ t D σ H
def tLkE (t : TE) : TE := fun σ H Q => tLockE t σ H Q ∨ t σ H Q
theorem ps_lkS {X : Cx} {st : Stmt} {t : TS} (h : PS X st t) : PS X st (tLkS t) := by
  refine ⟨fun pins s σ H D I q => ?_⟩
  rcases q with q | q
  · exact (ps_lock h).run pins s σ H D I q
  · exact h.run pins s σ H D I q
theorem pe_lkE {X : Cx} {e : Expr} {t : TE} (h : PE X e t) : PE X e (tLkE t) := by
  refine ⟨fun pins s σ H D I q => ?_⟩
  rcases q with q | q
  · exact (pe_lock h).run pins s σ H D I q
  · exact h.run pins s σ H D I q
section
variable {c : Cc} {b : Bs} {κ : List Cell} {s s0 : Ws} {σ : L2.St} {ρ : St}
theorem cs_lockW (h : CS b κ s) {a : Addr} {kv : List (Key × V)} {o : Obj} (hW : s.W a = some (.dK kv)) (hH : s.H a = some (.dK kv)) : CS b κ ⟨s.g, upd s.H a (.frz o (.dK kv))⟩ ∧ Tr s ⟨s.g, upd s.H a (.frz o (.dK kv))⟩ := by
  have ne : ∀ p ∈ s.A, p ≠ a := fun p hp z => by
    have := h.fr p hp
    rw [z, hW] at this; cases this
  refine ⟨⟨h.len, fun n cl e => ?_, h.fr, h.inj, fun x u q => ?_, h.nt, h.tb.ext fun x u q nl => ?_⟩, ⟨Ex.refl _, List.prefix_refl _, fun _ _ _ w => w, fun x u _ w q _ => ?_, fun x q => ?_, fun x q => ?_, fun x od w q => ?_⟩⟩
  · obtain ⟨p, h1, h2⟩ := h.cel n cl e
    exact ⟨p, h1, h2.mono (Le.refl _) (fun u _ q => (upd_ne (ne p (CS.mem h1))).trans q) fun d q => by
      have : d ≠ a := fun z => by rw [z, hH] at q; cases q
      exact (upd_ne this).trans q⟩
  · have q : s.W x = some u := q
    by_cases ha : x = a
    · rw [ha, hW] at q
      cases q
      rw [ha]
      exact .inr ⟨o, kv, rfl, upd_same⟩
    · show upd s.H a (.frz o (.dK kv)) x = some u ∨ ∃ od kv', u = .dK kv' ∧ upd s.H a (.frz o (.dK kv)) x = some (.frz od u)
      rw [upd_ne ha]; exact h.ex x u q
  · have : x ≠ a := fun z => by rw [z, hH] at q; cases q; exact nl trivial
    exact (upd_ne this).trans q
  · have : x ≠ a := fun z => by rw [z, hW] at w; cases w
    exact (upd_ne this).trans q
  · rcases q with q | ⟨y, hy, C, fs, q⟩
    · exact .inl (.inl q)
    · have q : upd s.H a (.frz o (.dK kv)) y = some (.ins C x fs) := q
      rw [upd_ne (ne y hy)] at q
      exact .inl (.inr ⟨y, hy, C, fs, q⟩)
  · by_cases ha : x = a
    · show upd s.H a (.frz o (.dK kv)) x ≠ none
      rw [ha, upd_same]; exact fun z => nomatch z
    · show upd s.H a (.frz o (.dK kv)) x ≠ none
      rw [upd_ne ha]; exact q
  · have : x ≠ a := fun z => by rw [z, hH] at q; cases q
    exact (upd_ne this).trans q
theorem sr_lockW (h : SR b ρ s σ) {a : Addr} {kv : List (Key × V)} {o : Obj} (hW : s.W a = some (.dK kv)) (hH : s.H a = some (.dK kv)) : SR b ρ ⟨s.g, upd s.H a (.frz o (.dK kv))⟩ σ ∧ Tr s ⟨s.g, upd s.H a (.frz o (.dK kv))⟩ := by
  obtain ⟨h1, h2⟩ := cs_lockW (o := o) h.cr hW hH
  exact ⟨⟨h1, h.len, h.loc⟩, h2⟩
/-- what is walked: a dict known for good, or one that is locked -/
def walkD (κ : List Cell) : D → Option (List (Key × D))
  | .dct kd => some kd
  | .ref n => match κ[n]? with
    | some (.lck kd) => some kd
    | _ => none
  | _ => none
/-- the locked dict at a -/
structure LkAt (K : PySem.W.Frag) (s : Ws) (a : Addr) (o : Obj) (kv : List (Key × V)) (kd : List (Key × D)) : Prop where
  h : s.H a = some (.frz o (.dK kv))
  r : RepK K s.g kv kd
theorem walk_lk {d : D} {kd : List (Key × D)} {td : TE} {Q : VK} {x : V} {R : V → Hp → Prop} (hs : SR c ρ s σ) (rx : Rep c.K s.g x d) (e : walkD ρ.c d = some kd) (q : ∀ a o kv s', x = .ref a → SR c ρ s' σ → Tr s s' → LkAt c.K s' a o kv kd → R x s'.H) :
    ∃ a kvs, x = .ref a ∧ ((∃ o, s.H a = some (.frz o (.dK kvs)) ∧ R x s.H) ∨ (s.H a = some (.dK kvs) ∧ ∀ o, R x (upd s.H a (.frz o (.dK kvs))))) := by
  unfold walkD at e
  split at e
  · cases e
    cases rx with
    | @dct a kv _ h1 h2 =>
    refine ⟨a, kv, rfl, ?_⟩
    rcases hs.cr.ex a _ h1 with h | ⟨o, kv', e, h⟩
    · refine .inr ⟨h, fun o => ?_⟩
      obtain ⟨k1, k2⟩ := sr_lockW (o := o) hs h1 h
      exact q a o kv _ rfl k1 k2 ⟨upd_same, h2⟩
    · cases e
      exact .inl ⟨o, h, q a o kv s rfl hs .refl ⟨h, h2⟩⟩
  · rename_i n
    split at e
    · rename_i kd' e1
      cases e
      cases rx with
      | @ref a _ hA =>
      obtain ⟨kv, od, h1, h2⟩ := hs.cr.cell e1 hA
      exact ⟨a, kv, rfl, .inl ⟨od, h1, q a od kv s rfl hs .refl ⟨h1, h2⟩⟩⟩
    · cases e
  · cases e
theorem repk_get {K : PySem.W.Frag} {g : Gh} : ∀ {kv : List (Key × V)} {kd : List (Key × D)} {i : Nat} {k : Key} {v : V}, RepK K g kv kd → kv[i]? = some (k, v) → ∃ d, kd[i]? = some (k, d) ∧ Rep K g v d
  | _, _, _, _, _, .nil, e => by simp at e
  | _, _, 0, _, _, .cons r _, e => by simp at e; obtain ⟨rfl, rfl⟩ := e; exact ⟨_, rfl, r⟩
  | _, _, i + 1, k, v, .cons _ t, e => by
    obtain ⟨d, h1, h2⟩ := repk_get (i := i) t (by simpa using e)
    exact ⟨d, by simpa using h1, h2⟩
theorem wok_keys {a : Addr} {o : Obj} {kv : List (Key × V)} {kd : List (Key × D)} (l : LkAt c.K s0 a o kv kd) : WOk c s0 (Itk a o kv) (kd.map fun p => kD p.1) none :=
  ⟨fun H => H a = some (.frz o (.dK kv)), fun i H x H' => H' = H ∧ ∃ k v, kv[i]? = some (k, v) ∧ x = kV k,
    ⟨fun i H hi h => ⟨h, by rw [List.length_map, ← l.r.length] at hi; exact hi⟩, fun H h => ⟨h, by rw [List.length_map, ← l.r.length]; exact Nat.le_refl _⟩, fun i H x H' hi h y => y⟩,
    fun κ s cs t _ => t.z _ _ _ l.h, fun κ s i x H' d cs t _ y e => by
      obtain ⟨rfl, k, v, e1, rfl⟩ := y
      obtain ⟨d', e2, _⟩ := repk_get l.r e1
      rw [List.getElem?_map, e2] at e
      cases e
      exact ⟨s.W, cs.nref, kD_rep k⟩⟩
theorem wok_vals {a : Addr} {o : Obj} {kv : List (Key × V)} {kd : List (Key × D)} (l : LkAt c.K s0 a o kv kd) : WOk c s0 (Itd a o kv) (kd.map fun p => p.2) none :=
  ⟨fun H => H a = some (.frz o (.dK kv)), fun i H x H' => H' = H ∧ ∃ k, kv[i]? = some (k, x),
    ⟨fun i H hi h => ⟨h, by rw [List.length_map, ← l.r.length] at hi; exact hi⟩, fun H h => ⟨h, by rw [List.length_map, ← l.r.length]; exact Nat.le_refl _⟩, fun i H x H' hi h y => y⟩,
    fun κ s cs t _ => t.z _ _ _ l.h, fun κ s i x H' d cs t _ y e => by
      obtain ⟨rfl, k, e1⟩ := y
      obtain ⟨d', e2, r⟩ := repk_get l.r e1
      rw [List.getElem?_map, e2] at e
      cases e
      exact ⟨s.W, cs.nref, r.mono t.le⟩⟩
theorem wok_pairs {a : Addr} {o : Obj} {kv : List (Key × V)} {kd : List (Key × D)} (l : LkAt c.K s0 a o kv kd) : WOk c s0 (Iti a o kv) (kd.map fun p => .tup [kD p.1, p.2]) none :=
  ⟨fun H => H a = some (.frz o (.dK kv)), fun i H x H' => ∃ T k v, kv[i]? = some (k, v) ∧ x = .ref T ∧ H T = none ∧ H' = upd H T (.tup [kV k, v]),
    ⟨fun i H hi h => ⟨h, by rw [List.length_map, ← l.r.length] at hi; exact hi⟩, fun H h => ⟨h, by rw [List.length_map, ← l.r.length]; exact Nat.le_refl _⟩, fun i H x H' hi h y => y⟩,
    fun κ s cs t _ => t.z _ _ _ l.h, fun κ s i x H' d cs t _ y e => by
      obtain ⟨T, k, v, e1, rfl, hT, rfl⟩ := y
      obtain ⟨d', e2, r⟩ := repk_get l.r e1
      rw [List.getElem?_map, e2] at e
      cases e
      have n := Nw.new (p := T) (o := .tup [kV k, v]) cs.ex cs.nt cs.tb hT trivial
      exact ⟨_, n, .tup (.inl (.inl upd_same)) (.cons (kD_rep k) (.cons ((r.mono t.le).mono n.le) .nil))⟩⟩
def mWalkD (f : Key × D → D) (m : MM D) : MM (List D × KC) := bnd m fun d => lftK fun κ => (walkD κ d).map fun kd => (kd.map f, none)
theorem si_keys {td : TE} {m : MM D} (h : SE c td m) : SI c (iKeys (tLk td)) (mWalkD (fun p => kD p.1) m) := by
  intro ρ r e s σ hs R q
  refine si_go (t := td) h e hs q fun x d ρ s e hs rx q tr => ?_
  obtain ⟨p, e1, rfl⟩ := lftK_cases e
  obtain ⟨kd, e2, rfl⟩ := Option.map_eq_some_iff.mp e1
  exact walk_lk (td := td) (Q := fun _ _ => True) (R := fun x H1 => ∃ d o, x = .ref d ∧ ((∃ kvs, H1 d = some (.frz o (.dK kvs)) ∧ R (Itk d o kvs) H1) ∨ ∃ kvs, H1 d = some (.frz o (.dT kvs)) ∧ R (Itkt d o kvs) H1)) hs rx e2 fun a o kv s' ex hs' t l => ⟨a, o, ex, .inl ⟨kv, l.h, q _ s' hs' t (wok_keys l) trivial⟩⟩
theorem si_vals {td : TE} {m : MM D} (h : SE c td m) : SI c (iVals (tLk td)) (mWalkD (fun p => p.2) m) := by
  intro ρ r e s σ hs R q
  refine si_go (t := td) h e hs q fun x d ρ s e hs rx q tr => ?_
  obtain ⟨p, e1, rfl⟩ := lftK_cases e
  obtain ⟨kd, e2, rfl⟩ := Option.map_eq_some_iff.mp e1
  exact walk_lk (td := td) (Q := fun _ _ => True) (R := fun x H1 => ∃ d o kvs, x = .ref d ∧ H1 d = some (.frz o (.dK kvs)) ∧ R (Itd d o kvs) H1) hs rx e2 fun a o kv s' ex hs' t l => ⟨a, o, kv, ex, l.h, q _ s' hs' t (wok_vals l) trivial⟩
theorem si_pairs {td : TE} {m : MM D} (h : SE c td m) : SI c (iItems (tLk td)) (mWalkD (fun p => .tup [kD p.1, p.2]) m) := by
  intro ρ r e s σ hs R q
  refine si_go (t := td) h e hs q fun x d ρ s e hs rx q tr => ?_
  obtain ⟨p, e1, rfl⟩ := lftK_cases e
  obtain ⟨kd, e2, rfl⟩ := Option.map_eq_some_iff.mp e1
  exact walk_lk (td := td) (Q := fun _ _ => True) (R := fun x H1 => ∃ d o kvs, x = .ref d ∧ H1 d = some (.frz o (.dK kvs)) ∧ R (Iti d o kvs) H1) hs rx e2 fun a o kv s' ex hs' t l => ⟨a, o, kv, ex, l.h, q _ s' hs' t (wok_pairs l) trivial⟩

/-! ### a cell's dict, locked and let go -/
theorem cs_unlock (h : CS b κ s) {n : Nat} {p : Addr} {kd : List (Key × D)} {kv : List (Key × V)} {od : Obj} (e : κ[n]? = some (.lck kd)) (ha : s.A[n]? = some p) (hp : s.H p = some (.frz od (.dK kv))) :
    CS b (κ.set n (.dct kd)) ⟨s.g, upd s.H p (.dK kv)⟩ := by
  obtain ⟨kv', od', h1, h2⟩ := h.cell e ha
  rw [hp] at h1
  cases h1
  have wne : ∀ a o, s.W a = some o → a ≠ p := fun a o q w => by
    rw [w, h.fr p (CS.mem ha)] at q; cases q
  refine ⟨by rw [List.length_set]; exact h.len, fun m cl' em => ?_, h.fr, h.inj, fun a o q => ?_, h.nt, h.tb.ext fun a o q nl => ?_⟩
  · rcases getElem_set em with ⟨rfl, rfl, _⟩ | ⟨hm, em⟩
    · exact ⟨p, ha, kv, upd_same, h2⟩
    · obtain ⟨p', h3, h4⟩ := h.cel m cl' em
      have np : p' ≠ p := h.ne h3 ha hm
      refine ⟨p', h3, h4.mono (Le.refl _) (fun v _ q => (upd_ne np).trans q) fun d q => ?_⟩
      have hd : d ≠ p := fun w => by rw [w, hp] at q; cases q
      exact (upd_ne hd).trans q
  · show upd s.H p (.dK kv) a = some o ∨ ∃ od kv', o = .dK kv' ∧ upd s.H p (.dK kv) a = some (.frz od o)
    rw [upd_ne (wne a o q)]; exact h.ex a o q
  · have ha' : a ≠ p := fun w => by
      rw [w, hp] at q; cases q
      exact nl trivial
    exact (upd_ne ha').trans q
theorem tr_unlock (t : Tr s0 s) {p : Addr} {kv : List (Key × V)} {od : Obj} (hp0 : s0.H p = some (.dK kv)) (hA : p ∈ s0.A) (hp : s.H p = some (.frz od (.dK kv))) : Tr s0 ⟨s.g, upd s.H p (.dK kv)⟩ := by
  refine ⟨t.w, t.a, t.n, fun a o h1 h2 h3 h4 => ?_, fun a z => ?_, fun a z => ?_, fun a o w z => ?_⟩
  · have : a ≠ p := fun z => h1 (.inl (z ▸ hA))
    exact (upd_ne this).trans (t.f a o h1 h2 h3 h4)
  · rcases z with z | ⟨x, hx, C, fs, z⟩
    · exact t.o a (.inl z)
    · have z : upd s.H p (.dK kv) x = some (.ins C a fs) := z
      by_cases hxp : x = p
      · rw [hxp, upd_same] at z; cases z
      · rw [upd_ne hxp] at z
        exact t.o a (.inr ⟨x, hx, C, fs, z⟩)
  · by_cases ha : a = p
    · show upd s.H p (.dK kv) a ≠ none
      rw [ha, upd_same]; exact fun z => nomatch z
    · show upd s.H p (.dK kv) a ≠ none
      rw [upd_ne ha]; exact t.p a z
  · have : a ≠ p := fun w => by rw [w, hp0] at z; cases z
    exact (upd_ne this).trans (t.z a o w z)
def unl (n : Nat) (ρ : St) : Option St := match ρ.c[n]? with
  | some (.lck kd) => some (ρ.setc n (.dct kd))
  | _ => none
def unlO (n : Nat) : Out → Option Out
  | .nx ρ => (unl n ρ).map .nx
  | .rt d ρ => (unl n ρ).map (.rt d)
  | .bk ρ => (unl n ρ).map .bk
  | .ct ρ => (unl n ρ).map .ct
  | .er x ρ => some (.er x ρ)
def mLkS (pk : St → Option D) (m : MS) : MS := fun ρ => match pk ρ with
  | some (.ref n) => match ρ.c[n]? with
    | some (.dct kd) => match m (ρ.setc n (.lck kd)) with
      | some o => unlO n o
      | none => none
    | _ => m ρ
  | _ => m ρ
theorem sr_lock {n : Nat} {p : Addr} {kd : List (Key × D)} (hs : SR c ρ s σ) (e : ρ.c[n]? = some (.dct kd)) (hA : s.A[n]? = some p) : ∃ kv, s.H p = some (.dK kv) ∧ ∀ od, SR c (ρ.setc n (.lck kd)) ⟨s.g, upd s.H p (.frz od (.dK kv))⟩ σ ∧ Tr s ⟨s.g, upd s.H p (.frz od (.dK kv))⟩ := by
  obtain ⟨kv, h1, h2⟩ := hs.cr.cell e hA
  exact ⟨kv, h1, fun od => hs.change (u := .frz od (.dK kv)) (cl2 := .lck kd) e hA trivial (fun _ _ _ z => nomatch z) ⟨kv, od, upd_same, h2⟩⟩
theorem sr_unl {n : Nat} {p : Addr} {ρ' : St} {od : Obj} {kv : List (Key × V)} (hs : SR c ρ s σ) (e : unl n ρ = some ρ') (hA : s.A[n]? = some p) (hp : s.H p = some (.frz od (.dK kv))) (t : Tr s0 s) (hp0 : s0.H p = some (.dK kv)) (hA0 : p ∈ s0.A) :
    SR c ρ' ⟨s.g, upd s.H p (.dK kv)⟩ σ ∧ Tr s0 ⟨s.g, upd s.H p (.dK kv)⟩ := by
  unfold unl at e
  split at e
  · rename_i kd e1
    cases e
    exact ⟨⟨cs_unlock hs.cr e1 hA hp, hs.len, hs.loc⟩, tr_unlock t hp0 hA0 hp⟩
  · cases e
theorem cell_at {n : Nat} {cl : Cell} (h : CS b κ s) (e : κ[n]? = some cl) : ∃ p, s.A[n]? = some p := by
  obtain ⟨p, h1, _⟩ := h.cel n cl e
  exact ⟨p, h1⟩
theorem ss_lkS {pk : St → Option D} {t : TS} {m : MS} (h : SS c t m) : SS c (tLkS t) (mLkS pk m) := by
  intro ρ o e s σ hs E q
  unfold mLkS at e
  split at e
  · rename_i n _
    split at e
    · rename_i kd e1
      split at e
      · rename_i o' e2
        obtain ⟨p, hA⟩ := cell_at hs.cr e1
        obtain ⟨kv, h1, hl⟩ := sr_lock hs e1 hA
        have hA0 := CS.mem hA
        refine .inl ⟨p, .dK kv, h1, trivial, fun od => ?_⟩
        obtain ⟨k1, k2⟩ := hl od
        refine h _ o' e2 _ σ k1 _ ?_
        cases o' with
        | nx ρ' =>
          obtain ⟨ρ3, e3, rfl⟩ := Option.map_eq_some_iff.mp e
          intro s2 σ2 a t2
          have hz := t2.z p od _ upd_same
          obtain ⟨b1, b2⟩ := sr_unl a e3 (t2.le.a _ _ hA) hz (k2.trans t2) h1 hA0
          exact ⟨hz, q _ σ2 b1 b2⟩
        | rt d ρ' =>
          obtain ⟨ρ3, e3, rfl⟩ := Option.map_eq_some_iff.mp e
          intro v s2 σ2 a t2 r
          have hz := t2.z p od _ upd_same
          obtain ⟨b1, b2⟩ := sr_unl a e3 (t2.le.a _ _ hA) hz (k2.trans t2) h1 hA0
          exact ⟨hz, q v _ σ2 b1 b2 r⟩
        | bk ρ' =>
          obtain ⟨ρ3, e3, rfl⟩ := Option.map_eq_some_iff.mp e
          intro s2 σ2 a t2
          have hz := t2.z p od _ upd_same
          obtain ⟨b1, b2⟩ := sr_unl a e3 (t2.le.a _ _ hA) hz (k2.trans t2) h1 hA0
          exact ⟨hz, q _ σ2 b1 b2⟩
        | ct ρ' =>
          obtain ⟨ρ3, e3, rfl⟩ := Option.map_eq_some_iff.mp e
          intro s2 σ2 a t2
          have hz := t2.z p od _ upd_same
          obtain ⟨b1, b2⟩ := sr_unl a e3 (t2.le.a _ _ hA) hz (k2.trans t2) h1 hA0
          exact ⟨hz, q _ σ2 b1 b2⟩
        | er x ρ' =>
          cases e
          exact fun s2 σ2 a t2 => q s2 σ2 a (k2.trans t2)
      · cases e
    · exact .inr (h ρ o e s σ hs E q)
  · exact .inr (h ρ o e s σ hs E q)
def mLkE (pk : St → Option D) (m : MM D) : MM D := fun ρ => match pk ρ with
  | some (.ref n) => match ρ.c[n]? with
    | some (.dct kd) => match m (ρ.setc n (.lck kd)) with
      | some (.ok d ρ') => (unl n ρ').map (.ok d)
      | some (.er x ρ') => some (.er x ρ')
      | none => none
    | _ => m ρ
  | _ => m ρ
theorem se_lkE {pk : St → Option D} {t : TE} {m : MM D} (h : SE c t m) : SE c (tLkE t) (mLkE pk m) := by
  intro ρ o e s σ hs E q
  unfold mLkE at e
  split at e
  · rename_i n _
    split at e
    · rename_i kd e1
      obtain ⟨p, hA⟩ := cell_at hs.cr e1
      obtain ⟨kv, h1, hl⟩ := sr_lock hs e1 hA
      have hA0 := CS.mem hA
      refine .inl ⟨p, .dK kv, h1, trivial, fun od => ?_⟩
      obtain ⟨k1, k2⟩ := hl od
      split at e
      · rename_i d ρ' e2
        obtain ⟨ρ3, e3, rfl⟩ := Option.map_eq_some_iff.mp e
        refine h _ _ e2 _ σ k1 _ fun v s2 a t2 r => ?_
        have hz := t2.z p od _ upd_same
        obtain ⟨b1, b2⟩ := sr_unl a e3 (t2.le.a _ _ hA) hz (k2.trans t2) h1 hA0
        exact ⟨hz, q v _ b1 b2 r⟩
      · rename_i x ρ' e2
        cases e
        exact h _ _ e2 _ σ k1 _ fun s2 a t2 => q s2 a (k2.trans t2)
      · cases e
    · exact .inr (h ρ o e s σ hs E q)
  · exact .inr (h ρ o e s σ hs E q)
def pkV (i : Nat) (ρ : St) : Option D := match ρ.e[i]? with
  | some (.dat d) => some d
  | _ => none
def pkF (x f : Str) (pk : St → Option D) (ρ : St) : Option D := (pk ρ).bind fun d => fldOf x f ρ.c d
end
end PH
end
section
set_option maxHeartbeats 0
namespace PH
open PySem PySem.Spec PyProof.Rows L2
/-! ### dict comprehensions -/
open Classical in
noncomputable def compD (k : KC) (g : D → St → Option St) (t : MM Bool) (ek e : MM D) (ew : List Loc) : List D → List (Key × D) → List Cell → Option (List (Key × D) × List Cell)
  | [], acc, κ => if kOk k κ then some (acc, κ) else none
  | d :: ds, acc, κ => if kOk k κ then match g d ⟨ew, κ⟩ with
    | none => none
    | some ρ1 => match t ρ1 with
      | some (.ok true ρ2) => match ek ρ2 with
        | some (.ok y ρ3) => match keyOf y with
          | some kk => match e ρ3 with
            | some (.ok z ρ4) => if acc.length < cap then compD k g t ek e ew ds (putKd acc kk z) ρ4.c else none
            | _ => none
          | none => none
        | _ => none
      | some (.ok false ρ2) => compD k g t ek e ew ds acc ρ2.c
      | _ => none
    else none
theorem compD_ok {k : KC} {g : D → St → Option St} {t : MM Bool} {ek e : MM D} {ew : List Loc} {ds : List D} {acc : List (Key × D)} {κ : List Cell} {r : List (Key × D) × List Cell} (h : compD k g t ek e ew ds acc κ = some r) : kOk k κ := by
  cases ds with
  | nil => unfold compD at h; split at h <;> first | assumption | cases h
  | cons d ds => unfold compD at h; split at h <;> first | assumption | cases h
noncomputable def mDc (m : MM (List D × KC)) (vs : List Nat) (g : D → St → Option St) (t : MM Bool) (ek e : MM D) : MM (List (Key × D)) := bnd m fun p ρ => match compD p.2 g t ek e (wipeL ρ.e vs) p.1 [] ρ.c with
  | some (ys, κ) => some (.ok ys ⟨ρ.e, κ⟩)
  | none => none
theorem dc_it {J : It} {n : Nat} {G : Hp → Prop} {Y : Nat → Hp → V → Hp → Prop} (w : Walk J n G Y) {g : TG} {tt : TT} {tk te : TE} {vs : List Nat} {σ : L2.St} {H1 : Hp} {D : Addr} {Qd : Hp → Prop} (Pv : Nat → Hp → Prop) (h0 : Pv 0 (upd H1 D (.dK []))) (hG : ∀ i H, i ≤ n → Pv i H → G H)
    (hs : ∀ i x H H', i < n → Pv i H → Y i H x H' → g x (wipe σ vs) H' fun σ2 H2 => wipe σ2 vs = wipe σ vs ∧ tt σ2 H2 fun b H3 =>
      if b = true then tk σ2 H3 fun y H4 => te σ2 H4 fun z H5 => ∃ acc k, y = kV k ∧ H5 D = some (.dK acc) ∧ acc.length < sizeLine ∧ Pv (i + 1) (upd H5 D (.dK (putK acc k z))) else Pv (i + 1) H3) (hd : ∀ H, Pv n H → Qd H) :
    ∃ W : Nat → Nat → Hp → Prop, (∃ m, W 0 m (upd H1 D (.dK []))) ∧ ∀ i m H, W i m H →
      (J.stop i H ∧ Qd H) ∨ (J.go i H ∧ ∃ Nx : Hp → Prop, (∀ H', Nx H' → ∃ m', m' < m ∧ W (i + 1) m' H') ∧ ∀ x H', J.yld i H x H' → g x (wipe σ vs) H' fun σ2 H2 => wipe σ2 vs = wipe σ vs ∧ tt σ2 H2 fun b H3 =>
        if b = true then tk σ2 H3 fun y H4 => te σ2 H4 fun z H5 => ∃ acc k, y = kV k ∧ H5 D = some (.dK acc) ∧ acc.length < sizeLine ∧ Nx (upd H5 D (.dK (putK acc k z))) else Nx H3) := by
  refine ⟨fun i m H => m = n - i ∧ i ≤ n ∧ Pv i H, ⟨n, by simp, Nat.zero_le _, h0⟩, ?_⟩
  rintro i m H ⟨rfl, hi, p⟩
  have q := hG i H hi p
  by_cases hlt : i < n
  · refine .inr ⟨w.goes i H hlt q, Pv (i + 1), fun H' p' => ⟨n - (i + 1), by omega, rfl, hlt, p'⟩, fun x H' y => hs i x H H' hlt p (w.yields i H x H' hlt q y)⟩
  · have e : i = n := by omega
    subst e
    exact .inl ⟨w.stops H q, hd H p⟩
section
variable {c : Cc} {wi : TI} {g : TG} {tt : TT} {tk te : TE} {mi : MM (List D × KC)} {mg : D → St → Option St} {mt : MM Bool} {mk me : MM D} {vs : List Nat}
/-- the reading of a comprehension; fin: what its list becomes -/
theorem dc_run {fin : List (Key × D) → MM D} (h : SI c wi mi) (hg : SG c.quiet g mg) (hw : GW vs g) (ht : ST c.quiet tt mt) (hk : SE c.quiet tk mk) (he : SE c.quiet te me)
    (hfin : ∀ (s0 s : Ws) (ρ : St) (σ : L2.St) (L : Addr) (acc : List (Key × V)) (ys : List (Key × D)) (Q : VK) (r : Res D), SR c ρ s σ → Tr s0 s → s0.H L = none → s.H L = some (.dK acc) → RepK c.K s.g acc ys → s.W L = none → ¬ OwnsA s L → fin ys ρ = some r → PostX c (Rep c.K) s0 σ Q r → Q (.ref L) s.H) :
    SE c (tDc wi g tt tk te vs) (bnd (mDc mi vs mg mt mk me) fin) := by
  intro ρ rr e s σ hs Q q
  unfold mDc at e
  have e : bnd mi (fun p => bnd (fun ρ => match compD p.2 mg mt mk me (wipeL ρ.e vs) p.1 [] ρ.c with
    | some (ys, κ) => some (.ok ys ⟨ρ.e, κ⟩)
    | none => none) fin) ρ = some rr := by
    unfold bnd at e ⊢
    cases e1 : mi ρ with
    | none => rw [e1] at e; exact e
    | some z =>
      rw [e1] at e
      cases z with
      | ok a ρ' => exact e
      | er x ρ' => exact e
  rcases bnd_cases e with ⟨p, ρ1, e1, e2⟩ | ⟨x, ρ1, e1, rfl⟩
  · refine h ρ _ e1 s σ hs _ fun J s1 hs1 t1 wk k1 => ?_
    have q1 := q.after t1
    rcases bnd_cases e2 with ⟨ys, ρ2, e3, e4⟩ | ⟨x, ρ2, e3, _⟩
    · have e3 : (match compD p.2 mg mt mk me (wipeL ρ1.e vs) p.1 [] ρ1.c with
        | some (ys, κ) => some (Res.ok ys ⟨ρ1.e, κ⟩)
        | none => none) = some (.ok ys ρ2) := e3
      split at e3
      · rename_i ys' κ' e5
        cases e3
        intro L hL
        obtain ⟨G, Y, w, wG, wY⟩ := wk
        refine dc_it w (fun i H => ∃ κ s' acc dacc, CS c κ s' ∧ s'.H = H ∧ Tr s1 s' ∧ H L = some (.dK acc) ∧ RepK c.K s'.g acc dacc ∧ s'.W L = none ∧ ¬ OwnsA s' L ∧ compD p.2 mg mt mk me (wipeL ρ1.e vs) (p.1.drop i) dacc κ = some (ys, κ')) ?_ (fun i H _ ⟨κ, s', _, _, a, eH, t, _, _, _, _, e6⟩ => eH ▸ wG κ s' a t (compD_ok e6)) (fun i x H H' hi hp hy => ?_) fun H hp => ?_
        · have n0 := Nw.own (p := L) (o := .dK []) hs1.cr.ex hs1.cr.nt hs1.cr.tb hL
          obtain ⟨b1, b2⟩ := hs1.cr.nw n0
          have nL := hs1.cr.free hL
          refine ⟨ρ1.c, ⟨⟨s1.W, s1.A⟩, upd s1.H L (.dK [])⟩, [], [], b1, rfl, b2, upd_same, .nil, hs1.cr.wfree hL, fun z => ?_, e5⟩
          rcases z with w | ⟨x, hx, C, fs, w⟩
          · exact nL (.inl w)
          · have w : upd s1.H L (.dK []) x = some (.ins C L fs) := w
            by_cases hxL : x = L
            · rw [hxL, upd_same] at w; cases w
            · rw [upd_ne hxL] at w; exact nL (.inr ⟨x, hx, C, fs, w⟩)
        · obtain ⟨κ, s2, acc, dacc, a, rfl, t2, hacc, racc, wL, nL, e6⟩ := hp
          obtain ⟨d, hd⟩ : ∃ d, p.1[i]? = some d := ⟨_, List.getElem?_eq_getElem hi⟩
          obtain ⟨W', n, rv⟩ := wY κ s2 i x H' d a t2 (compD_ok e6) hy hd
          obtain ⟨a', t'⟩ := a.nw n
          obtain ⟨i1, i2, i3⟩ := own_tr t' hacc (fun _ z => nomatch z) wL nL
          have t2' := t2.trans t'
          have hd2 : p.1.drop i = d :: p.1.drop (i + 1) := by
            rw [List.drop_eq_getElem_cons hi, (List.getElem?_eq_some_iff.mp hd).2]
          rw [hd2] at e6
          unfold compD at e6
          split at e6
          · split at e6
            · cases e6
            · rename_i ρ3 e7
              have sw : SR c.quiet ⟨wipeL ρ1.e vs, κ⟩ ⟨⟨W', s2.A⟩, H'⟩ (wipe σ vs) := sr_wipeL hs1 a' t2'.le vs
              have z := hg d _ ρ3 e7 x _ (wipe σ vs) sw rv (fun σ2 H2 => wipe σ2 vs = wipe σ vs → tt σ2 H2 fun b H3 => if b = true then tk σ2 H3 fun y H4 => te σ2 H4 fun z H5 => ∃ acc k, y = kV k ∧ H5 L = some (.dK acc) ∧ acc.length < sizeLine ∧ (∃ κ s' acc' dacc, CS c κ s' ∧ s'.H = upd H5 L (.dK (putK acc k z)) ∧ Tr s1 s' ∧ upd H5 L (.dK (putK acc k z)) L = some (.dK acc') ∧ RepK c.K s'.g acc' dacc ∧ s'.W L = none ∧ ¬ OwnsA s' L ∧ compD p.2 mg mt mk me (wipeL ρ1.e vs) (p.1.drop (i + 1)) dacc κ = some (ys, κ')) else ∃ κ s' acc dacc, CS c κ s' ∧ s'.H = H3 ∧ Tr s1 s' ∧ H3 L = some (.dK acc) ∧ RepK c.K s'.g acc dacc ∧ s'.W L = none ∧ ¬ OwnsA s' L ∧ compD p.2 mg mt mk me (wipeL ρ1.e vs) (p.1.drop (i + 1)) dacc κ = some (ys, κ')) ?_
              · have z2 := hw x (wipe σ vs) H' _ (by rw [wipe_wipe]; exact z)
                rw [wipe_wipe] at z2
                exact z2
              · intro s3 σ3 a3 t3 hwp
                split at e6
                · rename_i ρ4 e8
                  refine ht ρ3 _ e8 s3 σ3 a3 _ fun b s4 a4 t4 hb => ?_
                  subst hb
                  rw [if_pos rfl]
                  split at e6
                  · rename_i y ρ5 e9
                    refine hk ρ4 _ e9 s4 σ3 a4 _ fun kv s5 a5 t5 rk => ?_
                    split at e6
                    · rename_i k e10
                      split at e6
                      · rename_i z ρ6 e11
                        refine he ρ5 _ e11 s5 σ3 a5 _ fun v s6 a6 t6 rv6 => ?_
                        have t36 := t3.trans (t4.trans (t5.trans t6))
                        obtain ⟨k1, k2, k3⟩ := own_tr t36 i1 (fun _ z => nomatch z) i2 i3
                        split at e6
                        · rename_i hlt
                          exact ⟨acc, k, keyOf_rep rk e10, k1, cap_lt (by rw [racc.length]; exact hlt), ρ6.c, ⟨s6.g, upd s6.H L (.dK (putK acc k v))⟩, putK acc k v, putKd dacc k z, cs_change a6.cr k1 trivial (fun _ z => nomatch z) k2 k3, rfl, tr_change (t2'.trans t36) hL fun z => k3 (.inl z), upd_same, (racc.mono (t'.le.trans t36.le)).put rv6, k2, owns_change k3, e6⟩
                        · cases e6
                      · cases e6
                    · cases e6
                  · cases e6
                · rename_i ρ4 e8
                  refine ht ρ3 _ e8 s3 σ3 a3 _ fun b s4 a4 t4 hb => ?_
                  subst hb
                  rw [if_neg Bool.false_ne_true]
                  have t34 := t3.trans t4
                  obtain ⟨k1, k2, k3⟩ := own_tr t34 i1 (fun _ z => nomatch z) i2 i3
                  exact ⟨ρ4.c, s4, acc, dacc, a4.cr, rfl, t2'.trans t34, k1, racc.mono (t'.le.trans t34.le), k2, k3, e6⟩
                · cases e6
          · cases e6
        · obtain ⟨κ, s2, acc, dacc, a, rfl, t2, hacc, racc, wL, nL, e6⟩ := hp
          rw [List.drop_length] at e6
          unfold compD at e6
          split at e6
          · cases e6
            exact hfin s1 s2 ⟨ρ1.e, κ'⟩ σ L acc ys Q rr (hs1.call a t2) t2 hL hacc racc wL nL e4 q1
          · cases e6
      · cases e3
    · have e3 : (match compD p.2 mg mt mk me (wipeL ρ1.e vs) p.1 [] ρ1.c with
        | some (ys, κ) => some (Res.ok ys ⟨ρ1.e, κ⟩)
        | none => none) = some (.er x ρ2) := e3
      split at e3 <;> cases e3
  · exact h ρ _ e1 s σ hs _ fun s1 a b => q s1 a b
/-- as a cell -/
theorem se_dcC (h : SI c wi mi) (hg : SG c.quiet g mg) (hw : GW vs g) (ht : ST c.quiet tt mt) (hk : SE c.quiet tk mk) (he : SE c.quiet te me) : SE c (tDc wi g tt tk te vs) (bnd (mDc mi vs mg mt mk me) fun ys => newC (.dct ys)) :=
  dc_run h hg hw ht hk he fun s0 s ρ σ L acc ys Q r a t h0 hL racc wL nL e q => by
    cases e
    obtain ⟨k1, k2, le, last⟩ := cs_cell (cl := .dct ys) a.cr t h0 ⟨acc, hL, racc⟩ (fun C d fs z => by rw [hL] at z; cases z) wL nL
    exact q (.ref L) ⟨⟨s.W, s.A ++ [L]⟩, s.H⟩ (a.le' k1 le) k2 (.ref last)
end
end PH
end
section
set_option maxHeartbeats 0
namespace PH
open PySem PySem.Spec PyProof.Rows L2

/-! ### list(d.values()) -/
def rValsL : V → Hp → VK → Prop := fun x H Q => ∃ d kvs, x = .ref d ∧ Rd H d (.dK kvs) ∧ ∀ p, H p = none → Q (.ref p) (upd H p (.lst (kvs.map fun kv => kv.2)))
section
variable {X : Cx} {e : Expr} {te : TE} {p apos cpos pos : Pos}
theorem pe_listValues (hc : X.calm = true) (he : PE X e te) (hg : Gl X "list") (hm : X.mg "list" = none) (hv : bootBuiltins "list" = some (.type "list")) (hbase : attributeBase e "values" X.env (eval e X.env) = eval e X.env := by rfl) (hline : (apos.endLine == cpos.line) = true := by rfl)
    (hs : starEach [.Call (.Attribute e "values" apos) [] [] cpos] X.env = (false, eval (.Call (.Attribute e "values" apos) [] [] cpos) X.env) :: starEach [] X.env := by rfl) :
    PE X (.Call (.Name "list" p) [.Call (.Attribute e "values" apos) [] [] cpos] [] pos) (tUn rValsL te) := by
  refine ⟨fun pins s σ H Q I hq => ?_⟩
  refine wpAny_Call_Name_kw (ld_blt I hg hm hv ?_)
  refine PyProof.Rows.callWith_type1 ?_ hs rfl
  rw [hs]
  show wpAny _ _ (spliced ((false, eval (.Call (.Attribute e "values" apos) [] [] cpos) X.env) :: backTo pos (starEach [] X.env))) _ _ s
  refine Calls.spliced_cons ?_
  refine wpAny_Call_method (T := "dict") (id := "dict.values") hbase rfl hline F.plainAttrs_dict F.slot_dict_values F.type_dict_values (thn (he.run pins s σ H _ I hq) fun u s1 ⟨x, H1, I1, rx, d, kvs, ex, hd, q⟩ => ?_)
  subst ex
  obtain rfl : u = Value.ref d := rx
  obtain ⟨hz, hs0, vs, kv, hdo⟩ := dk_rd I1.hok hd
  obtain ⟨ep, hat⟩ := hdo.dictAt
  have lk : kvs.length = vs.length := Paired.length kv
  have I2 : Inv X pins σ H1 { s1 with heap := s1.heap.push { cls := .type "dict_values", data := .fields #[.ref d] } } := I1.kept (t' := s1.toks) fun b ob q => Heap.get?_push_of_some _ q
  refine ⟨hdo.typeIs, hdo.mapOf.noDict, ?_⟩
  show wpAny _ _ (callWith cpos (.builtin "dict.values") [.ref d] [] []) _ X.xe s1
  refine method_meetsIn F.slot_dict_values F.entry_dict_values rfl (PySem.evalArgs_none ⟨rfl, hdo.typeIs, F.args_dict_values_1 _, _, meets_dict_values (mixKind X.prog X.w) d hs0, ⟨vs, hdo⟩, ?_⟩)
  refine Calls.spliced_nil ?_
  refine PySem.W.kdl_call (PySem.W.kdl_values (knd := mixKind X.prog X.w) (kvs := vs) (ep := ep)) (I1.ok.hd hc) ⟨⟨_, Heap.get?_push_size _ rfl, rfl, rfl⟩, hat.push _⟩ (by rw [← lk]; exact hz) fun h' tk acc' c' hkeep hS hacc => ?_
  refine ⟨.ref _, upd H1 _ (.lst (kvs.map fun kv => kv.2)), I2.laid (t' := tk) hkeep (Nat.le_refl _) (show ObjOk X.prog X.w _ _ _ (.lst (kvs.map fun kv => kv.2)) from ⟨?_, acc'.toList, c', ?_, ?_⟩), rfl, q _ (I2.hok.fresh (Nat.le_refl _))⟩
  · rw [List.length_map]; exact hz
  · have el : acc'.toList.length = acc'.size := by simp
    refine vals_of_at (by rw [List.length_map, el, hacc.1, lk]) fun j x w h1 h2 => ?_
    obtain ⟨k, hk⟩ := hacc.2 j w (by rw [← Array.getElem?_toList]; exact h2)
    rw [List.getElem?_map] at h1
    cases e1 : kvs[j]? with
    | none => rw [e1] at h1; cases h1
    | some q1 =>
      rw [e1] at h1
      cases h1
      obtain ⟨u, hu, ru⟩ := kv_get (k := q1.1) (v := q1.2) kv e1
      rw [hu] at hk
      cases hk
      exact ru
  · rw [Array.toArray_toList]; exact hS
end
section
variable {c : Cc}
theorem repk_vals {K : PySem.W.Frag} {g : Gh} : ∀ {kv : List (Key × V)} {kd : List (Key × D)}, RepK K g kv kd → Reps K g (kv.map fun p => p.2) (kd.map fun p => p.2)
  | _, _, .nil => .nil
  | _, _, .cons r t => .cons r (repk_vals t)
def mValsL (m : MM D) : MM D := bnd m fun d => bnd (lftK fun κ => seeD κ d) fun kd => ret (.lst (kd.map fun p => p.2))
theorem se_valsL {te : TE} {m : MM D} (h : SE c te m) : SE c (tUn rValsL te) (mValsL m) := by
  intro ρ rr e s σ hs Q q
  refine sx_go (t := te) h e hs q fun x d ρ s e hs rx q tr => ?_
  rcases bnd_cases e with ⟨kd, ρ1, e1, e2⟩ | ⟨z, ρ1, e1, _⟩
  · obtain ⟨kd', e3, e4⟩ := lftK_cases e1
    cases e4
    cases e2
    obtain ⟨p, kv, rfl, h1, h2⟩ := seeD_rep hs.cr rx e3
    exact ⟨p, kv, rfl, h1, rx_lst hs.cr (repk_vals h2) Q (post_nw hs q)⟩
  · obtain ⟨_, _, e4⟩ := lftK_cases e1
    cases e4
end
end PH
end
section
set_option maxHeartbeats 0
namespace PD
open PySem PySem.Spec PyProof.Rows L2
section
variable {X : Cx}
/-- xs.extend(a list or a tuple) -/
def rExtA (K : PySem.W.Frag) : V → List V → Hp → VK → Prop := fun x vs H Q => rExtend x vs H Q ∨ ∃ l b xs zs, x = .ref l ∧ vs = [.ref b] ∧ H l = some (.lst xs) ∧ SqT K H b zs ∧ xs.length + zs.length ≤ sizeLine ∧ Q .non (upd H l (.lst (xs ++ zs)))
theorem mt_extendA : MtR X "list.extend" (rExtA X.K) := by
  intro pins s σ H x vs v us Q I rx rv h
  rcases h with h | h
  · exact mt_extend pins s σ H x vs v us Q I rx rv h
  obtain ⟨l, b, xs, zs, rfl, rfl, hH, hB, hz, q⟩ := h
  cases rx
  obtain ⟨u, rfl, ru⟩ := rv.one
  cases ru
  obtain ⟨z, its, n, r, hl, e⟩ := I.lstM hH
  obtain ⟨its2, r2, p2, hz2⟩ := I.tuple hB
  obtain ⟨⟨cls2, d2, data2, sl2⟩, eo2, hc2, n2, hd2⟩ := id p2
  simp only at hc2 hd2
  subst hc2 hd2
  have hl2 := r2.length
  have hsz : its.toArray.size + its2.toArray.size ≤ sizeLine := by rw [List.size_toArray, List.size_toArray]; omega
  have hlong : ¬ (!its.toArray.isEmpty && Builtin.List.listTooLong (its.toArray.size + its2.toArray.size)) = true := by
    rw [notLongL hsz, Bool.and_false]
    exact Bool.false_ne_true
  refine call_meets PySem.F.slot_list_extend ⟨_, e, rfl⟩ PySem.F.entry_list_extend (PySem.F.args_list_extend_2 _ _)
    (PySem.pd_extend_tuple l its.toArray n b its2.toArray n2 d2 sl2 hlong (by rw [List.size_toArray]; omega) (by omega)) ⟨e, eo2, ?_⟩
  refine ⟨.non, _, I.lset (its' := its ++ its2) hH e (by simp) (r.append r2) ?_, rfl, q⟩
  rw [List.length_append]
  omega
end
/-! ### a list's methods on data -/
def mdAppend : List D → List D → Option (List D × D)
  | ds, [d] => if ds.length < cap then some (ds ++ [d], .non) else none
  | _, _ => none
def mdExtend : List D → List D → Option (List D × D)
  | ds, [.tup es] => if ds.length + es.length ≤ cap then some (ds ++ es, .non) else none
  | ds, [.lst es] => if ds.length + es.length ≤ cap then some (ds ++ es, .non) else none
  | _, _ => none
def mdPop : List D → List D → Option (List D × D)
  | ds, [] => match ds[ds.length - 1]? with
    | some d => some (ds.dropLast, d)
    | none => none
  | _, _ => none
def mdPopAt : List D → List D → Option (List D × D)
  | ds, [.int i] => if 0 ≤ i ∧ i < ds.length ∧ ds.length ≤ cap then match ds[i.toNat]? with
    | some d => some (ds.eraseIdx i.toNat, d)
    | none => none
    else none
  | _, _ => none
def mdReverse : List D → List D → Option (List D × D)
  | ds, [] => some (ds.reverse, .non)
  | _, _ => none
def mdInsert : List D → List D → Option (List D × D)
  | ds, [.int i, d] => if ds.length < cap ∧ 0 ≤ i ∧ i < 2 ^ 63 then some (ds.take i.toNat ++ [d] ++ ds.drop i.toNat, .non) else none
  | _, _ => none
def rInsert : V → List V → Hp → VK → Prop := fun x vs H Q => ∃ (l : Addr) (xs : List V) (i : Int) (y : V), x = .ref l ∧ vs = [.int i, y] ∧ H l = some (.lst xs) ∧ xs.length < sizeLine ∧ 0 ≤ i ∧ i < 2 ^ 63 ∧
    Q .non (upd H l (.lst (xs.take i.toNat ++ [y] ++ xs.drop i.toNat)))
section
variable {c : Cc}
theorem reps1 {K : PySem.W.Frag} {W : Hp} {vs : List V} {d : D} (r : Reps K W vs [d]) : ∃ v, vs = [v] ∧ Rep K W v d := by
  cases r with
  | cons r1 r2 => cases r2; exact ⟨_, rfl, r1⟩
theorem reps2 {K : PySem.W.Frag} {W : Hp} {vs : List V} {d e : D} (r : Reps K W vs [d, e]) : ∃ v u, vs = [v, u] ∧ Rep K W v d ∧ Rep K W u e := by
  cases r with
  | cons r1 r2 =>
    cases r2 with
    | cons r2 r3 => cases r3; exact ⟨_, _, rfl, r1, r2⟩
theorem rme_append : RMe c rAppend mdAppend := by
  intro W H p xs vs ds as ds2 d w hp r ra e
  unfold mdAppend at e
  split at e
  · split at e
    · rename_i hl
      cases e
      obtain ⟨v, rfl, rv⟩ := reps1 ra
      exact ⟨_, .non, r.append (.cons rv .nil), .non, fun Q q => ⟨p, xs, v, rfl, rfl, hp, cap_lt (by rw [r.length]; exact hl), q⟩⟩
    · cases e
  · cases e
theorem rme_extend : RMe c (rExtA c.K) mdExtend := by
  intro W H p xs vs ds as ds2 d w hp r ra e
  unfold mdExtend at e
  split at e
  · rename_i es
    split at e
    · rename_i hl
      cases e
      obtain ⟨v, rfl, rv⟩ := reps1 ra
      cases rv with
      | @tup a ys _ hx r1 =>
        exact ⟨_, .non, r.append r1, .non, fun Q q => .inr ⟨p, a, xs, ys, rfl, rfl, hp, w.ex.st hx, cap_le (by rw [r.length, r1.length]; exact hl), q⟩⟩
    · cases e
  · rename_i es
    split at e
    · rename_i hl
      cases e
      obtain ⟨v, rfl, rv⟩ := reps1 ra
      cases rv with
      | @lst a ys _ hx r1 =>
        exact ⟨_, .non, r.append r1, .non, fun Q q => .inl ⟨p, a, xs, ys, rfl, rfl, hp, w.ex _ _ hx, cap_le (by rw [r.length, r1.length]; exact hl), q⟩⟩
    · cases e
  · cases e
theorem rme_pop : RMe c rPop mdPop := by
  intro W H p xs vs ds as ds2 d w hp r ra e
  unfold mdPop at e
  split at e
  · split at e
    · rename_i d' hd
      cases e
      cases ra
      obtain ⟨v, hv, rv⟩ := r.getD hd
      exact ⟨_, v, r.dropLast, rv, fun Q q => ⟨p, xs, v, rfl, rfl, hp, by rw [r.length]; exact hv, q⟩⟩
    · cases e
  · cases e
theorem rme_popAt : RMe c rPopAt mdPopAt := by
  intro W H p xs vs ds as ds2 d w hp r ra e
  unfold mdPopAt at e
  split at e
  · rename_i i
    split at e
    · rename_i hi
      split at e
      · rename_i d' hd
        cases e
        have := reps_i1 ra
        subst this
        obtain ⟨v, hv, rv⟩ := r.getD hd
        have hc : (cap : Int) = 100000 := rfl
        have hcap : (ds.length : Int) ≤ 100000 := by have := hi.2.2; unfold cap at this; omega
        refine ⟨_, v, r.eraseIdx _, rv, fun Q q => ⟨p, xs, i, i.toNat, v, rfl, rfl, hp, by omega, by omega, ?_, hv, q⟩⟩
        rw [r.length]
        have hi1 := hi.1
        have hi2 := hi.2.1
        unfold seqIndex?
        have e1 : (if i < 0 then i + (ds.length : Int) else i) = i := if_neg (by omega)
        simp only [e1]
        rw [if_pos]
        rw [Bool.and_eq_true]
        exact ⟨decide_eq_true hi1, decide_eq_true hi2⟩
      · cases e
    · cases e
  · cases e
theorem rme_reverse : RMe c rReverse mdReverse := by
  intro W H p xs vs ds as ds2 d w hp r ra e
  unfold mdReverse at e
  split at e
  · cases e
    cases ra
    exact ⟨_, .non, r.reverse, .non, fun Q q => ⟨p, xs, rfl, rfl, hp, q⟩⟩
  · cases e
theorem rme_insert : RMe c rInsert mdInsert := by
  intro W H p xs vs ds as ds2 d w hp r ra e
  unfold mdInsert at e
  split at e
  · rename_i i y
    split at e
    · rename_i h
      cases e
      obtain ⟨v, u, rfl, rv, ru⟩ := reps2 ra
      cases rv
      exact ⟨_, .non, ((r.take _).append (.cons ru .nil)).append (r.drop _), .non, fun Q q => ⟨p, xs, i, u, rfl, rfl, hp, cap_lt (by rw [r.length]; exact h.1), h.2.1, h.2.2, q⟩⟩
    · cases e
  · cases e

/-! ### f-strings -/
def dFmt : D → Option D
  | .str y => if y.length ≤ cap then some (.str y) else none
  | .int i => if i.natAbs.log2 < 1920 then some (.str (toString i)) else none
  | _ => none
theorem se_fmt {te : TE} {m : MM D} (h : SE c te m) : SE c (tFmt te) (bnd m fun d => lft (dFmt d)) := by
  intro ρ rr e s σ hs Q q
  refine sx_go (t := te) h e hs q fun x a ρ s e hs rx q tr => ?_
  obtain ⟨d, e3, rfl⟩ := lft_cases e
  unfold dFmt at e3
  split at e3
  · rename_i y
    split at e3
    · rename_i hl
      cases e3
      cases rx
      exact .inl ⟨y, rfl, cap_le hl, q _ s hs .refl (.str _)⟩
    · cases e3
  · rename_i i
    split at e3
    · rename_i hl
      cases e3
      cases rx
      exact .inr ⟨i, rfl, hl, q _ s hs .refl (.str _)⟩
    · cases e3
  · cases e3
def joinM : List (MM D) → Str → MM D
  | [], acc => ret (.str acc)
  | m :: ms, acc => bnd m fun d => match d with
    | .str y => if (acc ++ y).length ≤ cap then joinM ms (acc ++ y) else fun _ => none
    | _ => fun _ => none
inductive SJ (c : Cc) : List TE → List (MM D) → Prop
  | nil : SJ c [] []
  | cons {t : TE} {ts : List TE} {m : MM D} {ms : List (MM D)} : SE c t m → SJ c ts ms → SJ c (t :: ts) (m :: ms)
theorem se_js : ∀ {ts : List TE} {ms : List (MM D)}, SJ c ts ms → ∀ acc : Str, SE c (fun σ H Q => tJs ts acc σ H fun out H1 => Q (.str out) H1) (joinM ms acc)
  | _, _, .nil, acc => by
    intro ρ rr e s σ hs Q q
    cases e
    exact q _ s hs .refl (.str _)
  | _, _, .cons (t := t) h r, acc => by
    intro ρ rr e s σ hs Q q
    refine sx_go (t := t) h e hs q fun x a ρ s e hs rx q tr => ?_
    cases a <;> try (cases e; done)
    rename_i y
    dsimp only at e
    split at e
    · rename_i hl
      cases rx
      exact ⟨y, rfl, cap_le hl, se_js r _ ρ rr e s σ hs Q q⟩
    · cases e
theorem se_joined {ts : List TE} {ms : List (MM D)} (h : SJ c ts ms) : SE c (fun σ H Q => tJs ts Str.empty σ H fun out H1 => Q (.str out) H1) (joinM ms Str.empty) := se_js h _

/-! ### a star in a display -/
def mStar (m : MM D) (ms : MM (List D)) : MM (List D) := bnd m fun d => match elems d with
  | some ds => bnd ms fun es => ret (ds ++ es)
  | none => fun _ => none
theorem sa_star {te : TE} {t : TA} {m : MM D} {ms : MM (List D)} (h : SE c te m) (hr : SA c t ms) : SA c (StX.tStar c.K te t) (mStar m ms) := by
  intro ρ rr e s σ hs Q q
  refine sx_go (t := te) h e hs q fun x a ρ s e hs rx q tr => ?_
  cases ea : elems a with
  | none => simp only [ea] at e; cases e
  | some ds =>
    simp only [ea] at e
    have hd : (∃ p xs, x = .ref p ∧ SqT c.K s.H p xs ∧ Reps c.K s.W xs ds) ∨ (∃ p xs, x = .ref p ∧ SqL c.K s.H p xs ∧ Reps c.K s.W xs ds) := by
      cases a <;> try (cases ea; done)
      · cases ea
        cases rx with
        | @tup p xs _ hx r1 => exact .inl ⟨p, xs, rfl, hs.ex.st hx, r1⟩
      · cases ea
        cases rx with
        | @lst p xs _ hx r1 => exact .inr ⟨p, xs, rfl, hs.ex.sl (.inl (.inl hx)), r1⟩
    have fin : ∀ xs, Reps c.K s.W xs ds → t σ s.H fun ys H2 => Q (xs ++ ys) H2 := fun xs rxs => by
      refine sx_go (t := t) hr e hs q fun y es ρ s2 e hs ry q tr2 => ?_
      cases e
      exact q _ s2 hs .refl ((rxs.mono tr2.w).append ry)
    rcases hd with ⟨p, xs, rfl, h1, h2⟩ | ⟨p, xs, rfl, h1, h2⟩
    · exact ⟨p, xs, rfl, .inl h1, fin xs h2⟩
    · exact ⟨p, xs, rfl, .inr h1, fin xs h2⟩

/-! ### further loops -/
/-- where a loop over data stands, behind a step that knows more -/
theorem loop_turn2 {g : TG} {tb : TS} {mg : D → Env → Option Env} {mb : MS} {ds : List D} {s : Ws} {o : Out} {E : Ends} (hg : SG c g mg) (hb : SS c tb mb) (q : PostS c E s o) {i : Nat} {d : D} {v : V} {σ : L2.St} {H : Hp} (hd : ds[i]? = some d)
    (h : ∃ ρ s', SR c.K c.tb ρ s' σ ∧ s'.H = H ∧ Tr c.P s s' ∧ loopL mg mb (ds.drop i) ρ = some o ∧ Rep c.K s'.W v d) : g v σ H fun σ2 H2 => tb { E with nx := LoopAt c mg mb ds s o (i + 1), ct := LoopAt c mg mb ds s o (i + 1), bk := E.nx } σ2 H2 := by
  obtain ⟨ρ, s1, hs, rfl, tr, e, rv⟩ := h
  have hi := (List.getElem?_eq_some_iff.mp hd).1
  have hd2 : ds.drop i = d :: ds.drop (i + 1) := by
    rw [List.drop_eq_getElem_cons hi, (List.getElem?_eq_some_iff.mp hd).2]
  rw [hd2] at e
  unfold loopL at e
  split at e
  · cases e
  · rename_i ρ1 e1
    refine hg d ρ ρ1 e1 v s1 σ hs rv _ fun s2 σ2 hs2 tr2 => ?_
    have t2 := tr.trans tr2
    split at e
    · rename_i ρ2 e2
      exact hb ρ1 _ e2 s2 σ2 hs2 _ fun s3 σ3 a b => ⟨ρ2, s3, a, rfl, t2.trans b, e⟩
    · rename_i ρ2 e2
      exact hb ρ1 _ e2 s2 σ2 hs2 _ fun s3 σ3 a b => ⟨ρ2, s3, a, rfl, t2.trans b, e⟩
    · rename_i ρ2 e2
      cases e
      exact hb ρ1 _ e2 s2 σ2 hs2 _ fun s3 σ3 a b => q s3 σ3 a (t2.trans b)
    · rename_i d' ρ2 e2
      cases e
      exact hb ρ1 _ e2 s2 σ2 hs2 _ fun v s3 σ3 a b r => q v s3 σ3 a (t2.trans b) r
    · rename_i x ρ2 e2
      cases e
      exact hb ρ1 _ e2 s2 σ2 hs2 _ fun s3 σ3 a b => q s3 σ3 a (t2.trans b)
    · cases e
def elemsRev : D → Option (List D)
  | .tup ds => some ds.reverse
  | .lst ds => some ds.reverse
  | _ => none
def mForE {α : Type} (el : α → Option (List D)) (m : MM α) (g : D → Env → Option Env) (b : MS) : MS := mE m fun d => match el d with
  | some ds => loopL g b ds
  | none => fun _ => none
theorem rev_get {α : Type} {ds : List α} {i : Nat} (h : i < ds.length) : ds.reverse[i]? = ds[ds.length - 1 - i]? := by
  rw [List.getElem?_reverse h]
theorem ss_forRev {tl : TE} {g : TG} {tb : TS} {m : MM D} {mg : D → Env → Option Env} {mb : MS} (h : SE c tl m) (hg : SG c g mg) (hb : SS c tb mb) : SS c (tFor (RT.iRevA c.K tl) g tb) (mForE elemsRev m mg mb) := by
  intro ρ o e s σ hs E q
  refine ss_go (t := tl) h e hs q fun v d ρ s e hs rx q tr => ?_
  cases d <;> try (cases e; done)
  · rename_i ds
    cases rx with
    | @tup a vs _ hq rr =>
      have e' : loopL mg mb ds.reverse ρ = some o := e
      refine ⟨a, vs, rfl, .inr ⟨hs.ex.st hq, RT.for_ItvT (K := c.K) (a := a) (xs := vs) (LoopAt c mg mb ds.reverse s o) ⟨ρ, s, hs, rfl, .refl, e'⟩ (fun i σ H ⟨ρ', s', hs', eH, tr', _⟩ => eH ▸ hs'.ex.st (tr'.w.st hq)) (fun i x σ H hi hx hp => ?_) fun σ H hp => ?_⟩⟩
      · obtain ⟨d, hd, rd'⟩ := rr.get hx
        exact loop_turn hg hb q (by rw [rev_get (by rw [← rr.length]; exact hi), ← rr.length]; exact hd) s.W (fun s' t => rd'.mono t.w) hp
      · rw [rr.length] at hp
        exact loop_end q (by rw [List.length_reverse]; exact hp)
  · rename_i ds
    cases rx with
    | @lst a vs _ hq rr =>
      have e' : loopL mg mb ds.reverse ρ = some o := e
      have hq' : SqL c.K s.W a vs := .inl (.inl hq)
      refine ⟨a, vs, rfl, .inl ⟨hs.ex.sl hq', RT.for_Itv (K := c.K) (a := a) (xs := vs) (LoopAt c mg mb ds.reverse s o) ⟨ρ, s, hs, rfl, .refl, e'⟩ (fun i σ H ⟨ρ', s', hs', eH, tr', _⟩ => eH ▸ hs'.ex.sl (tr'.w.sl hq')) (fun i x σ H hi hx hp => ?_) fun σ H hp => ?_⟩⟩
      · obtain ⟨d, hd, rd'⟩ := rr.get hx
        exact loop_turn hg hb q (by rw [rev_get (by rw [← rr.length]; exact hi), ← rr.length]; exact hd) s.W (fun s' t => rd'.mono t.w) hp
      · rw [rr.length] at hp
        exact loop_end q (by rw [List.length_reverse]; exact hp)
/-- range(a, b, -1) -/
def rangeN (lo : Int) (n : Nat) : List D := (List.range n).map fun (i : Nat) => .int (lo + (i : Int) * -1)
theorem rangeN_get {lo : Int} {n i : Nat} (h : i < n) : (rangeN lo n)[i]? = some (.int (lo + (i : Int) * -1)) := by
  unfold rangeN
  rw [List.getElem?_map, List.getElem?_range h]
  rfl
theorem rangeN_len {lo : Int} {n : Nat} : (rangeN lo n).length = n := by unfold rangeN; rw [List.length_map, List.length_range]
def rg3 : List D → Option (List D)
  | [.int i, .int j, .int k] => if rgOk i = true ∧ rgOk j = true ∧ k = -1 then some (rangeN i (i - j).toNat) else none
  | _ => none
theorem reps_i3 {K : PySem.W.Frag} {W : Hp} {vs : List V} {i j k : Int} (r : Reps K W vs [.int i, .int j, .int k]) : vs = [.int i, .int j, .int k] := by
  cases r with
  | cons r1 r2 =>
    cases r1
    rw [reps_i2 r2]
theorem ss_for3 {ta : TA} {g : TG} {tb : TS} {m : MM (List D)} {mg : D → Env → Option Env} {mb : MS} (h : SA c ta m) (hg : SG c g mg) (hb : SS c tb mb) : SS c (tFor (iRng3 ta) g tb) (mForE rg3 m mg mb) := by
  intro ρ o e s σ hs E q
  refine ss_go (t := ta) h e hs q fun vs ds ρ s e hs rx q tr => ?_
  cases e1 : rg3 ds with
  | none => simp only [e1] at e; cases e
  | some l =>
    simp only [e1] at e
    unfold rg3 at e1
    split at e1
    · rename_i i j k
      split at e1
      · rename_i hk
        cases e1
        obtain ⟨h1, h2, rfl⟩ := hk
        refine ⟨i, j, -1, (i - j).toNat, reps_i3 rx, RgC.neg (rgOk_of h1).1 (rgOk_of h1).2 (rgOk_of h2).1 (rgOk_of h2).2, ?_⟩
        exact for_rangeC (lo := i) (c := -1) (n := (i - j).toNat) (LoopAt c mg mb (rangeN i (i - j).toNat) s o) ⟨ρ, s, hs, rfl, .refl, e⟩ (fun k σ H hi hp => loop_turn hg hb q (rangeN_get hi) s.W (fun s' _ => .int _) hp) fun σ H hp => loop_end q (by rw [rangeN_len]; exact hp)
      · cases e1
    · cases e1
/-- zip of two lists or of two tuples -/
def zipD : List D → Option (List D)
  | [.lst xs, .lst ys] => some (List.zipWith (fun a b => .tup [a, b]) xs ys)
  | _ => none
theorem for_zipM {K : PySem.W.Frag} {a b : Addr} {xs ys : List V} {g : TG} {tb : TS} {D : Ends} {σ : L2.St} {H : Hp} (Pv : Nat → L2.St → Hp → Prop) (h0 : Pv 0 σ H) (hq : ∀ i σ H, Pv i σ H → SqL K H a xs ∧ SqL K H b ys)
    (hs : ∀ (i : Nat) (x y : V) (T : Addr) (σ : L2.St) (H : Hp), xs[i]? = some x → ys[i]? = some y → Pv i σ H → H T = none → g (.ref T) σ (upd H T (.tup [x, y])) fun σ2 H2 => tb { D with nx := Pv (i + 1), ct := Pv (i + 1), bk := D.nx } σ2 H2)
    (hd : ∀ σ H, Pv (min xs.length ys.length) σ H → D.nx σ H) :
    ∃ W : Nat → Nat → L2.St → Hp → Prop, (∃ m, W 0 m σ H) ∧ ∀ i m σ H, W i m σ H →
      ((Itz K a b).stop i H ∧ D.nx σ H) ∨ ((Itz K a b).go i H ∧ ∃ N : L2.St → Hp → Prop, (∀ σ' H', N σ' H' → ∃ m', m' < m ∧ W (i + 1) m' σ' H') ∧ ∀ x H', (Itz K a b).yld i H x H' → g x σ H' fun σ2 H2 => tb { D with nx := N, ct := N, bk := D.nx } σ2 H2) := by
  refine ⟨fun i m σ H => m = min xs.length ys.length - i ∧ i ≤ min xs.length ys.length ∧ Pv i σ H, ⟨_, rfl, Nat.zero_le _, h0⟩, ?_⟩
  rintro i m σ H ⟨rfl, hi, p⟩
  obtain ⟨q1, q2⟩ := hq i σ H p
  by_cases hlt : i < min xs.length ys.length
  · have h1 : i < xs.length := by omega
    have h2 : i < ys.length := by omega
    refine .inr ⟨⟨xs, ys, xs[i], ys[i], q1, q2, by simp [h1], by simp [h2]⟩, Pv (i + 1), fun σ' H' p' => ⟨_, by omega, rfl, hlt, p'⟩, fun x H' y => ?_⟩
    obtain ⟨T, x1, y1, rfl, hT, rfl, e1, e2⟩ := y
    exact hs i x1 y1 T σ H (e1 xs q1) (e2 ys q2) p hT
  · have e : i = min xs.length ys.length := by omega
    subst e
    refine .inl ⟨?_, hd σ H p⟩
    exact ⟨xs, ys, q1, q2, by omega⟩
theorem ss_forZip {ta : TA} {g : TG} {tb : TS} {m : MM (List D)} {mg : D → Env → Option Env} {mb : MS} (h : SA c ta m) (hg : SG c g mg) (hb : SS c tb mb) : SS c (tFor (iZip c.K ta) g tb) (mForE zipD m mg mb) := by
  intro ρ o e s σ hs E q
  refine ss_go (t := ta) h e hs q fun vs ds ρ s e hs rx q tr => ?_
  cases e1 : zipD ds with
  | none => simp only [e1] at e; cases e
  | some l =>
    simp only [e1] at e
    unfold zipD at e1
    split at e1
    · rename_i xs ys
      cases e1
      obtain ⟨v1, v2, rfl, r1, r2⟩ := reps2 rx
      cases r1 with
      | @lst a us _ hx rr1 =>
        cases r2 with
        | @lst b ws _ hy rr2 =>
          have hx' : SqL c.K s.W a us := .inl (.inl hx)
          have hy' : SqL c.K s.W b ws := .inl (.inl hy)
          refine ⟨a, b, us, ws, rfl, hs.ex.sl hx', hs.ex.sl hy', for_zipM (K := c.K) (a := a) (b := b) (xs := us) (ys := ws) (LoopAt c mg mb _ s o) ⟨ρ, s, hs, rfl, .refl, e⟩ (fun i σ H ⟨ρ', s', hs', eH, tr', _⟩ => eH ▸ ⟨hs'.ex.sl (tr'.w.sl hx'), hs'.ex.sl (tr'.w.sl hy')⟩) (fun i x y T σ H ex ey hp hT => ?_) fun σ H hp => ?_⟩
          · obtain ⟨d1, hd1, rd1⟩ := rr1.get ex
            obtain ⟨d2, hd2, rd2⟩ := rr2.get ey
            obtain ⟨ρ', s', hs', rfl, tr', e'⟩ := hp
            have n := Nw.new (o := .tup [x, y]) hs'.ex hs'.nt hs'.tb hT (fun _ z => nomatch z)
            refine loop_turn2 (d := .tup [d1, d2]) hg hb q (by rw [List.getElem?_zipWith, hd1, hd2]) ⟨ρ', _, hs'.nw n, rfl, tr'.trans (.nw n), e', .tup (.inl (.inl upd_same)) (.cons ((rd1.mono tr'.w).mono n.w) (.cons ((rd2.mono tr'.w).mono n.w) .nil))⟩
          · rw [rr1.length, rr2.length] at hp
            exact loop_end q (by rw [List.length_zipWith]; exact hp)
    · cases e1
theorem ss_par3 {i j l : Nat} {ta : TA} {m : MM (List D)} (hi : c.P i = false) (hj : c.P j = false) (hl : c.P l = false) (h : SA c ta m) : SS c (tPar3 i j l ta) (mPar3 i j l m) := by
  intro ρ o e s σ hs E q
  refine ss_go (t := ta) h e hs q fun vs ds ρ s e hs rx q tr => ?_
  cases rx with
  | nil => cases e
  | cons r1 rx =>
    cases rx with
    | nil => cases e
    | cons r2 rx =>
      cases rx with
      | nil => cases e
      | cons r3 rx =>
        cases rx with
        | cons _ _ => cases e
        | nil =>
          obtain ⟨ρ', e1, rfl⟩ := Option.map_eq_some_iff.mp e
          obtain ⟨ρ2, e1, e3⟩ := Option.bind_eq_some_iff.mp e1
          obtain ⟨ρ1, e1, e2⟩ := Option.bind_eq_some_iff.mp e1
          refine ⟨_, _, _, rfl, ?_⟩
          exact sg_name (c := c) hi _ ρ ρ1 e1 _ s σ hs r1 (fun σ' H' => E.nx ((σ'.set j (some _)).set l (some _)) H') fun s1 σ1 a b => sg_name (c := c) hj _ ρ1 ρ2 e2 _ s1 σ1 a (r2.mono b.w) (fun σ' H' => E.nx (σ'.set l (some _)) H') fun s2 σ2 a2 b2 =>
            sg_name (c := c) hl _ ρ2 ρ' e3 _ s2 σ2 a2 (r3.mono (b.w.trans b2.w)) _ fun s3 σ3 a3 b3 => q s3 σ3 a3 (b.trans (b2.trans b3))
end
end PD
end
section
set_option maxHeartbeats 0
namespace PD
open PySem PySem.Spec PyProof.Rows L2
/-! ### what the generated texts use -/
section
variable {c : Cc}
def Ln (n : Nat) (m : MM (List D)) : Prop := ∀ ρ as ρ', m ρ = some (.ok as ρ') → as.length = n
theorem ln_nil : Ln 0 (ret []) := fun ρ as ρ' e => by cases e; rfl
theorem ln_cons {n : Nat} {m : MM D} {ms : MM (List D)} (h : Ln n ms) : Ln (n + 1) (bnd m fun d => bnd ms fun ds => ret (d :: ds)) := fun ρ as ρ' e => by
  rcases bnd_cases e with ⟨d, ρ1, e1, e2⟩ | ⟨x, ρ1, e1, e2⟩
  · rcases bnd_cases e2 with ⟨ds, ρ2, e3, e4⟩ | ⟨x, ρ2, e3, e4⟩
    · cases e4
      rw [List.length_cons, h _ _ _ e3]
    · cases e4
  · cases e2
def mArg (m : MM D) (ms : MM (List D)) : MM (List D) := bnd m fun d => bnd ms fun ds => ret (d :: ds)
def mOp (op : D → D → Option D) (a b : MM D) : MM D := bnd a fun x => bnd b fun y => lft (op x y)
def mUn (op : D → Option D) (a : MM D) : MM D := bnd a fun x => lft (op x)
def mCb (op : List D → Option D) (a : MM (List D)) : MM D := bnd a fun x => lft (op x)
def mTest (m : MM D) : MM Bool := bnd m fun d => lft (asB d)
def mTru (m : MM D) : MM Bool := bnd m fun d => lft (truD d)
def mAnd (a b : MM Bool) : MM Bool := bnd a fun x => if x = true then b else ret false
def mOr (a b : MM Bool) : MM Bool := bnd a fun x => if x = true then ret true else b
def mNot (a : MM Bool) : MM Bool := bnd a fun x => ret (!x)
def mIfE (t : MM Bool) (a b : MM D) : MM D := bnd t fun x => if x = true then a else b
def mAndV (a b : MM D) : MM D := bnd a fun x => bnd (lft (asB x)) fun k => if k = true then b else ret (.bl false)
def mOrV (a b : MM D) : MM D := bnd a fun x => bnd (lft (asB x)) fun k => if k = true then ret (.bl true) else b
def mNotV (a : MM D) : MM D := bnd a fun x => bnd (lft (asB x)) fun k => ret (.bl (!k))
def mTupD (m : MM (List D)) : MM D := bnd m fun ds => lft (mTup ds)
def mLstD (m : MM (List D)) : MM D := bnd m fun ds => lft (mLst ds)
def mLstO (m : MM (List D)) : MM Own := bnd m fun ds => lft (if ds.length ≤ cap then some (.lst ds) else none)
def mCbO (op : List D → Option (List D)) (a : MM (List D)) : MM Own := bnd a fun x => lft ((op x).map .lst)
def mOpO (op : D → D → Option (List D)) (a b : MM D) : MM Own := bnd a fun x => bnd b fun y => lft ((op x y).map .lst)
def mPart (m : MM D) : MM (Option Int) := bnd m fun d => lft ((asI d).map some)
def mSetAtO (i : Nat) (me mk : MM D) : MS := fun ρ => match ownAt ρ i with
    | some (.lst _) => mSetAt i me mk ρ
    | _ => none
def mChain (op op' : D → D → Option D) (a b d : MM D) : MM D := bnd a fun x => bnd b fun y => bnd (lft (op x y)) fun z => bnd (lft (asB z)) fun k => if k = true then bnd d fun w => lft (op' y w) else ret (.bl false)
theorem se_chain {r r' : R2} {op op' : D → D → Option D} {ta tb td : TE} {ma mb md : MM D} (ho : ROp c r op) (ho' : ROp c r' op') (ha : SE c ta ma) (hb : SE c tb mb) (hd : SE c td md) : SE c (tChain r r' ta tb td) (mChain op op' ma mb md) := by
  intro ρ rr e s σ hs Q q
  refine sx_go (t := ta) ha e hs q fun x a ρ s e hs rx q tr => ?_
  refine sx_go (t := tb) hb e hs q fun y b ρ s1 e hs1 ry q tr1 => ?_
  rcases bnd_cases e with ⟨z, ρ2, e1, e2⟩ | ⟨x', ρ2, e1, _⟩
  · obtain ⟨z', e3, e4⟩ := lft_cases e1
    cases e4
    rcases bnd_cases e2 with ⟨k, ρ3, e5, e6⟩ | ⟨x', ρ3, e5, _⟩
    · obtain ⟨k', e7, e8⟩ := lft_cases e5
      cases e8
      refine ho _ _ x y a b _ hs1.wd (rx.mono tr1.w) ry e3 _ fun v W' H' n rv => ?_
      cases z <;> try (cases e7; done)
      cases e7
      cases rv
      refine ⟨_, rfl, ?_⟩
      have hs2 := hs1.nw n
      have q2 := q.after (.nw n)
      split at e6
      · rename_i hk
        rw [if_pos hk]
        refine sx_go (t := td) (s := ⟨W', H', s1.A⟩) hd e6 hs2 q2 fun w d ρ s3 e hs3 rw' q tr3 => ?_
        obtain ⟨z2, e9, rfl⟩ := lft_cases e
        exact ho' _ _ y w b d _ hs3.wd ((ry.mono n.w).mono tr3.w) rw' e9 _ (post_nw hs3 q)
      · rename_i hk
        rw [if_neg hk]
        cases e6
        exact q2 _ ⟨W', H', s1.A⟩ hs2 .refl (.bl _)
    · obtain ⟨_, _, e8⟩ := lft_cases e5
      cases e8
  · obtain ⟨_, _, e8⟩ := lft_cases e1
    cases e8
def dNeg : D → Option D
  | .int i => some (.int (-i))
  | _ => none
theorem run_neg : RUn c (rU fun i => .int (-i)) dNeg := by
  intro W H x a d w rx e Q q
  cases a <;> try (cases e; done)
  cases e
  cases rx
  exact ⟨_, rfl, q _ W H w.nref (.int _)⟩
def dPow : D → D → Option D := dInt2 (fun i j => decide (0 ≤ j) && decide (j ≤ 1000000) && decide (i.natAbs < 2 ^ 64)) fun i j => .int (i ^ j.toNat)
theorem rop_pow : ROp c (rI CPow fun i j => .int (i ^ j.toNat)) dPow := rop_I (fun i j h => by
  rw [Bool.and_eq_true, Bool.and_eq_true] at h
  exact ⟨of_decide_eq_true h.1.1, of_decide_eq_true h.1.2, of_decide_eq_true h.2⟩) fun _ _ _ => .int _
def dIpAdd : D → D → Option D := dInt fun i j => .int (i + j)
theorem rop_ipadd : ROp c (ipI fun i j => i + j) dIpAdd := by
  intro W H x y a b d w rx ry e Q q
  cases a <;> try (cases e; done)
  cases b <;> try (cases e; done)
  cases rx; cases ry; cases e
  exact ⟨_, _, rfl, rfl, q _ W H w.nref (.int _)⟩
theorem Ln_pin {n : Nat} {m : MM (List D)} (h : Ln n m) : ∀ ρ as ρ', m ρ = some (.ok as ρ') → as.length + 1 = n + 1 := fun ρ as ρ' e => by rw [h _ _ _ e]
/-- within a comprehension nothing is raised -/
theorem takesQ {X : Cx} {ca : Str → Addr} : Takes X (wOf ca fun _ _ _ => False) := L2.takes0.imp fun _ _ _ _ ⟨_, _, _, h⟩ => h
theorem takesB {X : Cx} {ca : Str → Addr} {E : XK} (h : Takes X fun cls d _ H => E cls d H) : Takes X (wOf ca fun x _ H => E (.ref (ca x)) none H) := h.imp fun cls d σ H ⟨x, h1, h2, h3⟩ => by
  subst h1 h2
  exact h3
end
/-- a def, as it is called -/
structure Cal (P : Program) (w : World) (K : PySem.W.Frag) (mg : Str → Option Value) (base : Heap) (tb : TBs) (ca : Str → Addr) (x : Str) (k : Nat) (ps : List Str) (Pm : Nat → Bool) (F : Env → Option (Res D)) (f : Addr) (fd : FuncData) : Prop where
  ok : FnOk P w K mg base (L2.CX P w) k f fd ps (spG K tb ca Pm ps.length F)
  g : mg x = some (.ref f)
  kp : PySem.W.keepIn K (.ref f) = true
  b : Binds K fd ps []
/-- an own class of exceptions -/
structure ExcC (K : PySem.W.Frag) (mg : Str → Option Value) (ca : Str → Addr) (x : Str) : Prop where
  g : mg x = some (.ref (ca x))
  ex : PySem.W.excIn K (ca x) [.type "ValueError", .type "Exception", .type "BaseException", .type "object"] "ValueError.__new__" = true
  kp : PySem.W.keepIn K (.ref (ca x)) = true
  xm : PySem.W.exmOne K (.ref (ca x)) (.ref (ca x)) = some true
  sub : PySem.W.subIn K (.ref (ca x)) (.type "BaseException") = some true
  ty : PySem.W.typeIn K (.ref (ca x)) = some (.type "type")
end PD
end
section
set_option maxHeartbeats 0
namespace PD
open PySem PySem.Spec PyProof.Rows L2
/-! ### a dict of the module's top: texts to texts -/
structure WDic (K : PySem.W.Frag) (w : World) (mg : Str → Option Value) (x : Str) (a : Addr) (kvs : List (Str × Str)) : Prop where
  g : mg x = some (.ref a)
  kd : ∃ es n, KDict K w a es n
  val : ∀ q ∈ kvs, ∃ u, PySem.W.nsIn K a q.1 = some (some u) ∧ RelV (.str q.2) u
  out : ∀ z, z ∉ kvs.map (·.1) → PySem.W.nsIn K a z = some none
def dWGet (kvs : List (Str × Str)) : D → Option D
  | .str z => (kvs.find? fun q => decide (q.1 = z)).map fun q => .str q.2
  | _ => none
def dWNotIn (kvs : List (Str × Str)) : D → Option D
  | .str z => some (.bl (!(kvs.any fun q => decide (q.1 = z))))
  | _ => none
def rWNot (K : PySem.W.Frag) (d : Addr) : R2 := fun x y H Q => ∃ (z : Str) (r : Option Value), x = .str z ∧ y = .ref d ∧ PySem.W.nsIn K d z = some r ∧ Q (.bl (!r.isSome)) H
section
variable {c : Cc} {w : World} {mg : Str → Option Value} {x : Str} {a : Addr} {kvs : List (Str × Str)}
theorem se_wget {tk : TE} {mk : MM D} (d : WDic c.K w mg x a kvs) (h : SE c tk mk) : SE c (tOp (rIxD c.K w) (tC (.ref a)) tk) (mUn (dWGet kvs) mk) := by
  intro ρ rr e s σ hs Q q
  refine sx_go (t := tk) (R := fun y H2 => rIxD c.K w (.ref a) y H2 Q) h e hs q fun y k ρ s e hs ry q tr => ?_
  obtain ⟨v, e3, rfl⟩ := lft_cases e
  cases k <;> try (cases e3; done)
  rename_i z
  cases ry
  obtain ⟨p, hp, rfl⟩ := Option.map_eq_some_iff.mp e3
  have h1 : p.1 = z := by
    have z1 := List.find?_some hp
    exact of_decide_eq_true z1
  obtain ⟨u, hu, ru⟩ := d.val p (List.mem_of_find?_eq_some hp)
  obtain ⟨es, n, hk⟩ := d.kd
  rw [h1] at hu
  exact ⟨a, z, .str p.2, rfl, rfl, ⟨es, n, u, hk.at_, hk.lit, hu, ru⟩, q _ s hs .refl (.str _)⟩
theorem se_wnot {tk : TE} {mk : MM D} (d : WDic c.K w mg x a kvs) (h : SE c tk mk) : SE c (tOp (rWNot c.K a) tk (tC (.ref a))) (mUn (dWNotIn kvs) mk) := by
  intro ρ rr e s σ hs Q q
  refine sx_go (t := tk) (R := fun y H2 => rWNot c.K a y (.ref a) H2 Q) h e hs q fun y k ρ s e hs ry q tr => ?_
  obtain ⟨v, e3, rfl⟩ := lft_cases e
  cases k <;> try (cases e3; done)
  rename_i z
  cases ry
  cases e3
  by_cases hz : z ∈ kvs.map (·.1)
  · obtain ⟨p, hp, ep⟩ := List.mem_map.mp hz
    obtain ⟨u, hu, ru⟩ := d.val p hp
    rw [ep] at hu
    have : (kvs.any fun q => decide (q.1 = z)) = true := List.any_eq_true.mpr ⟨p, hp, decide_eq_true ep⟩
    rw [this] at q
    exact ⟨z, some u, rfl, rfl, hu, q _ s hs .refl (.bl _)⟩
  · have : (kvs.any fun q => decide (q.1 = z)) = false := by
      rw [List.any_eq_false]
      intro p hp e
      exact hz (List.mem_map.mpr ⟨p, hp, of_decide_eq_true e⟩)
    rw [this] at q
    exact ⟨z, none, rfl, rfl, d.out z hz, q _ s hs .refl (.bl _)⟩
end
/-- from a head's facts -/
theorem dic_out {K : PySem.W.Frag} {P : Params} {a : Addr} {ks : List Str} (h : He.dicW K a = some (He.keysIn P ks)) : ∀ z, z ∉ ks → PySem.W.nsIn K a z = some none := by
  intro z hz
  unfold He.dicW at h
  unfold PySem.W.nsIn
  cases q : K.lookup a with
  | none => rw [q] at h; cases h
  | some o =>
    obtain ⟨oc, od, dt, osl⟩ := o
    rw [q] at h
    cases oc with
    | type cc =>
      cases od with
      | none =>
        cases dt with
        | dict es n =>
          have h1 : (match decide (cc = "dict") && (osl.isEmpty && !(a == sysModules)) with
            | true => some (es.toList.map He.keyOf)
            | false => none) = some (He.keysIn P ks) := h
          split at h1
          · have h2 := Option.some.inj h1
            have key : ∀ e ∈ es.toList, ∃ y t, e.key = .str y t ∧ y ∈ ks := fun e he => by
              have : He.keyOf e ∈ He.keysIn P ks := by rw [← h2]; exact List.mem_map.mpr ⟨e, he, rfl⟩
              unfold He.keysIn at this
              obtain ⟨y, hy, ey⟩ := List.mem_map.mp this
              unfold He.keyOf at ey
              split at ey
              · rename_i y' t e2
                have := Option.some.inj ey
                exact ⟨y', t, e2, by rw [← (Prod.mk.inj this).1]; exact hy⟩
              · cases ey
            have nf : es.toList.find? (·.key.isStr z) = none := by
              rw [List.find?_eq_none]
              intro e he hs
              obtain ⟨y, t, e1, hy⟩ := key e he
              rw [e1] at hs
              have hzy : z = y ∨ y = z := by
                simp only [Value.isStr] at hs
                first
                  | exact .inl (of_decide_eq_true hs)
                  | exact .inr (of_decide_eq_true hs)
                  | exact .inr (beq_iff_eq.mp hs)
                  | exact .inl (beq_iff_eq.mp hs)
              rcases hzy with rfl | rfl <;> exact hz hy
            have nr : es.toList.any (·.refKey) = false := by
              rw [List.any_eq_false]
              intro e he hs
              obtain ⟨y, t, e1, hy⟩ := key e he
              simp only [DictEntry.refKey, e1] at hs
              first
                | cases hs
                | exact absurd hs Bool.false_ne_true
            simp only [nf, nr]
            rfl
          · cases h1
        | _ => cases h
      | some b => cases dt <;> cases h
    | _ => cases od <;> cases dt <;> cases h
end PD
end
section
set_option maxHeartbeats 0
/-! any of a generator expression over a text's signs, its test one that may read the module's names -/
namespace PD
open PySem PySem.Spec PyProof.Rows L2 GxR
/-- the test of a sign, wherever the module's names are as they were -/
def EltG (prog : Program) (w : World) (mg : Str → Option Value) (scope : Scope) (x : Str) (elt : Expr) (pb : Nat → Bool) : Prop :=
  ∀ (cenv : PySem.Env) (A' : Around) (E' : Value → Shared → Prop) (c : Nat) (t : Tok) (s₂ : Shared) (m₂ : Str → Option Value), cenv.scope = scope → cenv.globals = mainGlobals → s₂.heap.Ns mainGlobals mg → s₂.heap.Ns cenv.locals m₂ → m₂ x = some (.str ⟨#[c]⟩ t) →
    wpAny (model prog w) A' (eval elt cenv) (fun y s₃ => y = .bool (pb c) ∧ Keeps s₂ s₃) E' s₂
/-- x not in NAME, NAME a text of the module -/
theorem eltG_notIn {prog : Program} {w : World} {mg : Str → Option Value} {scope : Scope} {x g z : Str} {tz : Tok} {p1 p2 p3 : Pos} (hk : scope.kind = .function) (hl : scope.names.lookup x = some .local) (hg : scope.names.lookup g = some .globalImplicit) (hm : mg g = some (.str z tz))
    (hd : (x == ("__debug__" : Str)) = false := by decide) (hd2 : (g == ("__debug__" : Str)) = false := by decide) :
    EltG prog w mg scope x (.Compare (.Name x p1) [.NotIn] [.Name g p2] p3) (fun c => !decide (c ∈ z.cps.toList)) := by
  intro cenv A' E' c t s₂ m₂ hs hgl hG hn hmx
  refine wpAny_Compare1 ?_ (by rfl)
  refine wpAny_Name (wpAny_loadName_local (by rw [hs]; exact hk) (show cenv.scope.names.lookup x = some .local by rw [hs]; exact hl) hn hmx ?_) hd
  refine Calls.Name_function_global (by rw [hs]; exact hk) (show cenv.scope.names.lookup g = some .globalImplicit by rw [hs]; exact hg) (Calls.loadGlobal_global (by rw [hgl]; exact hG) hm ?_) hd2
  exact PyProof.Rows.notIn_str ⟨congrArg Value.bool (congrArg Bool.not (PySem.StrLaws.found_one z c)), keeps_refl _⟩
section
variable {X : Cx} {pins : List (Addr × Obj)} {σ : L2.St} {H : Hp} {s : Shared}
/-- what stood ahead of the walk is none of what the generator writes -/
theorem old_not_new {h h3 : Heap} {b : Addr} {u : Obj} (e : h.get? b = some u) (hz : h.objs.size ≤ h3.objs.size) : b ∉ [h3.objs.size, h.objs.size] := fun hb => by
  have l : b < h.objs.size := Heap.lt_size e
  simp only [List.mem_cons, List.not_mem_nil, or_false] at hb
  rcases hb with z | z
  · have : b < h3.objs.size := Nat.lt_of_lt_of_le l hz
    rw [z] at this
    exact Nat.lt_irrefl _ this
  · rw [z] at l
    exact Nat.lt_irrefl _ l
/-- the generator's walk begun: what its maker hands on -/
theorem genG {cc P : Addr} {elt iter : Expr} {x : Str} {px gpos : Pos} {scope : Scope} {pb : Nat → Bool} {te : TE} {k : Nat} {Q' : Value → Shared → Prop} {R : Str → Hp → Prop}
    (hr : Room k X.A) (T : TabB X.base X.mg cc P) (hcode : X.env.code = .ref cc) (S : GenS X.env scope x) (hi : PE X iter te) (hel : EltG X.prog X.w X.mg scope x elt pb) (hfold : ∀ v, genFold iter X.env v = pure v) (I : Inv X pins σ H s)
    (h : te σ H fun v H1 => ∃ a : Str, v = .str a ∧ TabG H1 P ∧ R a H1) (fin : ∀ a H1 g s5, R a H1 → Ready X pins σ H1 P a pb g s5 → Q' (.ref g) s5) :
    wpAny (model X.prog X.w) X.A (eval (.GeneratorExp elt [⟨.Name x px, iter, [], 0⟩] scope gpos) X.env) Q' X.xe s := by
  have roomy : X.A.depth < recursionLimit := by
    have q := hr.dp
    omega
  refine wpAny_GeneratorExp_walksQ hr.hd S.co (closure_ok S.free) S.cell S.dot S.loc S.kind roomy (thn (hi.run pins s σ H _ I h) ?_) hfold
  rintro xv s1 ⟨v, H1, I1, r1, a, rfl, ⟨ps, hP, tri⟩, hR⟩
  obtain ⟨t, rfl⟩ := id r1
  refine wpAny_pyIter_str fun o St W st0 => ?_
  -- the heap: s1's, the iterator o, then (it may be) the code object, in the table at P
  have atP : s1.heap.get? P = some { cls := .none, data := .fields ps } := I1.hok P _ hP
  have cls1 : cStatics < s1.heap.objs.size := by
    obtain ⟨_, z, _⟩ := I1.nolimit
    exact z.lt
  have notP : cStatics ≠ P := fun z => by
    obtain ⟨_, ⟨o', es, ep, e1, e2, _⟩, _⟩ := I1.nolimit
    rw [z, atP] at e1
    cases e1
    cases e2
  have up : ∀ b u, s1.heap.get? b = some u → (s1.heap.push o).get? b = some u := fun b u e => Heap.get?_push_of_some _ e
  have hcd : PySem.W.CodeHd (s1.heap.push o) cc P := T.code.keeps fun b u e => up b u (I1.bk b u e)
  refine ⟨I1.nolimit.push o, ?_⟩
  -- behind the code object: the same for both ways
  have rest : ∀ (code : Value) (h3 : Heap) (tk : Nat) (qs more : Array Value), Heap.ExtBut P (s1.heap.push o) h3 → (s1.heap.push o).objs.size ≤ h3.objs.size → h3.get? P = some { cls := .none, data := .fields qs } → qs = ps ++ more → TriplesOk qs.toList →
      wpAny (model X.prog X.w) X.A (builtinsFor X.env.globals X.env.builtins) (fun bi s₄ =>
        ∃ Ia fp wr n₀ Pf St₀ pz F, Value.ref s1.heap.objs.size = .ref Ia ∧ (∀ A' : Around, A'.handled = none → Walks X.prog X.w A' Ia fp wr n₀ Pf St₀) ∧ St₀ 0 s₄.heap ∧ (∀ b ∈ fp, b < s₄.heap.objs.size) ∧ s₄.heap.NoLimit ∧ cStatics ∉ wr ∧
          (∀ href : Heap, (∀ b o, s₄.heap.get? b = some o → href.get? b = some o) →
            QuietGen X.prog X.w (genEnv scope (cloFrom X.env.cells scope.names []) s₄.heap.objs.size code bi X.env) x [] elt (List.range s₄.heap.objs.size) wr Pf pz F href) ∧
          (∀ a h₅ tk gs, gs.bare = true → s₄.heap.objs.size < a → h₅.objs.size = a + 1 → (∀ b o, s₄.heap.get? b = some o → h₅.get? b = some o) →
            WalksS X.prog X.w X.A.in4 a (a :: s₄.heap.objs.size :: List.range s₄.heap.objs.size) (s₄.heap.objs.size :: wr) (GenOnlyQ s₄.gens.size) (passing pz n₀ 0).length
              (fun j y => ∃ i, (passing pz n₀ 0)[j]? = some i ∧ F i y) (GenAt X.prog X.w X.A.in4 a s₄.gens.size s₄.heap.objs.size (List.range s₄.heap.objs.size) wr pz n₀ F) →
            GenAt X.prog X.w X.A.in4 a s₄.gens.size s₄.heap.objs.size (List.range s₄.heap.objs.size) wr pz n₀ F 0 { s₄ with gens := s₄.gens.push gs, toks := tk, heap := h₅ } →
            Q' (.ref a) { s₄ with gens := s₄.gens.push gs, toks := tk, heap := h₅ })) X.xe { s1 with heap := h3, toks := tk } := by
    intro code h3 tk qs more ext size3 atP3 eqs tri3
    obtain ⟨bm, ob, b1, b2, b3, b4, b5, b6, b7, b8⟩ := T.bm
    have keep : ∀ b u, b ≠ P → s1.heap.get? b = some u → h3.get? b = some u := fun b u hb e => ext b u hb (up b u e)
    have glob3 : h3.Ns mainGlobals X.mg := ((I1.mod.glob.keeps I1.bk).push o).extBut ext T.gP
    have one : s1.heap.objs.size < h3.objs.size := by
      have z : (s1.heap.push o).objs.size = s1.heap.objs.size + 1 := Heap.size_push ..
      omega
    refine wpAny_builtinsFor (m := X.mg) (by rw [I1.ok.glob]; exact glob3) b1 b2 (keep _ _ b4 (I1.bk _ _ b5)) b6 b7 b8 ?_
    refine ⟨_, [s1.heap.objs.size], [s1.heap.objs.size], a.cps.size, SignAt a, St, fun _ => true, fun i y => ∃ ch, a.cps[i]? = some ch ∧ y = .bool (pb ch), rfl, W, ?_, ?_, (I1.nolimit.push o).extBut ext notP, ?_, ?_, ?_⟩
    · exact (W X.A hr.hd).frame _ _ _ st0 fun b hb u e => ext b u (by
        have eb : b = s1.heap.objs.size := by simpa using hb
        rw [eb]
        exact Nat.ne_of_gt (Heap.lt_size atP)) e
    · intro b hb
      have eb : b = s1.heap.objs.size := by simpa using hb
      rw [eb]
      exact one
    · intro z
      have eb : cStatics = s1.heap.objs.size := by simpa using z
      exact Nat.ne_of_lt cls1 eb
    · intro href sub
      constructor
      · intro A' E' i v s₂ m₂ _ _ _ _ _
        simp only [List.forIn_nil]
        exact wpAny_pure ⟨rfl, keeps_refl _⟩
      · intro A' E' i v s₂ m₂ _ hv _ hn hm hk
        obtain ⟨ch, u, hch, rfl⟩ := hv
        have globs : s₂.heap.Ns mainGlobals X.mg := by
          obtain ⟨og, es, ep, g1, g2⟩ := glob3
          have gl : mainGlobals < s1.heap.objs.size := by
            obtain ⟨_, _, _, z, _⟩ := I1.mod.glob.keeps I1.bk
            exact Heap.lt_size z
          refine ⟨og, es, ep, hk mainGlobals (List.mem_range.mpr (Nat.lt_trans gl one)) ?_ og (sub _ _ g1), g2⟩
          intro z
          have eb : mainGlobals = s1.heap.objs.size := by simpa using z
          exact Nat.ne_of_lt gl eb
        exact wpAny_mono (hel _ A' E' ch u s₂ m₂ rfl I1.ok.glob globs hn hm) (fun y s3 r => ⟨⟨ch, hch, r.1⟩, r.2⟩) fun _ _ e => e
    · intro g h5 tk5 gs bare hag size5 keep5 W5 at5
      simp only [GxR.passing_true, List.length_range] at W5
      refine fin a H1 g _ hR ⟨_, _, _, _, _, W5.in4_1, at5, ?_, ?_⟩
      · rintro j y sj Qj Ej ⟨i, hij, ch, hch, rfl⟩ hQj
        obtain ⟨hj, ej⟩ := List.getElem?_eq_some_iff.mp hij
        rw [List.getElem_range] at ej
        subst ej
        have z : trF pb a.cps.toList j = pb ch := trF_some (by rw [Array.getElem?_toList]; exact hch)
        rw [z] at hQj
        exact wpAny_truthy_bool hQj
      · intro s' moved
        subst eqs
        have J := inv_tab (more := more) (h' := s'.heap) (g' := s'.gens) (d' := s'.drawn) (t' := s'.toks) I1 hP (fun b u hb e => moved.heap b u (old_not_new e (Nat.le_of_lt one)) (keep5 b u (keep b u hb e)))
          (moved.heap P _ (old_not_new atP (Nat.le_of_lt one)) (keep5 P _ atP3)) (AllBare.movedS (I1.bare.push bare) moved)
        rw [sh_eta s1 s' moved.os] at J
        exact ⟨_, ⟨⟨ps ++ more, upd_same, tri3⟩, fun b hb => upd_ne hb⟩, J⟩
  cases hf : codeAmong gpos ps.toList with
  | some cv =>
    exact wpAny_genexprCode_hit hcode (hcd.code (up P _ atP) tri) hf (rest cv (s1.heap.push o) s1.toks ps #[] (Heap.ExtBut.refl _ _) (Nat.le_refl _) (up P _ atP) (by simp) tri)
  | none =>
    refine wpAny_genexprCodeX hcode (hcd.code (up P _ atP) tri) (hcd.tab (up P _ atP)) hf fun c' h' tk hx hge hlt hco _ htab _ => ?_
    obtain ⟨_, _, _, _, _, _, _, _, _, _, _, _, _, _, _, _, _, _, _, tri', _⟩ := hco
    exact rest _ h' tk _ _ hx (Nat.le_trans hge (Nat.le_of_lt hlt)) htab.2 rfl tri'
theorem pe_anyG {cc P : Addr} {elt iter : Expr} {x : Str} {px p pos gpos : Pos} {scope : Scope} {pb : Nat → Bool} {te : TE} {k : Nat}
    (hr : Room k X.A) (hg : Gl X "any") (hm : X.mg "any" = none) (T : TabB X.base X.mg cc P) (hcode : X.env.code = .ref cc) (S : GenS X.env scope x) (hi : PE X iter te) (hel : EltG X.prog X.w X.mg scope x elt pb) (hfold : ∀ v, genFold iter X.env v = pure v)
    (he : starEach [.GeneratorExp elt [⟨.Name x px, iter, [], 0⟩] scope gpos] X.env = (false, eval (.GeneratorExp elt [⟨.Name x px, iter, [], 0⟩] scope gpos) X.env) :: starEach [] X.env := by rfl) :
    PE X (.Call (.Name "any" p) [.GeneratorExp elt [⟨.Name x px, iter, [], 0⟩] scope gpos] [] pos) (tAnyS P pb te) := by
  refine ⟨fun pins s σ H Q I h => wpAny_Call_Name_kw (ld_blt I hg hm boot_any ?_)⟩
  refine PyProof.Rows.callWith_builtin1 ?_ he (by rfl)
  rw [he]
  show wpAny _ _ (spliced ((false, eval (.GeneratorExp elt [⟨.Name x px, iter, [], 0⟩] scope gpos) X.env) :: backTo pos (starEach [] X.env))) _ _ s
  refine Calls.spliced_cons (genG (R := fun a H1 => ∀ H2, Tabbed P H1 H2 → Q (.bl (a.cps.toList.any pb)) H2) hr T hcode S hi hel hfold I h ?_)
  rintro a H1 g s5 hR ⟨fp, wr, G, F, St, W, hst, htr, hI⟩
  refine Calls.spliced_nil (call_any_walkS (W.self 0 _ _ _ hst ⟨g, fp, wr, G, _, F, St, _, rfl, W, hst, htr, fun s' moved => ?_⟩))
  obtain ⟨H2, hT, J⟩ := hI s' moved
  exact ⟨.bl _, H2, J, rfl, by rw [any_signs a pb]; exact hR H2 hT⟩
end
section
variable {c : Cc}
def dAnyS (pb : Nat → Bool) : D → Option D
  | .str a => some (.bl (a.cps.toList.any pb))
  | _ => none
theorem se_anyS {P : Addr} {pb : Nat → Bool} {te : TE} {m : MM D} (hP : P ∈ c.tb.GT) (hL : ∀ q ∈ c.tb.LT, q.1 ≠ P) (h : SE c te m) : SE c (tAnyS P pb te) (mUn (dAnyS pb) m) := by
  intro ρ rr e s σ hs Q q
  refine sx_go (t := te) h e hs q fun x a ρ s e hs rx q tr => ?_
  obtain ⟨d, e3, rfl⟩ := lft_cases e
  cases a <;> try (cases e3; done)
  cases e3
  cases rx
  obtain ⟨ps, hp, ht⟩ := hs.tb.2 P hP
  refine ⟨_, rfl, ⟨ps, hp, ht⟩, fun H2 tabbed => ?_⟩
  obtain ⟨⟨ps2, hp2, ht2⟩, same⟩ := tabbed
  have k : ∀ b o, NTbl o → s.H b = some o → H2 b = some o := fun b o no e => by
    have : b ≠ P := fun z => by rw [z, hp] at e; cases e; exact no _ rfl
    rw [same b this]; exact e
  have n : Nw c.tb s.W s.H s.W H2 := by
    refine ⟨Ex.refl _, fun a o e => k a o (hs.nt a o e) (hs.ex a o e), hs.nt, fun _ _ h => h, fun a o e no => k a o no e, fun a h => ?_, ⟨fun q hq => ?_, fun P' hP' => ?_⟩⟩
    · by_cases ha : a = P
      · rw [ha, hp2]; exact fun z => nomatch z
      · rw [same a ha]; exact h
    · obtain ⟨ps3, h1, h2, h3⟩ := hs.tb.1 q hq
      refine ⟨ps3, by rw [same _ (hL q hq)]; exact h1, h2, fun pos cv hc => ?_⟩
      obtain ⟨c', e1, e2⟩ := h3 pos cv hc
      exact ⟨c', e1, k _ _ (fun _ z => nomatch z) e2⟩
    · by_cases ha : P' = P
      · rw [ha]; exact ⟨ps2, hp2, ht2⟩
      · obtain ⟨ps3, h1, h2⟩ := hs.tb.2 P' hP'
        exact ⟨ps3, by rw [same _ ha]; exact h1, h2⟩
  exact post_nw hs q _ _ _ n (.bl _)
end
end PD
end
section
set_option maxHeartbeats 0
/-! PDL: a lambda without parameters, handed to a def that tells an error by a text; all tables but the maker's own stay as they are. -/
namespace PD
open PySem PySem.Spec PyProof.Rows L2 LamX
/-- H' has all that H has, but for what stands at P -/
def KeepBut (P : Addr) (H H' : Hp) : Prop := ∀ b o, b ≠ P → H b = some o → H' b = some o
section
variable {X : Cx} {pins : List (Addr × Obj)} {σ : L2.St} {H : Hp} {s : Shared}
theorem lamMk {c P : Addr} {params : Arguments} {body : Expr} {scope : Scope} {pos : Pos} {E : Value → Shared → Prop} {Q : Value → Shared → Prop} (I : Inv X pins σ H s) (TB : LamX.TabB X.base X.mg c P) (hcode : X.env.code = .ref c)
    (hT : TabS H P (X.env.qual ++ "<lambda>")) (hdef : defaultsOf params X.env = ([], [])) (hfree : ∀ y ∈ scope.names, y.2 = .free → ∃ c, X.env.cells.lookup y.1 = some c)
    (h : ∀ (f c' : Addr) (pm ctv : Value) (H1 : Hp) (s' : Shared), Inv X pins σ H1 s' → KeepBut P H H1 → TabS H1 P (X.env.qual ++ "<lambda>") →
      s'.heap.get? f = some (PySem.W.kla_obj "<lambda>" (X.env.qual ++ "<lambda>") params body scope (cloFrom X.env.cells scope.names []) pm c' ctv) → H1 f = none → f ∉ frs X.stack → H1 c' = some (CodeO c' (X.env.qual ++ "<lambda>")) → Q (.ref f) s') :
    wpAny (model X.prog X.w) X.A (eval (.Lambda params body scope pos) X.env) Q E s := by
  obtain ⟨ps, hP, ht, ha⟩ := hT
  refine PySem.W.kla_eval hdef ?_
  have bP : s.heap.BuiltinsAt X.mg P := TB.bm.keeps I.bk
  have hP' := I.hok P _ hP
  have nofr : ∀ f, s.heap.objs.size ≤ f → f ∉ frs X.stack := fun f hf z => (List.mem_cons.mp (I.stkSub _ z)).elim (fun e => Nat.lt_irrefl _ (Nat.lt_of_lt_of_le (e ▸ I.lt) hf)) (fun e => I.nofs hf e)
  cases hc : codeAmong pos ps.toList with
  | some cv =>
    obtain ⟨c', rfl, hco⟩ := ha pos cv hc
    refine PySem.W.kla_makeFunctionHit (mg := X.mg) (c := c) (P := P) (ps := ps) (closure_ok hfree) I.ok.glob (I.mod.glob.keeps I.bk) hcode (TB.code.keeps I.bk) hP' ht hc bP fun ctv h' tk hx hsz => ?_
    exact h h'.objs.size c' _ ctv H _ (I.kept fun b o e => Heap.get?_push_of_some _ (hx b o e)) (fun _ _ _ e => e) ⟨ps, hP, ht, ha⟩ (Heap.get?_push_size _ rfl) (I.hok.fresh hsz) (nofr _ hsz) hco
  | none =>
    refine PySem.W.kla_makeFunction (mg := X.mg) (c := c) (P := P) (ps := ps) (closure_ok hfree) I.ok.glob (I.mod.glob.keeps I.bk) hcode (TB.code.keeps I.bk) hP' ht hc TB.gP bP fun c' ctv h' tk hx hge hlt hrec htb => ?_
    obtain ⟨c2, oc, vs, t, e2, hoc, hd, hv⟩ := hrec
    cases e2
    have hsz : s.heap.objs.size ≤ h'.objs.size := Nat.le_trans hge (Nat.le_of_lt hlt)
    have nC : H c' = none := I.hok.fresh hge
    have I1 := inv_table (t' := tk) (more := #[rawInt pos.line, rawInt pos.col, .ref c']) (h' := h'.push (PySem.W.kla_obj "<lambda>" (X.env.qual ++ "<lambda>") params body scope (cloFrom X.env.cells scope.names []) ((X.mg "__name__").getD .none) c' ctv)) I hP
      (fun b o hb e => Heap.get?_push_of_some _ (hx b o hb e)) (Heap.get?_push_of_some _ htb) hge ⟨oc, vs, t, Heap.get?_push_of_some _ hoc, hd, hv⟩
    have kp : KeepBut P H (upd (upd H P (.tbl (ps ++ #[rawInt pos.line, rawInt pos.col, .ref c']))) c' (CodeO c' (X.env.qual ++ "<lambda>"))) := fun b o n e => by
      rw [upd_ne (ne_of_none e nC), upd_ne n]; exact e
    refine h h'.objs.size c' _ ctv _ _ I1 kp ⟨_, by rw [upd_ne (ne_of_none hP nC), upd_same], ?_, fun p' cv hcv => ?_⟩ (Heap.get?_push_size _ rfl) ?_ (nofr _ hsz) upd_same
    · rw [show (ps ++ #[rawInt pos.line, rawInt pos.col, Value.ref c']).toList = ps.toList ++ [rawInt pos.line, rawInt pos.col, .ref c'] by simp]
      exact PySem.TriplesOk_snoc _ _ _ _ ht
    · rw [show (ps ++ #[rawInt pos.line, rawInt pos.col, Value.ref c']).toList = ps.toList ++ [rawInt pos.line, rawInt pos.col, .ref c'] by simp] at hcv
      rcases among_app _ ht hcv with z | z
      · obtain ⟨c0, e1, e2⟩ := ha p' cv z
        exact ⟨c0, e1, kp _ _ (fun q => by rw [q, hP] at e2; exact codeO_ne _ (Option.some.inj e2).symm) e2⟩
      · exact ⟨c', z, upd_same⟩
    · rw [upd_ne (Nat.ne_of_gt hlt : h'.objs.size ≠ c'), upd_ne (Nat.ne_of_gt (Nat.lt_of_lt_of_le (Heap.lt_size hP') hsz) : h'.objs.size ≠ P)]
      exact I.hok.fresh hsz
def tLamP (P : Addr) (q : Str) (TT : (XK → Hp → VK → Prop) → Hp → VK → Prop) (t : XK → TE) : TE := fun σ H Q => TabS H P q ∧ ∀ H1, KeepBut P H H1 → TabS H1 P q → TT (fun E H' Q' => t E σ H' Q') H1 Q
theorem pe_lamP {TT : (XK → Hp → VK → Prop) → Hp → VK → Prop} {x a : Str} {g c P : Addr} {k : Nat} {pg : Arguments} {bg : List Stmt} {sg : Scope} {dV kV doc pm cdv ct oc : Value} {an od : Option Addr} {osl : Array (Option Value)} {Ng : List Str}
    {params : Arguments} {body : Expr} {scope : Scope} {t : XK → TE} {p lpos pos : Pos} (hg : Gl X x) (hm : X.mg x = some (.ref g)) (hk : PySem.W.keepIn X.K (.ref g) = true)
    (lk : X.K.lookup g = some ⟨oc, od, .func (PySem.W.fnOf x x pg bg sg dV kV doc pm an cdv ct), osl⟩) (hcg : PySem.W.codeIn X.K cdv x = true) (hb : L2.Binds X.K (PySem.W.fnOf x x pg bg sg dV kV doc pm an cdv ct) [a] []) (Sg : FnScope Ng [a] sg) (hNg : Ng[0]? = some a) (hva : Vis sg a)
    (hG : GivesTo X Ng x sg g cdv bg a (X.env.qual ++ "<lambda>") TT)
    (TB : LamX.TabB X.base X.mg c P) (hcode : X.env.code = .ref c) (hr : Room (k + 2) X.A) (L : LamS X.env.scope scope) (hdef : defaultsOf params X.env = ([], []))
    (hbind : ∀ (q : Str) (cl : List (Str × Addr)) (pm cv ctv : Value), bindArgs (PySem.W.kla_fn "<lambda>" q params body scope cl pm cv ctv) ⟨[], []⟩ = pure [])
    (hbody : ∀ (A : Around) (outer : List PySem.Env) (s : Shared) (H : Hp) (E : XK) (f c' : Addr), Room k (A.deeper (lamEnv X scope s.heap.objs.size f c')) → PE (lamCx X A outer s H E scope f c') body (t E))
    (hdb : (x == ("__debug__" : Str)) = false := by decide) (hd : (a == ("__debug__" : Str)) = false := by decide) (hcd : (a == ("__classdict__" : Str)) = false := by decide) :
    PE X (.Call (.Name x p) [.Lambda params body scope lpos] [] pos) (tLamP P (X.env.qual ++ "<lambda>") TT t) := by
  refine ⟨fun pins s σ H Q I h => wpAny_Call_Name_kw (ld_glob I hg hm ?_ hdb)⟩
  refine PySem.W.callWith_K (h₀ := X.base) I.ok.mod.kin hk ?_ (by rfl) (by rfl)
  show wpAny _ _ (spliced ((false, eval (.Lambda params body scope lpos) X.env) :: backTo pos (starEach [] X.env))) _ _ s
  refine Calls.spliced_cons (lamMk I TB hcode h.1 hdef (L.has I.ok) fun f c' pm' ctv H1 s' I1 kp T1 hf hfn hfr hco => Calls.spliced_nil ⟨I1.kIn, ?_⟩)
  have rc : codeAny (model X.prog X.w) X.A (.call (.ref g) ⟨[.ref f], []⟩) (CR C8.CX0 X.stack X.prog X.w H1 s' Q C8.E0) s' := by
    refine run_ofS (N := Ng) (ps := [a]) (us := [.ref f]) (vs := [.ref f]) lk hcg Sg hr I1.env0 (hb s' [.ref f] I1.kIn rfl) (.cons rfl .nil) rfl fun hr' => ?_
    obtain ⟨t', ht', hq'⟩ := hG f c' s' H1 Q (fun E H' Q' => t E σ H' Q') (fun W pn xe E p1 p2 tk hW => pe_act (i := 0) I1 L hf hfn hfr (hbind _ _ _ _ _) tk hW hr' (fun A outer s H hr2 => hbody A outer s H E f c' hr2) hNg hva hd hcd) hco (h.2 H1 kp T1)
    exact ⟨t', ht'.nox, hq'⟩
  refine wpAny_call (codeAny_mono rc fun r s2 hq => ?_)
  cases r with
  | error e => exact (show False from hq).elim
  | ok fl =>
    cases fl with
    | ret u => exact I1.after hq
    | next => exact False.elim hq
    | brk => exact False.elim hq
    | cont => exact False.elim hq
end
/-! ### what it does -/
def mTold (y ret : Str) (m : MM D) : MM D := fun ρ => match m ρ with
  | some (.ok d ρ') => some (.ok d ρ')
  | some (.er z ρ') => if z = y then some (.ok (.str ret) ρ') else none
  | none => none
section
variable {c : Cc}
theorem nw_but {W H H1 : Hp} {P : Addr} {q : Str} (x : Ex W H) (nt : NoT W) (tb : TBok c.tb H) (hP : (P, q) ∈ c.tb.LT) (hu : ∀ p ∈ c.tb.LT, p.1 = P → p.2 = q) (hG : ∀ P' ∈ c.tb.GT, P' ≠ P) (kp : KeepBut P H H1) (T1 : TabS H1 P q) : Nw c.tb W H W H1 := by
  obtain ⟨ps, hp, ht, _⟩ := tb.1 _ hP
  obtain ⟨ps2, hp2, ht2, hc2⟩ := T1
  have k : ∀ b o, NTbl o → H b = some o → H1 b = some o := fun b o no e => kp b o (fun z => by rw [z, hp] at e; cases e; exact no _ rfl) e
  refine ⟨Ex.refl _, fun a o e => k a o (nt a o e) (x a o e), nt, fun _ _ h => h, fun a o e no => k a o no e, fun a h => ?_, ⟨fun r hr => ?_, fun P' hP' => ?_⟩⟩
  · by_cases ha : a = P
    · rw [ha, hp2]; exact fun z => nomatch z
    · cases e : H a with
      | none => exact absurd e h
      | some o => rw [kp a o ha e]; exact fun z => nomatch z
  · by_cases ha : r.1 = P
    · rw [ha, hu r hr ha]; exact ⟨ps2, hp2, ht2, hc2⟩
    · obtain ⟨ps3, h1, h2, h3⟩ := tb.1 r hr
      refine ⟨ps3, kp _ _ ha h1, h2, fun pos cv hc => ?_⟩
      obtain ⟨c', e1, e2⟩ := h3 pos cv hc
      exact ⟨c', e1, k _ _ (fun _ z => nomatch z) e2⟩
  · obtain ⟨ps3, h1, h2⟩ := tb.2 P' hP'
    exact ⟨ps3, kp _ _ (hG P' hP') h1, h2⟩
theorem se_told {ca : Str → Addr} {P : Addr} {q y rt : Str} {t : XK → TE} {m : MM D} (hP : (P, q) ∈ c.tb.LT) (hu : ∀ p ∈ c.tb.LT, p.1 = P → p.2 = q) (hG : ∀ P' ∈ c.tb.GT, P' ≠ P) (hx : PySem.W.exmOne c.K (.ref (ca y)) (.ref (ca y)) = some true)
    (h : ∀ E, SE (ccOf c.K c.tb ca c.P E) (t E) m) : SE c (tLamP P q (TTold c.K (ca y) rt) t) (mTold y rt m) := by
  intro ρ r e s σ hs Q qq
  refine ⟨hs.tb.1 _ hP, fun H1 kp T1 => ?_⟩
  have n := nw_but hs.ex hs.nt hs.tb hP hu hG kp T1
  have hs1 := hs.nw n
  have t1 : Tr c.P s ⟨s.W, H1, s.A⟩ := .nw n
  unfold mTold at e
  split at e
  · rename_i d ρ' e1
    cases e
    exact h _ ρ _ e1 ⟨s.W, H1, s.A⟩ σ hs1 Q fun v s' a b k => qq v s' a (t1.trans b) k
  · rename_i z ρ' e1
    split at e
    · rename_i ez
      cases e
      subst ez
      exact h _ ρ _ e1 ⟨s.W, H1, s.A⟩ σ hs1 Q fun s' a b => ⟨true, hx, fun _ => qq _ s' a (t1.trans b) (.str _), fun z => nomatch z⟩
    · cases e
  · cases e
end
section
variable {X : Cx}
theorem tk_lam {X : Cx} {A : Around} {outer : List PySem.Env} {s : Shared} {H : Hp} {E : XK} {scope : Scope} {f c' : Addr} {K : PySem.W.Frag} {tb : TBs} {ca : Str → Addr} {Pm : Nat → Bool} : Takes (lamCx X A outer s H E scope f c') (wOf ca (ccOf K tb ca Pm E).xw) := takesB (L2.takes_of rfl rfl rfl rfl)
/-- a def that tells an error by a text, as it is called with a lambda -/
theorem pe_told {ca : Str → Addr} {x a e ret : Str} {st : Stmt} {g c P : Addr} {fd : FuncData} {k j : Nat} {params : Arguments} {body : Expr} {scope : Scope} {t : XK → TE} {p lpos pos p1 p2 p3 p4 p5 p6 p7 p8 : Pos}
    (F : Fun X.K x x st g fd) (gF : X.mg x = some (.ref g)) (bF : L2.Binds X.K fd [a] []) (Sg : FnScope [a] [a] (defScope st))
    (hb : defBody st = [.Try [.Return (some (.Call (.Name a p1) [] [] p2)) p3] [.ExceptHandler (some (.Name e p4)) none [.Return (some (.Constant (.str ret) j p5)) p6] p7] [] [] p8]) (hge : (defScope st).names.lookup e = some .globalImplicit) (XC : ExcC X.K X.mg ca e) (hg : Gl X x)
    (TB : LamX.TabB X.base X.mg c P) (hcode : X.env.code = .ref c) (hr : Room (k + 2) X.A) (L : LamS X.env.scope scope) (hdef : defaultsOf params X.env = ([], []))
    (hbind : ∀ (q : Str) (cl : List (Str × Addr)) (pm cv ctv : Value), bindArgs (PySem.W.kla_fn "<lambda>" q params body scope cl pm cv ctv) ⟨[], []⟩ = pure [])
    (hbody : ∀ (A : Around) (outer : List PySem.Env) (s : Shared) (H : Hp) (E : XK) (f c' : Addr), Room k (A.deeper (lamEnv X scope s.heap.objs.size f c')) → PE (lamCx X A outer s H E scope f c') body (t E))
    (hva : Vis (defScope st) a) (hdb : (x == ("__debug__" : Str)) = false) (hd : (a == ("__debug__" : Str)) = false) (hcd : (a == ("__classdict__" : Str)) = false) (hde : (e == ("__debug__" : Str)) = false) :
    PE X (.Call (.Name x p) [.Lambda params body scope lpos] [] pos) (tLamP P (X.env.qual ++ "<lambda>") (TTold X.K (ca e) ret) t) := by
  obtain ⟨oc, od, kV, doc, pm, an, cdv, ct, osl, rfl, lk, hcd2⟩ := F.ex
  rw [hb] at lk bF
  exact pe_lamP (Ng := [a]) hg gF F.kp lk hcd2 bF Sg rfl hva (told_gives hge XC.g hde fun _ => rfl) TB hcode hr L hdef hbind hbody hdb hd hcd
end
/-! ### is None -/
section
variable {c : Cc}
def dIsN : D → Option D
  | .non => some (.bl true)
  | .bl _ | .int _ | .str _ | .tup _ | .lst _ => some (.bl false)
  | _ => none
theorem rep_non {K : PySem.W.Frag} {W : Hp} {v : V} {d : D} (r : Rep K W v d) (h : (∃ b, d = .bl b) ∨ (∃ i, d = .int i) ∨ (∃ z, d = .str z) ∨ (∃ xs, d = .tup xs) ∨ (∃ xs, d = .lst xs)) : decide (v = V.non) = false := by
  apply decide_eq_false
  rintro rfl
  cases r
  rcases h with ⟨_, z⟩ | ⟨_, z⟩ | ⟨_, z⟩ | ⟨_, z⟩ | ⟨_, z⟩ <;> cases z
theorem run_isN : RUn c (fun x H Q => Q (.bl (decide (x = .non))) H) dIsN := by
  intro W H x a d w rx e Q q
  cases a with
  | non => cases rx; cases e; exact q _ W H w.nref (.bl _)
  | bl b => cases e; rw [rep_non rx (.inl ⟨_, rfl⟩)]; exact q _ W H w.nref (.bl _)
  | int b => cases e; rw [rep_non rx (.inr (.inl ⟨_, rfl⟩))]; exact q _ W H w.nref (.bl _)
  | str b => cases e; rw [rep_non rx (.inr (.inr (.inl ⟨_, rfl⟩)))]; exact q _ W H w.nref (.bl _)
  | tup b => cases e; rw [rep_non rx (.inr (.inr (.inr (.inl ⟨_, rfl⟩))))]; exact q _ W H w.nref (.bl _)
  | lst b => cases e; rw [rep_non rx (.inr (.inr (.inr (.inr ⟨_, rfl⟩))))]; exact q _ W H w.nref (.bl _)
  | dct b => cases e
  | frz b => cases e
theorem se_isN {t : TE} {m : MM D} (h : SE c t m) : SE c (tIsN t) (mUn dIsN m) := se_un run_isN h
theorem st_isN {t : TE} {m : MM D} (h : SE c t m) : ST c (tB (tIsN t)) (mTest (mUn dIsN m)) := st_test (se_isN h)
end
/-- the name of the code objects of a def's lambdas -/
def lamQ (x : Str) : Str := (envOfC x default 0 0 .none).qual ++ "<lambda>"
theorem genS_by {env : PySem.Env} {scope : Scope} {x : Str} (h : (decide (scope.kind = .function) && !scope.isCoroutine && scope.names.all (fun y => !decide (y.2 = .cell) && !decide (y.2 = .free)) && decide (scope.names.lookup (".0" : Str) = some NameKind.local)) = true) (hl : scope.names.lookup x = some .local) : GxR.GenS env scope x := by
  simp only [Bool.and_eq_true, Bool.not_eq_true', decide_eq_true_eq, decide_eq_false_iff_not, List.all_eq_true] at h
  exact ⟨h.1.1.1, h.1.1.2, fun y hy => (h.1.2 y hy).1, h.2, hl, fun y hy z => absurd z (h.1.2 y hy).2⟩
end PD
end
section
set_option maxHeartbeats 0
namespace PH
open PySem PySem.Spec PyProof.Rows L2 LamX
/-! ### a lambda without parameters, handed to a def that tells an error by a text -/
def mTold (y ret : Str) (m : MM D) : MM D := fun ρ => match m ρ with
  | some (.ok d ρ') => some (.ok d ρ')
  | some (.er z ρ') => if z = y then some (.ok (.str ret) ρ') else none
  | none => none
section
variable {c : Cc}
theorem nw_but {W H H1 : Hp} {P : Addr} {q : Str} (x : Kn W H) (nt : NoT W) (tb : TBok c.tb H) (hP : (P, q) ∈ c.tb.LT) (hu : ∀ p ∈ c.tb.LT, p.1 = P → p.2 = q) (hG : ∀ P' ∈ c.tb.GT, P' ≠ P) (kp : PD.KeepBut P H H1) (T1 : TabS H1 P q) : Nw c.tb W H W H1 := by
  obtain ⟨ps, hp, ht, _⟩ := tb.1 _ hP
  obtain ⟨ps2, hp2, ht2, hc2⟩ := T1
  have k : ∀ b o, NTbl o → H b = some o → H1 b = some o := fun b o no e => kp b o (fun z => by rw [z, hp] at e; cases e; exact no _ rfl) e
  refine ⟨Ex.refl _, fun a o e => ?_, nt, fun _ _ h => h, fun a o e no => k a o no e, fun a h => ?_, ⟨fun r hr => ?_, fun P' hP' => ?_⟩⟩
  · rcases x a o e with z | ⟨od, kv, z1, z2⟩
    · exact .inl (k a o (nt a o e).nt z)
    · exact .inr ⟨od, kv, z1, k a _ (fun _ z => nomatch z) z2⟩
  · by_cases ha : a = P
    · rw [ha, hp2]; exact fun z => nomatch z
    · cases e : H a with
      | none => exact absurd e h
      | some o => rw [kp a o ha e]; exact fun z => nomatch z
  · by_cases ha : r.1 = P
    · rw [ha, hu r hr ha]; exact ⟨ps2, hp2, ht2, hc2⟩
    · obtain ⟨ps3, h1, h2, h3⟩ := tb.1 r hr
      refine ⟨ps3, kp _ _ ha h1, h2, fun pos cv hc => ?_⟩
      obtain ⟨c', e1, e2⟩ := h3 pos cv hc
      exact ⟨c', e1, k _ _ (fun _ z => nomatch z) e2⟩
  · obtain ⟨ps3, h1, h2⟩ := tb.2 P' hP'
    exact ⟨ps3, kp _ _ (hG P' hP') h1, h2⟩
theorem se_told {P : Addr} {q y rt : Str} {t : XK → TE} {m : MM D} (hP : (P, q) ∈ c.tb.LT) (hu : ∀ p ∈ c.tb.LT, p.1 = P → p.2 = q) (hG : ∀ P' ∈ c.tb.GT, P' ≠ P) (hx : PySem.W.exmOne c.K (.ref (c.ca y)) (.ref (c.ca y)) = some true)
    (h : ∀ E, SE (ccOf c.toBs E) (t E) m) : SE c (PD.tLamP P q (TTold c.K (c.ca y) rt) t) (mTold y rt m) := by
  intro ρ r e s σ hs Q qq
  refine ⟨hs.cr.tb.1 _ hP, fun H1 kp T1 => ?_⟩
  have n := nw_but hs.cr.ex hs.cr.nt hs.cr.tb hP hu hG kp T1
  obtain ⟨hs1, t1⟩ := hs.nw n
  unfold mTold at e
  split at e
  · rename_i d ρ' e1
    cases e
    exact h _ ρ _ e1 ⟨⟨s.W, s.A⟩, H1⟩ σ ⟨hs1.cr, hs1.len, hs1.loc⟩ Q fun v s' a b k => qq v s' ⟨a.cr, a.len, a.loc⟩ (t1.trans b) k
  · rename_i z ρ' e1
    split at e
    · rename_i ez
      cases e
      subst ez
      exact h _ ρ _ e1 ⟨⟨s.W, s.A⟩, H1⟩ σ ⟨hs1.cr, hs1.len, hs1.loc⟩ Q fun s' a b => ⟨true, hx, fun _ => qq _ s' ⟨a.cr, a.len, a.loc⟩ (t1.trans b) (.str _), fun z => nomatch z⟩
    · cases e
  · cases e
theorem tk_lam {X : Cx} {A : Around} {outer : List PySem.Env} {s : Shared} {H : Hp} {E : XK} {scope : Scope} {f c' : Addr} {b : Bs} : Takes (lamCx X A outer s H E scope f c') (wOf b.ca (ccOf b E).xw) := takesB (L2.takes_of rfl rfl rfl rfl)

/-! ### a law: for dice in rounds: body; return what is asked. One round; in it, the dice are the only cell -/
def intsOf (ns : List Int) : List D := ns.map .int
theorem ints_of_reps {K : PySem.W.Frag} {g : Gh} : ∀ {ns : List Int} {vs : List V}, Reps K g vs (intsOf ns) → vs = ns.map V.int
  | [], _, .nil => rfl
  | n :: ns, _, .cons r t => by cases r; rw [ints_of_reps t]; rfl
def nons (n : Nat) : List Loc := List.replicate n .non
/-- the state at the start of the round -/
def diceSt (n i : Nat) (ns : List Int) : St := ⟨(nons n).set i (.dat (.ref 0)), [.lst (intsOf ns)]⟩
theorem nons_get {n i : Nat} {l : Loc} (h : (nons n)[i]? = some l) : l = .non := by
  unfold nons at h
  rw [List.getElem?_replicate] at h
  split at h
  · exact (Option.some.inj h).symm
  · cases h
theorem sr_dice {n i : Nat} {q : Addr} {ns : List Int} {H : Hp} {σ : L2.St} (hn : σ.length = n) (hi : i < n) (hq : H q = some (.lst (ns.map V.int))) (t : TBok c.tb H) :
    SR c (diceSt n i ns) ⟨⟨fun _ => none, [q]⟩, H⟩ (σ.set i (some (.ref q))) := by
  have len : (nons n).length = n := List.length_replicate
  refine ⟨⟨rfl, fun m cl e => ?_, fun _ _ => rfl, (show [q].Nodup by simp), (fun _ _ z => nomatch z), (fun _ _ z => nomatch z), t⟩, ?_, fun j d e => ?_⟩
  · cases m with
    | zero => cases e; exact ⟨q, rfl, _, hq, reps_ints ns⟩
    | succ m => cases e
  · show (σ.set i (some (.ref q))).length = ((nons n).set i (.dat (.ref 0))).length
    rw [List.length_set, List.length_set, len, hn]
  · have e : ((nons n).set i (.dat (.ref 0)))[j]? = some (.dat d) := e
    rcases getElem_set e with ⟨rfl, e1, _⟩ | ⟨hj, e1⟩
    · cases e1
      exact ⟨.ref q, by rw [List.getElem?_set_self (by rw [hn]; exact hi)], .ref rfl⟩
    · cases nons_get e1
theorem law_run {tcall : TE} {mcall : MM D} {tb tr : TS} {mb mr : MS} {i n : Nat} {ns : List Int} {ρ ρ1 ρ2 ρ3 : St} {s : Ws} {σ : L2.St} {D : Ends} (hc : SE c tcall mcall) (hb : SS c tb mb) (hr : SS c tr mr) (hs : SR c ρ s σ) (hn : σ.length = n) (hi : i < n)
    (e1 : mcall ρ = some (.ok (.lst [.lst (intsOf ns)]) ρ1)) (e2 : mb (diceSt n i ns) = some (.nx ρ2)) (e3 : mr ρ2 = some (.rt (.bl true) ρ3)) (hD : ∀ H, D.rt (.bl true) H) :
    tSeq (tFor (iSeq c.K tcall) (gName i) tb) tr D σ s.H := by
  refine hc ρ _ e1 s σ hs _ fun v s1 hs1 t1 rv => ?_
  cases rv with
  | @lst p vs _ hp rr =>
    cases rr with
    | @cons v2 vr _ _ r1 r2 =>
      cases r2
      cases r1 with
      | @lst q us _ hq ru =>
        have hus := ints_of_reps ru
        subst hus
        have hpH := hs1.cr.ex.l hp
        have hqH := hs1.cr.ex.l hq
        have npq : p ≠ q := fun z => by
          rw [z, hqH] at hpH
          cases ns with
          | nil => cases hpH
          | cons n ns => cases hpH
        have sl : SqL c.K s1.H p [.ref q] := .inl (.inl hpH)
        refine ⟨p, rfl, .inl ⟨⟨_, sl⟩, for_list (K := c.K) (a := p) (xs := [.ref q]) (fun k σ' H' => (k = 0 ∧ σ' = σ ∧ H' = s1.H) ∨ (k = 1 ∧ H' p = some (.lst [.ref q]) ∧ ∃ s', SR c ρ2 s' σ' ∧ s'.H = H')) (.inl ⟨rfl, rfl, rfl⟩) (fun k σ' H' _ h => ?_) (fun k x σ' H' hx h => ?_) fun σ' H' h => ?_⟩⟩
        · rcases h with ⟨_, _, rfl⟩ | ⟨_, h, _⟩
          · exact sl
          · exact .inl (.inl h)
        · rcases h with ⟨rfl, rfl, rfl⟩ | ⟨rfl, _, _⟩
          · cases hx
            refine hb _ _ e2 ⟨⟨fun _ => none, [q]⟩, s1.H⟩ _ (sr_dice hn hi hqH hs1.cr.tb) _ fun s' σ' a b => .inr ⟨rfl, b.f p _ (fun z => ?_) rfl hpH (fun _ z => nomatch z), s', a, rfl⟩
            rcases z with z | ⟨x, hx, C, fs, z⟩
            · exact npq (List.mem_singleton.mp z)
            · rw [List.mem_singleton.mp hx] at z
              have z : s1.H q = some (.ins C p fs) := z
              rw [hqH] at z; cases z
          · cases hx
        · rcases h with ⟨z, _⟩ | ⟨_, _, s', hs', rfl⟩
          · cases z
          · exact hr ρ2 _ e3 s' σ' hs' _ fun v s2 σ2 _ _ r => by cases r; exact hD _
/-- the state at the law's start -/
def st0 (n : Nat) (ns : List Int) : St := ⟨.dat (.frz (intsOf ns)) :: nons (n - 1), []⟩
def spLawP (K : PySem.W.Frag) (tb : TBs) (good : List Int → Prop) : Sp := fun vs H Q _ => ∃ (a : Addr) (ns : List Int), vs = [.ref a] ∧ SqL K H a (ns.map V.int) ∧ TBok tb H ∧ good ns ∧ ∀ H', Q (.bl true) H'
theorem sr_start {b : Bs} {n : Nat} {a : Addr} {ns : List Int} {H : Hp} (hn : 1 ≤ n) (h : SqL b.K H a (ns.map V.int)) (t : TBok b.tb H) : ∃ W : Hp, SR b (st0 n ns) ⟨⟨W, []⟩, H⟩ (some (.ref a) :: List.replicate (n - 1) none) := by
  have key : ∀ W : Hp, Ex W H → NoT W → SqL b.K W a (ns.map V.int) → SR b (st0 n ns) ⟨⟨W, []⟩, H⟩ (some (.ref a) :: List.replicate (n - 1) none) := fun W e nt hS => by
    refine ⟨⟨rfl, (fun m cl e => by have e : ([] : List Cell)[m]? = some cl := e; simp at e), (fun p z => absurd z List.not_mem_nil), List.nodup_nil, (fun a o q => .inl (e a o q)), nt, t⟩, ?_, fun j d ej => ?_⟩
    · show (some (V.ref a) :: List.replicate (n - 1) none).length = (Loc.dat (.frz (intsOf ns)) :: nons (n - 1)).length
      simp [nons]
    · have ej : (Loc.dat (.frz (intsOf ns)) :: nons (n - 1))[j]? = some (.dat d) := ej
      cases j with
      | zero => cases ej; exact ⟨_, rfl, .frz hS (reps_ints ns)⟩
      | succ j =>
        have ej : (nons (n - 1))[j]? = some (.dat d) := ej
        cases nons_get ej
  rcases h with h | h
  · have one : ∀ o, H a = some o → Pl o → ∃ W : Hp, Ex W H ∧ NoT W ∧ W a = some o := fun o e no => by
      refine ⟨fun b => if b = a then some o else none, fun b u z => ?_, fun b u z => ?_, if_pos rfl⟩
      · by_cases hb : b = a
        · rw [hb, e]; exact (if_pos hb).symm.trans z
        · cases (if_neg hb).symm.trans z
      · by_cases hb : b = a
        · cases (if_pos hb).symm.trans z; exact no
        · cases (if_neg hb).symm.trans z
    rcases h with h | ⟨o, h⟩
    · obtain ⟨W, w1, w2, w3⟩ := one _ h trivial
      exact ⟨W, key W w1 w2 (.inl (.inl w3))⟩
    · obtain ⟨W, w1, w2, w3⟩ := one _ h trivial
      exact ⟨W, key W w1 w2 (.inl (.inr ⟨_, w3⟩))⟩
  · exact ⟨fun _ => none, key _ (fun _ _ z => nomatch z) (fun _ _ z => nomatch z) (.inr h)⟩
/-- what is to be shown of a script: the program's own answer is True -/
def GoodL (n i : Nat) (mcall : MM D) (mb mr : MS) (ns : List Int) : Prop := ∃ (dice : List Int) (ρ1 ρ2 ρ3 : St), mcall (st0 n ns) = some (.ok (.lst [.lst (intsOf dice)]) ρ1) ∧ mb (diceSt n i dice) = some (.nx ρ2) ∧ mr ρ2 = some (.rt (.bl true) ρ3)
end
section
variable {P : Program} {w : World} {mg : Str → Option Value} {base : Heap} {b : Bs}
theorem fn_law {x qual px : Str} {st : Stmt} {f : Addr} {fd : FuncData} {N : List Str} {k i : Nat} {mcall : MM D} {mb mr : MS} (F : FunA b.K x qual st f fd) (S : FnScope N [px] (defScope st)) (hN : 1 ≤ N.length) (hi : i < N.length)
    (body : ∀ (cdv : Value) (A : Around) (outer : List PySem.Env) (s : Shared) (H : Hp) (E : XK), fd.code = cdv → Room k (A.deeper (envOfC qual (defScope st) s.heap.objs.size f cdv)) →
      ∃ tcall tbd tr, PSs (cxOf (L2.CX P w) P w b.K mg base N qual (defScope st) f cdv A outer s H E) (defBody st) (tSeq (tFor (iSeq b.K tcall) (gName i) tbd) tr) ∧ SE (ccOf b E) tcall mcall ∧ SS (ccOf b E) tbd mb ∧ SS (ccOf b E) tr mr) :
    FnOk P w b.K mg base (L2.CX P w) (k + 1) f fd [px] (spLawP b.K b.tb (GoodL N.length i mcall mb mr)) := by
  refine okXC F S (fun vs H Q E h => ?_) (fun cdv A outer s H vs Q E hcdv hr h => ?_)
  · obtain ⟨a, ns, rfl, _⟩ := h; rfl
  · obtain ⟨a, ns, rfl, hS, ht, ⟨dice, ρ1, ρ2, ρ3, e1, e2, e3⟩, hQ⟩ := h
    obtain ⟨tcall, tbd, tr, p1, p2, p3, p4⟩ := body cdv A outer s H E hcdv hr
    refine ⟨_, p1, ?_⟩
    obtain ⟨W, hs⟩ := sr_start (n := N.length) hN hS ht
    exact law_run (c := ccOf b E) (ρ := st0 N.length ns) p2 p3 p4 ⟨hs.cr, hs.len, hs.loc⟩ (by simp; omega) hi e1 e2 e3 fun H' => hQ H'
end
end PH
end
section
set_option maxHeartbeats 0
/-! t[::-1] of a tuple -/
namespace HT
open PySem PySem.Spec PyProof.Rows L2
section
variable {prog : Program} {w : World} {A : Around} {E : Value → Shared → Prop} {s : Shared}
theorem adjust_back (n : Nat) : Builtin.Slice.sliceAdjust none none (-1) (n : Int) = ((n : Int) - 1, -1) := by
  unfold Builtin.Slice.sliceAdjust
  have h : ((-1 : Int) < 0) := by decide
  simp only [h, if_true]
theorem places_back (n : Nat) : Builtin.Slice.slicePlaces ((n : Int) - 1) (-1) (-1) = n := by
  unfold Builtin.Slice.slicePlaces
  have h : ¬ ((-1 : Int) > 0) := by decide
  have e : (- -1 : Int) = 1 := by decide
  simp only [h, if_false, e, Int.ediv_one]
  split <;> omega
theorem pick_back (xs : Array Value) : ((List.range xs.size).filterMap fun (k : Nat) => xs[(((xs.size : Int) - 1) + (k : Int) * (-1)).toNat]?).toArray = xs.toList.reverse.toArray := by
  have e2 : ((List.range xs.size).filterMap fun (k : Nat) => xs[(((xs.size : Int) - 1) + (k : Int) * (-1)).toNat]?) = ((List.range xs.size).map fun (k : Nat) => (((xs.size : Int) - 1) + (k : Int) * (-1)).toNat).filterMap (xs[·]?) := by rw [List.filterMap_map]; rfl
  have e3 : ((List.range xs.size).map fun (k : Nat) => (((xs.size : Int) - 1) + (k : Int) * (-1)).toNat) = (List.range xs.size).map fun k => xs.size - 1 - k := List.map_congr_left fun k hk => by
    have := List.mem_range.mp hk
    show (((xs.size : Int) - 1) + (k : Int) * (-1)).toNat = xs.size - 1 - k
    omega
  rw [e2, e3, PySem.W.krv_range, List.filterMap_reverse, PySem.W.krv_all]
theorem getItem_tuple_back {t sl : Addr} {items : Array Value} {vl vu vs : Value} {Q : Value → Shared → Prop} (ht : IsTup s.heap t items) (hs : s.heap.IsSliceOf sl vl vu vs) (pl : IsPart vl none) (pu : IsPart vu none) (ps : IsPart vs (some (-1)))
    (h : Q (.ref s.heap.objs.size) { s with heap := s.heap.push { cls := .type "tuple", data := .seq items.toList.reverse.toArray } })
    (hsz : items.size ≤ sizeLine) : wpAny (model prog w) A (getItem (.ref t) (.ref sl)) Q E s := by
  have htake : sizeOk (.seq items.toList.reverse.toArray) := by
    show items.toList.reverse.toArray.size ≤ sizeLine
    rw [List.size_toArray, List.length_reverse, Array.length_toList]
    exact hsz
  obtain ⟨os, hos, hcs, hds⟩ := id hs
  have hTs : s.TypeIs (.ref sl) "slice" := ⟨os, hos, hcs⟩
  unfold getItem
  try with_reducible refine wpAny_holding ?_
  first | refine wpAny_bind (wpAny_pure ?_) | skip
  refine wpAny_bind (wpAny_sequenceKey ht.typeIs (by decide) ?_)
  refine wpAny_bind (wpAny_callSpecial?_slot (name := Str.ofString "__getitem__") ht.typeIs PyProof.Rows.slot_tuple_getitem
    (wpAny_call_entry PyProof.Rows.slot_tuple_getitem ht.typeIs entry_tuple_getitem ?_ (args_tuple_getitem _ _)))
  show wpAny _ _ (Builtin.Tuple.tupleItemsOf (.ref t) >>= _) _ _ s
  refine wpAny_bind (tupleItemsOf_ ht ?_)
  refine wpAny_bind (wpAny_typeOf hTs ?_)
  rw [if_pos (by decide)]
  have app : ∀ Q' : Int × Int × Nat → Shared → Prop, Q' ((items.size : Int) - 1, -1, items.size) s → wpAny (model prog w) A.in1 (Builtin.Slice.sliceApplied (.ref sl) (pure (items.size : Int))) Q' E s := fun Q' h' => by
    unfold Builtin.Slice.sliceApplied Builtin.Slice.sliceFields
    refine wpAny_bind (wpAny_bind (wpAny_field hos hds (x := vl) rfl (wpAny_bind (wpAny_field hos hds (x := vu) rfl (wpAny_bind (wpAny_field hos hds (x := vs) rfl (wpAny_pure ?_)))))))
    refine wpAny_bind (slicePart_ ps ?_)
    show wpAny _ _ (if ((-1 : Int) == 0) = true then _ else _) _ _ s
    rw [if_neg (by decide)]
    refine wpAny_bind (slicePart_ pl (wpAny_bind (slicePart_ pu (wpAny_bind (wpAny_pure ?_)))))
    show wpAny _ _ (match Builtin.Slice.sliceAdjust none none (-1) (items.size : Int) with | (lo, hi) => pure (lo, (-1 : Int), Builtin.Slice.slicePlaces lo hi (-1))) _ _ s
    rw [adjust_back]
    show wpAny _ _ (pure ((items.size : Int) - 1, (-1 : Int), Builtin.Slice.slicePlaces ((items.size : Int) - 1) (-1) (-1))) _ _ s
    rw [places_back]
    exact wpAny_pure h'
  refine wpAny_bind (app _ ?_)
  have hno : ¬ ((((items.size : Int) - 1) == 0 && (-1 : Int) == 1 && items.size == items.size) = true) := by
    intro q
    rw [Bool.and_eq_true, Bool.and_eq_true] at q
    exact absurd q.1.2 (by decide)
  show wpAny _ _ (if (((items.size : Int) - 1) == 0 && (-1 : Int) == 1 && items.size == items.size) = true then _ else _) _ _ s
  rw [if_neg hno, pick_back]
  first
    | exact wpAny_bind (m := Builtin.Tuple.tupleExact _) (wpAny_newObj_type (wpAny_pure ⟨_, rfl, wpAny_pure h⟩) htake)
    | exact wpAny_bind (m := Builtin.Tuple.tupleExact _) (wpAny_newObj_type (wpAny_bind (wpAny_pure (wpAny_pure ⟨_, rfl, wpAny_pure h⟩))) htake)
    | exact wpAny_bind (wpAny_bind (m := Builtin.Tuple.tupleExact _) (wpAny_newObj_type (wpAny_pure (wpAny_pure ⟨_, rfl, wpAny_pure h⟩)) htake))
    | exact wpAny_bind (wpAny_bind (m := Builtin.Tuple.tupleExact _) (wpAny_newObj_type (wpAny_pure ⟨_, rfl, wpAny_pure h⟩) htake))
end
end HT
namespace PH
open PySem PySem.Spec PyProof.Rows L2
def tRevT (K : PySem.W.Frag) (te : TE) : TE := fun σ H Q => te σ H fun x H1 => ∃ a xs, x = .ref a ∧ SqT K H1 a xs ∧ ∀ p, H1 p = none → Q (.ref p) (upd H1 p (.tup xs.reverse))
theorem pe_revT {X : Cx} {e : Expr} {te : TE} {k : Nat} {p1 p2 p3 pos : Pos} (he : PE X e te) : PE X (.Subscript e (.Slice none none (some (.UnaryOp .USub (.Constant (.int 1) k p1) p2)) p3) pos) (tRevT X.K te) := by
  refine ⟨fun pins s σ H Q I h => ?_⟩
  refine Subscript_ (thn (he.run pins s σ H _ I h) fun v s1 ⟨x, H1, I1, r1, q1⟩ => ?_)
  obtain ⟨a, xs, ex, hx, q⟩ := q1
  subst ex
  cases r1
  have hst : PO X (some (.UnaryOp .USub (.Constant (.int 1) k p1) p2)) (tPart (tUn (rU fun i => .int (-i)) (tC (.int 1)))) := po_some (pe_un un_neg pe_int)
  refine wpAny_Slice (thn (po_none.run pins s1 σ H1 (fun o H2 => o = none ∧ H2 = H1) I1 ⟨rfl, rfl⟩) fun vl s2 ⟨l, H2, I2, pl, el, e2⟩ => ?_)
  subst el e2
  refine thn (po_none.run pins s2 σ H2 (fun o H3 => o = none ∧ H3 = H2) I2 ⟨rfl, rfl⟩) fun vu s3 ⟨u, H3, I3, pu, eu, e3⟩ => ?_
  subst eu e3
  refine thn (hst.run pins s3 σ H3 (fun o H4 => o = some (-1) ∧ H4 = H3) I3 ⟨1, rfl, -1, rfl, rfl, rfl⟩) fun vs s4 ⟨o, H4, I4, ps, eo, e4⟩ => ?_
  subst eo e4
  have I5 : Inv X pins σ H4 { s4 with heap := s4.heap.push { cls := .type "slice", data := .fields #[vl, vu, vs] } } := I4.kept (t' := s4.toks) fun b ob q => Heap.get?_push_of_some _ q
  obtain ⟨its, r, ht, hz⟩ := I5.tuple hx
  have hlen := r.length
  show wpAny (model X.prog X.w) X.A (subscriptTail e (.Slice none none (some (.UnaryOp .USub (.Constant (.int 1) k p1) p2)) p3) (.ref a) (.ref s4.heap.objs.size)) (EP X pins σ Q) X.xe { s4 with heap := s4.heap.push { cls := .type "slice", data := .fields #[vl, vu, vs] } }
  refine tail_any (ops := [.ref a, .ref s4.heap.objs.size]) ht.typeIs (PyProof.Rows.slot_tuple_getitem.lookup) ?_ (by with_unfolding_all rfl)
  refine HT.getItem_tuple_back ht (Heap.IsSliceOf.new _ vl vu vs) pl pu ps ?_ (by rw [List.size_toArray]; omega)
  refine ⟨.ref _, _, I5.laid (t' := s4.toks) (o := .tup xs.reverse) (fun b ob q => Heap.get?_push_of_some _ q) (Nat.le_refl _) ?_, rfl, q _ (I5.hok.fresh (Nat.le_refl _))⟩
  exact ⟨by rw [List.length_reverse]; exact hz, _, r.reverse, ⟨_, Heap.get?_push_size _ rfl, rfl, 0, rfl⟩⟩
section
variable {c : Cc}
def dRevT : D → Option D
  | .tup ds => some (.tup ds.reverse)
  | _ => none
theorem se_revT {te : TE} {m : MM D} (h : SE c te m) : SE c (tRevT c.K te) (mUn dRevT m) := by
  intro ρ rr e s σ hs Q q
  refine sx_go (t := te) h e hs q fun x d ρ s e hs rx q tr => ?_
  obtain ⟨d', e1, rfl⟩ := lftK_cases e
  have rx := see1_rep hs.cr rx
  generalize see1 ρ.c d = a at rx e1
  cases a <;> try (cases e1; done)
  cases e1
  cases rx with
  | @tup p xs ds h1 h2 => exact ⟨p, xs, rfl, hs.cr.ex.st h1, rx_tup hs.cr h2.reverse Q (post_nw hs q)⟩
end
end PH
end
section
set_option maxHeartbeats 0
/-! x in d.values() of ints -/
namespace PH
open PySem PySem.Spec PyProof.Rows L2
theorem plain_ci : plainId "proto.contains_iter" = true := by decide +kernel
theorem entry_ci : entryFor table "proto.contains_iter" = some Builtin.«proto.contains_iter» := entryFor_of_fast (by kernel_rfl)
theorem noc_vals : typeLookup (.type "dict_values") "__contains__" = pure none := am_miss_of_fast (by decide +kernel)
section
variable {prog : Program} {w : World} {A : Around} {E : Value → Shared → Prop} {s : Shared}
theorem ci_loop {I : Addr} {fp wr : List Addr} {n : Nat} {P : Nat → Value → Prop} {St : Nat → Heap → Prop} {x : Value} {R : Result → Shared → Prop} (W : Walks prog w A.in1 I fp wr n P St) (tr : Nat → Bool) (htr : ∀ i v (s : Shared) (Q : Bool → Shared → Prop) (E : Value → Shared → Prop), P i v → Q (tr i) s → wpAny (model prog w) A.in1 (eqBool v x) Q E s) : ∀ (k i : Nat) (s : Shared), n - i = k → i ≤ n → St i s.heap →
    (∀ h' tk, (∀ b o, b ∉ wr → s.heap.get? b = some o → h'.get? b = some o) → R (.ok (.ret (.bool (((List.range n).drop i).any tr)))) { s with heap := h', toks := tk }) →
    codeAny (model prog w) A (.builtin "proto.contains_iter" ⟨[.ref I, x], []⟩) R s := by
  intro k
  induction k with
  | zero =>
    intro i s hk hi hst hR
    have hin : i = n := by omega
    subst hin
    refine codeAny_builtin entry_ci ?_
    rw [Around.under_plainId plain_ci _]
    show wpAny _ A.in1 (pyNext (.ref I) >>= _) _ _ s
    refine wpAny_bind (W.done s _ _ hst fun h' tk hk' => ?_)
    refine wpAny_bind (wpAny_rule (wpAny_pure ?_))
    have := hR h' tk hk'
    rw [List.drop_of_length_le (by simp)] at this
    exact this
  | succ k ih =>
    intro i s hk hi hst hR
    have hlt : i < n := by omega
    have hd : (List.range n).drop i = i :: (List.range n).drop (i + 1) := by
      rw [List.drop_eq_getElem_cons (by simpa using hlt)]; simp
    refine codeAny_builtin entry_ci ?_
    rw [Around.under_plainId plain_ci _]
    show wpAny _ A.in1 (pyNext (.ref I) >>= _) _ _ s
    refine wpAny_bind (W.item i s _ _ hlt hst fun v h' tk hP hst' hk' => ?_)
    refine wpAny_bind (htr i v _ _ _ hP ?_)
    cases hb : tr i with
    | false =>
      simp only [Bool.false_eq_true, if_false]
      refine wpAny_pure ⟨plainId_quiet plain_ci _, ih (i + 1) _ (by omega) hlt hst' fun h'' tk'' hk'' => ?_⟩
      have := hR h'' tk'' fun b o hbw e => hk'' b o hbw (hk' b o hbw e)
      rw [hd, List.any_cons, hb, Bool.false_or] at this
      exact this
    | true =>
      simp only [if_true]
      refine wpAny_bind (wpAny_rule (wpAny_pure ?_))
      have := hR h' tk hk'
      rw [hd, List.any_cons, hb, Bool.true_or] at this
      exact this
theorem in_vals {K : Type} [DecidableEq K] {knd : KeyKind prog w K} {v d : Addr} {kvs : List (K × Value)} {ns : List Int} {ep : Nat} {j : Int} {t : Tok} {Q : Value → Shared → Prop} (hh : A.handled = none) (hv : s.heap.IsValuesView v d) (hm : s.heap.DictAt knd d kvs ep)
    (hn : ∀ (i : Nat) (q : K × Value), kvs[i]? = some q → ∃ n u, ns[i]? = some n ∧ q.2 = Value.int n u) (hl : ns.length = kvs.length)
    (h : ∀ h' tk, (∀ b o, s.heap.get? b = some o → h'.get? b = some o) → Q (.bool (decide (j ∈ ns))) { s with heap := h', toks := tk }) : wpAny (model prog w) A (compareOp .In (.int j t) (.ref v)) Q E s := by
  show wpAny _ _ (do return .bool (← contains (.ref v) (.int j t))) Q E s
  refine wpAny_bind ?_
  unfold contains
  refine wpAny_holding ?_
  rw [stdlibNamesSay?_of_typeIs hv.typeIs]
  refine wpAny_bind (wpAny_specialOf hv.typeIs noc_vals ?_)
  show wpAny (model prog w) A (if ((none : Option Value) == some Value.none) = true then _ else _) _ E s
  rw [if_neg (by simp)]
  refine wpAny_bind ?_
  unfold callSpecialUnlessNone?
  refine wpAny_bind (wpAny_specialOf hv.typeIs noc_vals ?_)
  refine wpAny_pure ?_
  refine wpAny_bind (wpAny_rule ?_)
  refine wpAny_bind (wpAny_tryCatch ?_)
  refine wpAny_pyIter_values hv hm ?_
  refine wpAny_bind (wpAny_runValue ?_)
  have hlt : d < s.heap.objs.size := hm.lt_size
  refine ci_loop (Walks.dictValues (A := A.in1) hh s.heap.objs.size d (Nat.ne_of_lt hlt) kvs ep) (fun i => match ns[i]? with | some n => n == j | none => false) ?_ kvs.length 0 _ rfl (Nat.zero_le _) ⟨⟨_, Heap.get?_push_size _ rfl, rfl, rfl⟩, hm.push _⟩ fun h' tk hk => ?_
  · intro i x s1 Q1 E1 ⟨k, hk⟩ hq
    obtain ⟨n, u, h1, h2⟩ := hn i _ hk
    cases h2
    rw [h1] at hq
    exact wpAny_eqBool_int hq
  · have e : ((List.range kvs.length).drop 0).any (fun i => match ns[i]? with | some n => n == j | none => false) = decide (j ∈ ns) := by
      rw [List.drop_zero, Bool.eq_iff_iff, List.any_eq_true, decide_eq_true_iff]
      constructor
      · rintro ⟨i, _, hi⟩
        cases h1 : ns[i]? with
        | none => rw [h1] at hi; cases hi
        | some n =>
          rw [h1] at hi
          have : n = j := eq_of_beq hi
          rw [← this]
          exact List.mem_of_getElem? h1
      · intro hj
        obtain ⟨i, hi, e⟩ := List.getElem_of_mem hj
        refine ⟨i, List.mem_range.mpr (by rw [← hl]; exact hi), ?_⟩
        rw [List.getElem?_eq_getElem hi, e]
        simp
    rw [e]
    refine wpAny_pure (wpAny_pure (h h' tk fun b o q => hk b o ?_ (Heap.get?_push_of_some _ q)))
    intro z
    have : b = s.heap.objs.size := by simpa using z
    exact Nat.ne_of_lt (Heap.lt_size q) this
end
/-- y in e.values() -/
def rInVals : R2 := fun y x H Q => ∃ (j : Int) (d : Addr) (kvs : List (Key × V)) (ns : List Int), y = .int j ∧ x = .ref d ∧ Rd H d (.dK kvs) ∧ kvs.map (·.2) = ns.map V.int ∧ Q (.bl (decide (j ∈ ns))) H
section
variable {X : Cx} {i e : Expr} {ti te : TE} {apos cpos : Pos}
theorem pc_inVals (hc : X.calm = true) (hi : PE X i ti) (he : PE X e te) (hbase : attributeBase e "values" X.env (eval e X.env) = eval e X.env := by rfl) (hline : (apos.endLine == cpos.line) = true := by rfl) :
    PC X .In i (.Call (.Attribute e "values" apos) [] [] cpos) (tOp rInVals ti te) := by
  refine ⟨fun pins s σ H Q I hq => ?_⟩
  refine thn (hi.run pins s σ H _ I hq) fun iv s0 ⟨y, H0, I0, ry, q0⟩ => ?_
  refine wpAny_Call_method (T := "dict") (id := "dict.values") hbase rfl hline F.plainAttrs_dict F.slot_dict_values F.type_dict_values (thn (he.run pins s0 σ H0 _ I0 q0) fun u s1 ⟨x, H1, I1, rx, j, d, kvs, ns, ey, ex, hd, hns, q⟩ => ?_)
  subst ex ey
  obtain rfl : u = Value.ref d := rx
  obtain ⟨t, rfl⟩ := (show ∃ t, iv = Value.int j t from ry)
  obtain ⟨hz, hs0, vs, kv, hdo⟩ := dk_rd I1.hok hd
  obtain ⟨ep, hat⟩ := hdo.dictAt
  have lk : kvs.length = vs.length := Paired.length kv
  have ln : ns.length = vs.length := by
    have := congrArg List.length hns
    rw [List.length_map, List.length_map] at this
    omega
  have I2 : Inv X pins σ H1 { s1 with heap := s1.heap.push { cls := .type "dict_values", data := .fields #[.ref d] } } := I1.kept (t' := s1.toks) fun b ob q => Heap.get?_push_of_some _ q
  refine ⟨hdo.typeIs, hdo.mapOf.noDict, ?_⟩
  show wpAny _ _ (callWith cpos (.builtin "dict.values") [.ref d] [] []) _ X.xe s1
  refine method_meetsIn F.slot_dict_values F.entry_dict_values rfl (PySem.evalArgs_none ⟨rfl, hdo.typeIs, F.args_dict_values_1 _, _, meets_dict_values (mixKind X.prog X.w) d hs0, ⟨vs, hdo⟩, ?_⟩)
  refine in_vals (knd := mixKind X.prog X.w) (kvs := vs) (ns := ns) (ep := ep) (I1.ok.hd hc) ⟨_, Heap.get?_push_size _ rfl, rfl, rfl⟩ (hat.push _) (fun m p hp => ?_) ln fun h' tk hk => ?_
  · have hlt : m < kvs.length := by rw [lk]; exact (List.getElem?_eq_some_iff.mp hp).1
    obtain ⟨⟨k, x⟩, hkx⟩ : ∃ q, kvs[m]? = some q := ⟨kvs[m], List.getElem?_eq_getElem hlt⟩
    obtain ⟨u, hu, ru⟩ := kv_get kv hkx
    rw [hp] at hu
    cases hu
    have e1 : (kvs.map (·.2))[m]? = some x := by rw [List.getElem?_map, hkx]; rfl
    rw [hns, List.getElem?_map] at e1
    cases e2 : ns[m]? with
    | none => rw [e2] at e1; cases e1
    | some n =>
      rw [e2] at e1
      cases e1
      obtain ⟨t, ht⟩ := (show ∃ t, u = Value.int n t from ru)
      exact ⟨n, t, rfl, ht⟩
  · exact ⟨.bl (decide (j ∈ ns)), H1, I2.kept (t' := tk) hk, rfl, q⟩
end
section
variable {c : Cc}
def valsI : List (Key × D) → Option (List Int)
  | [] => some []
  | (_, .int i) :: r => (valsI r).map (i :: ·)
  | _ => none
theorem valsI_map {K : PySem.W.Frag} {g : Gh} : ∀ {kv : List (Key × V)} {kd : List (Key × D)} {ns : List Int}, RepK K g kv kd → valsI kd = some ns → kv.map (·.2) = ns.map V.int
  | _, _, _, .nil, e => by cases e; rfl
  | _, _, _, .cons (d := d) r t, e => by
    cases d <;> try (cases e; done)
    obtain ⟨ms, e1, rfl⟩ := Option.map_eq_some_iff.mp e
    cases r
    rw [List.map_cons, List.map_cons, valsI_map t e1]
def dInVals (κ : List Cell) (y x : D) : Option D := match y with
  | .int j => (seeD κ x).bind fun kd => (valsI kd).map fun ns => .bl (decide (j ∈ ns))
  | _ => none
theorem rk_inVals : RKp c rInVals dInVals := by
  intro κ s y x b a d w ry rx e Q q
  unfold dInVals at e
  split at e
  · rename_i j
    cases e1 : seeD κ a with
    | none => rw [e1] at e; cases e
    | some kd =>
      rw [e1] at e
      obtain ⟨ns, e2, rfl⟩ := Option.map_eq_some_iff.mp e
      obtain ⟨p, kv, rfl, h1, h2⟩ := seeD_rep w rx e1
      cases ry
      exact ⟨j, p, kv, ns, rfl, rfl, h1, valsI_map h2 e2, q _ s.W s.H w.nref (.bl _)⟩
  · cases e
theorem se_inVals {ti te : TE} {mi me : MM D} (h : SE c ti mi) (k : SE c te me) : SE c (tOp rInVals ti te) (mOpK dInVals mi me) := se_opK rk_inVals h k
end
end PH
end
section
set_option maxHeartbeats 0
/-! sorted of pairs (int, text) -/
namespace PHS
open PySem PySem.Spec PyProof.Rows L2 SrtO HT
def lexS (p q : Int × Str) : Bool := if p.1 = q.1 then ltCps p.2.cps.toList q.2.cps.toList else decide (p.1 < q.1)
theorem lexS_iff {p q : Int × Str} : lexS p q = true ↔ p.1 < q.1 ∨ (p.1 = q.1 ∧ p.2.cps.toList < q.2.cps.toList) := by
  unfold lexS
  by_cases e : p.1 = q.1
  · rw [if_pos e, ltCps_eq, decide_eq_true_eq]
    constructor
    · exact fun h => .inr ⟨e, h⟩
    · rintro (h | h)
      · omega
      · exact h.2
  · rw [if_neg e, decide_eq_true_eq]
    constructor
    · exact fun h => .inl h
    · rintro (h | h)
      · exact h
      · exact absurd h.1 e
theorem lexS_no {p q : Int × Str} : lexS p q = false ↔ q.1 < p.1 ∨ (p.1 = q.1 ∧ q.2.cps.toList ≤ p.2.cps.toList) := by
  rw [← Bool.not_eq_true, lexS_iff]
  constructor
  · intro h
    by_cases e : p.1 = q.1
    · exact .inr ⟨e, List.not_lt.mp fun z => h (.inr ⟨e, z⟩)⟩
    · exact .inl (by omega)
  · rintro (h | ⟨h1, h2⟩) (k | ⟨k1, k2⟩)
    · omega
    · omega
    · omega
    · exact List.not_lt.mpr h2 k2
theorem swo_lexS {α : Type} (k : α → Int × Str) : Swo fun v u => lexS (k v) (k u) := by
  refine ⟨fun x y h => ?_, fun x y z h1 h2 => ?_⟩
  · refine lexS_no.mpr ?_
    rcases lexS_iff.mp h with h | ⟨h1, h2⟩
    · exact .inl h
    · exact .inr ⟨h1.symm, List.le_of_lt h2⟩
  · refine lexS_no.mpr ?_
    rcases lexS_no.mp h1 with a | ⟨a1, a2⟩ <;> rcases lexS_no.mp h2 with b | ⟨b1, b2⟩
    · exact .inl (by omega)
    · exact .inl (by omega)
    · exact .inl (by omega)
    · exact .inr ⟨by omega, List.le_trans a2 b2⟩
def IsPairS (h : Heap) (v : Value) (x : Int) (y : Str) : Prop := ∃ a o t u n, v = .ref a ∧ h.get? a = some o ∧ o.cls = .type "tuple" ∧ o.data = .seq #[.int x t, .str y u] n
theorem IsPairS.keeps {h h' : Heap} {v : Value} {x : Int} {y : Str} (p : IsPairS h v x y) (k : ∀ b o, h.get? b = some o → o.cls = .type "tuple" → h'.get? b = some o) : IsPairS h' v x y := by
  obtain ⟨a, o, t, u, n, e, ho, hc, hd⟩ := p
  exact ⟨a, o, t, u, n, e, k _ _ ho hc, hc, hd⟩
theorem firsts_ofS {h : Heap} : ∀ {vs : List Value}, (∀ v ∈ vs, ∃ x y, IsPairS h v x y) → ∃ fs : List Value, PySem.W.KatTups h vs fs ∧ fs.length = vs.length ∧ ∀ f ∈ fs, ∃ x t, f = Value.int x t
  | [], _ => ⟨[], PySem.W.KatTups.nil, rfl, fun _ hm => by simp at hm⟩
  | v :: vs, hp => by
    obtain ⟨fs, h1, h2, h3⟩ := firsts_ofS (vs := vs) fun v' hm => hp v' (List.mem_cons_of_mem _ hm)
    obtain ⟨x, y, a, o, t, u, n, e, ho, hc, hd⟩ := hp v (List.mem_cons_self ..)
    subst e
    refine ⟨.int x t :: fs, PySem.W.KatTups.cons ho hc hd rfl h1, by rw [List.length_cons, List.length_cons, h2], fun f hm => ?_⟩
    rcases List.mem_cons.mp hm with rfl | hm
    · exact ⟨x, t, rfl⟩
    · exact h3 f hm
section
variable {prog : Program} {w : World} {A : Around} {E : Value → Shared → Prop} {s : Shared}
theorem pairS_cmp {vs : List Value} {k : Value → Int × Str} (hp : ∀ v ∈ vs, IsPairS s.heap v (k v).1 (k v).2) : Cmp prog w A s (tuples' true) (fun p => p.1 ∈ vs) (lt2 fun v u => lexS (k v) (k u)) := by
  intro p q hm hm'
  have h1 := hp _ hm
  have h2 := hp _ hm'
  show wpAny (model prog w) A (keyLt' (tuples' true) p.1 q.1) (fun r s' => s' = s ∧ r = lexS (k p.1) (k q.1)) (fun _ _ => False) s
  unfold lexS
  generalize (k p.1).1 = x at h1 ⊢
  generalize (k p.1).2 = y at h1 ⊢
  generalize (k q.1).1 = x' at h2 ⊢
  generalize (k q.1).2 = y' at h2 ⊢
  obtain ⟨a, o, t, u, n, e, ho, hc, hd⟩ := h1
  obtain ⟨a', o', t', u', n', e', ho', hc', hd'⟩ := h2
  rw [e, e']
  refine PySem.W.kat_lt ho hd ho' hd' ?_
  show PySem.W.KatLex prog w A true (decide (2 < 2)) _ [(.int x t, .int x' t'), (.str y u, .str y' u')] 0 s
  refine PySem.W.kat_cons (SeqAt.EqAt.int_int x t x' t' prog w _ _ ?_)
  refine PySem.W.kat_go (fun e1 => ?_) (fun e1 => ?_)
  · have ex : x = x' := by simpa using e1
    refine PySem.W.kat_yes (PySem.W.kat_cons (SeqAt.EqAt.str_str y u y' u' prog w _ _ ?_))
    refine PySem.W.kat_go (fun e2 => ?_) (fun e2 => ?_)
    · have ey : y = y' := by simpa using e2
      have e3 : (if x = x' then ltCps y.cps.toList y'.cps.toList else decide (x < x')) = false := by
        rw [if_pos ex, ey, ltCps_eq]
        exact decide_eq_false (List.lt_irrefl _)
      exact PySem.W.kat_yes (PySem.W.kat_nil ⟨rfl, e3.symm⟩)
    · have e3 : (if x = x' then ltCps y.cps.toList y'.cps.toList else decide (x < x')) = decide (y.cps.toList < y'.cps.toList) := by rw [if_pos ex, ltCps_eq]
      refine PySem.W.kat_no (PySem.W.kat_one _ _ (PyProof.Rows.lt_str ?_))
      exact (show s = s ∧ decide (y.cps.toList < y'.cps.toList) = (if x = x' then ltCps y.cps.toList y'.cps.toList else decide (x < x')) from ⟨rfl, e3.symm⟩)
  · have ex : ¬ x = x' := by simpa using e1
    have e3 : (if x = x' then ltCps y.cps.toList y'.cps.toList else decide (x < x')) = decide (x < x') := if_neg ex
    exact PySem.W.kat_no (oneLt_int ⟨rfl, e3.symm⟩)
theorem pairsS_sortableO {a : Addr} {vs : List Value} {k : Value → Int × Str} (h0 : 0 < vs.length) (hp : ∀ v ∈ vs, IsPairS s.heap v (k v).1 (k v).2) (ha : ∀ o, s.heap.get? a = some o → o.cls ≠ .type "tuple") : SortableO prog w A s a vs fun v u => lexS (k v) (k u) := by
  intro h' keep
  have hp' : ∀ v ∈ vs, IsPairS h' v (k v).1 (k v).2 := fun v hm => (hp v hm).keeps fun b o e c => keep b o (fun z => by subst z; exact ha o e c) e
  obtain ⟨fs, h1, h2, h3⟩ := firsts_ofS fun v hm => ⟨_, _, hp' v hm⟩
  refine ⟨tuples' true, fun Q E hq => ?_, pairS_cmp hp'⟩
  refine PySem.W.kat_kind (T := .type "int") h1 (by omega) (fun f hm => ?_) (by rfl) ?_
  · obtain ⟨x, t, rfl⟩ := h3 f hm
    exact PySem.W.Looks.now
  · have e : (Value.type "int" != Value.type "tuple") = true := by first | decide +kernel | rfl | decide
    rw [e]
    exact hq
theorem sorted_pairsS {l : Addr} {vs : List Value} {k : Value → Int × Str} {Q : Value → Shared → Prop} (hl : s.heap.IsList l vs.toArray) (hz : vs.length ≤ sizeLine) (hp : ∀ v ∈ vs, IsPairS s.heap v (k v).1 (k v).2)
    (h : ∀ (h' : Heap) (d : Addr) (out : List Value), Srtd (fun v u => lexS (k v) (k u)) out → Stb (fun v u => lexS (k v) (k u)) out vs → (∀ b o, s.heap.get? b = some o → h'.get? b = some o) → s.heap.objs.size ≤ d → (∃ n, h'.get? d = some (seqObj "list" out.toArray n)) → Q (.ref d) { s with heap := h' }) :
    wpAny (model prog w) A (call (.builtin "sorted") [.ref l]) Q E s := by
  refine sorted_ord (swo_lexS k) hl hz (fun h2 h₁ a ha kk => ?_) fun out hs hb => ?_
  · refine pairsS_sortableO (s := { s with heap := h₁ }) (by omega) (fun v hm => (hp v hm).keeps fun b o e _ => (kk b o e).2) fun o e => ?_
    have e' : some o = some (seqObj "list" vs.toArray 0) := e.symm.trans ha
    cases e'
    intro c
    exact absurd (Value.type.inj c) (by decide)
  · exact h _ _ out hs hb (fun b o e => sortedAll_old e) (Nat.le_succ _) (sortedAll_at s.heap vs out.toArray)
end
def leIS (p q : Int × Str) : Bool := !lexS q p
theorem leIS_trans (a b d : Int × Str) (h : leIS a b = true) (k : leIS b d = true) : leIS a d = true := by
  unfold leIS at *
  rw [Bool.not_eq_true'] at *
  exact (swo_lexS (fun x : Int × Str => x)).tr a b d h k
theorem leIS_total (a b : Int × Str) : (leIS a b || leIS b a) = true := by
  unfold leIS
  cases h : lexS b a with
  | false => rfl
  | true =>
    have := (swo_lexS (fun x : Int × Str => x)).asym b a h
    have this : lexS a b = false := this
    rw [this]
    rfl
theorem leIS_anti {a b : Int × Str} (h : leIS a b = true) (k : leIS b a = true) : a = b := by
  unfold leIS at *
  rw [Bool.not_eq_true'] at *
  rcases lexS_no.mp h with h | ⟨h1, h2⟩ <;> rcases lexS_no.mp k with k | ⟨k1, k2⟩
  · omega
  · omega
  · omega
  · exact Prod.ext k1 (Str.ext' (Array.toList_inj.mp (List.le_antisymm h2 k2)))
def sortIS (ks : List (Int × Str)) : List (Int × Str) := ks.mergeSort leIS
theorem sortIS_eq {ks ls : List (Int × Str)} (p : ls.Perm ks) (h : Srtd lexS ls) : ls = sortIS ks := by
  refine List.Perm.eq_of_pairwise (le := fun a b => leIS a b = true) (fun a b _ _ => leIS_anti) ?_ (List.pairwise_mergeSort leIS_trans leIS_total ks) (p.trans (List.mergeSort_perm ks leIS).symm)
  exact List.Pairwise.imp (fun {a b} z => by unfold leIS; rw [z]; rfl) h
/-- a value's pair, by the heap -/
def pairAt (h : Heap) : Value → Int × Str
  | .ref a => match h.get? a with
    | some o => match o.data with
      | .seq xs _ => match xs.toList with
        | [Value.int x _, Value.str y _] => (x, y)
        | _ => (0, default)
      | _ => (0, default)
    | none => (0, default)
  | _ => (0, default)
theorem pairAt_of {h : Heap} {v : Value} {x : Int} {y : Str} (p : IsPairS h v x y) : pairAt h v = (x, y) := by
  obtain ⟨a, o, t, u, n, rfl, ho, hc, hd⟩ := p
  unfold pairAt
  simp only [ho, hd]
/-- sorted(xs), xs a list of pairs (int, text) -/
def rSortedPS (K : PySem.W.Frag) : List V → Hp → VK → Prop := fun vs H Q => ∃ (a : Addr) (xs : List V) (ks : List (Int × Str)) (P : V → Int × Str → Prop), vs = [V.ref a] ∧ SqL K H a xs ∧ (∀ x p, P x p → ∃ t, x = V.ref t ∧ SqT K H t [.int p.1, .str p.2]) ∧ Paired P xs ks ∧
  ∀ ys p, Paired P ys (sortIS ks) → H p = none → Q (.ref p) (upd H p (.lst ys))
theorem paired_map {α β γ : Type} {P : β → γ → Prop} {f : α → β} {g : α → γ} : ∀ {l : List α}, (∀ x ∈ l, P (f x) (g x)) → Paired P (l.map f) (l.map g)
  | [], _ => .nil
  | x :: l, h => .cons (h x List.mem_cons_self) (paired_map fun y hy => h y (List.mem_cons_of_mem _ hy))
theorem paired_vals {P : V → Int × Str → Prop} {h : Heap} (hp : ∀ x p u, P x p → RelV x u → IsPairS h u p.1 p.2 ∧ x = backV u) : ∀ {xs : List V} {ks : List (Int × Str)} {us : List Value}, Paired P xs ks → Vals xs us → ks = us.map (pairAt h) ∧ xs = us.map backV ∧ ∀ u ∈ us, P (backV u) (pairAt h u) ∧ IsPairS h u (pairAt h u).1 (pairAt h u).2 := by
  intro xs ks us r t
  induction r generalizing us with
  | nil => cases t; exact ⟨rfl, rfl, fun _ hu => absurd hu (by simp)⟩
  | @cons x p xs ks r _ ih =>
    cases t with
    | @cons _ u _ us ru tu =>
    obtain ⟨h1, h2, h3⟩ := ih tu
    obtain ⟨k1, k2⟩ := hp x p u r ru
    have e := pairAt_of k1
    refine ⟨by rw [List.map_cons, ← h1, e], by rw [List.map_cons, ← h2, ← k2], fun v hv => ?_⟩
    rcases List.mem_cons.mp hv with rfl | hv
    · rw [e, ← k2]
      exact ⟨r, k1⟩
    · exact h3 v hv
theorem cr_sortedPS {X : Cx} : CallR X (.builtin "sorted") (rSortedPS X.K) := by
  intro pins s σ H vs us Q I r h
  obtain ⟨a, xs, ks, P, rfl, hs, hx, hP, q⟩ := h
  obtain ⟨its, rv, hl, hz⟩ := I.list hs
  obtain ⟨u, rfl, ru⟩ := vals1 r
  obtain rfl : u = Value.ref a := ru
  obtain ⟨e1, e2, e3⟩ := paired_vals (h := s.heap) (fun x p u hp ru => by
    obtain ⟨t, rfl, ht⟩ := hx x p hp
    cases ru
    obtain ⟨its2, r2, ⟨o, ho, hc, n, hd⟩, _⟩ := I.tuple ht
    obtain ⟨u1, u2, rfl, ri, rj⟩ := vals2 r2
    obtain ⟨t1, rfl⟩ := ri
    obtain ⟨t2, rfl⟩ := rj
    exact ⟨⟨t, o, t1, t2, n, rfl, ho, hc, hd⟩, rfl⟩) hP rv
  refine sorted_pairsS (k := pairAt s.heap) hl.isList (by rw [← rv.length]; exact hz) (fun v hv => (e3 v hv).2) fun h' d out h1 h2 kp hd hn => ?_
  have h4 : ∀ u ∈ out, u ∈ its := fun u hu => h2.perm.mem_iff.mp hu
  have h3 : ∀ u ∈ out, ∃ a, u = Value.ref a := fun u hu => by
    obtain ⟨a, _, _, _, _, e, _⟩ := (e3 u (h4 u hu)).2
    exact ⟨a, e⟩
  obtain ⟨n, hn⟩ := hn
  have hpm : (out.map (pairAt s.heap)).Perm ks := by rw [e1]; exact h2.perm.map _
  have hst : Srtd lexS (out.map (pairAt s.heap)) := SrtO.srtd_map (lt := lexS) (f := pairAt s.heap) h1
  have hb : (out.map backV).length ≤ sizeLine := by
    rw [List.length_map, h2.perm.length_eq, ← rv.length]
    exact hz
  refine ⟨.ref d, upd H d (.lst (out.map backV)), I.laid (t' := s.toks) kp hd ⟨hb, out, n, vals_back h3, hn⟩, rfl, q _ d ?_ (I.hok.fresh hd)⟩
  rw [← sortIS_eq hpm hst]
  exact paired_map fun u hu => (e3 u (h4 u hu)).1
end PHS
namespace PH
open PySem PySem.Spec PyProof.Rows L2
section
variable {c : Cc}
def keysIS : List D → Option (List (Int × Str))
  | [] => some []
  | .tup [.int i, .str z] :: r => (keysIS r).map ((i, z) :: ·)
  | _ => none
def dSortIS : List D → Option (List D)
  | [.lst ds] => (keysIS ds).map fun ks => (PHS.sortIS ks).map fun p => .tup [.int p.1, .str p.2]
  | _ => none
abbrev RepIS (K : PySem.W.Frag) (g : Gh) (x : V) (p : Int × Str) : Prop := Rep K g x (.tup [.int p.1, .str p.2])
theorem reps_paired {K : PySem.W.Frag} {g : Gh} {vs : List V} {ks : List (Int × Str)} (r : Paired (RepIS K g) vs ks) : Reps K g vs (ks.map fun p => .tup [.int p.1, .str p.2]) := by
  induction r with
  | nil => exact .nil
  | cons r _ ih => exact .cons r ih
theorem paired_reps {K : PySem.W.Frag} {g : Gh} : ∀ {vs : List V} {ds : List D} {ks : List (Int × Str)}, Reps K g vs ds → keysIS ds = some ks → Paired (RepIS K g) vs ks
  | _, _, _, .nil, e => by cases e; exact .nil
  | _, _, ks, .cons (d := d) r t, e => by
    unfold keysIS at e
    split at e
    · rename_i h; cases h
    · rename_i i z r' h
      cases h
      obtain ⟨l, e1, rfl⟩ := Option.map_eq_some_iff.mp e
      exact .cons r (paired_reps t e1)
    · cases e
theorem repIS_sq {κ : List Cell} {s : Ws} (w : CS c κ s) {x : V} {p : Int × Str} (r : RepIS c.K s.g x p) : ∃ t, x = .ref t ∧ SqT c.K s.H t [.int p.1, .str p.2] := by
  cases r with
  | @tup t vs _ h1 h2 =>
    cases h2 with
    | cons r1 r2 =>
    cases r2 with
    | cons r3 r4 =>
    cases r4
    cases r1
    cases r3
    exact ⟨t, rfl, w.ex.st h1⟩
theorem se_sortISC {ta : TA} {ma : MM (List D)} (ha : SA c ta ma) : SE c (tCB (PHS.rSortedPS c.K) ta) (bnd ma fun a => bnd (lftK fun κ => dSortIS (a.map (see1 κ))) fun ds => newC (.lst ds)) := by
  intro ρ rr e s σ hs Q q
  refine sx_go (t := ta) ha e hs q fun x a ρ s e hs rx q tr => ?_
  rcases bnd_cases e with ⟨ds, ρ', e1, e2⟩ | ⟨x', ρ', e1, _⟩
  · obtain ⟨ds', e3, e4⟩ := lftK_cases e1
    cases e4
    cases e2
    have rx := see1_reps hs.cr rx
    generalize a.map (see1 ρ.c) = as at rx e3
    unfold dSortIS at e3
    split at e3
    · obtain ⟨ks, e5, rfl⟩ := Option.map_eq_some_iff.mp e3
      cases rx with
      | cons r1 r2 =>
      cases r2
      cases r1 with
      | @lst p vs _ h1 h2 =>
      exact ⟨p, vs, ks, RepIS c.K s.g, rfl, .inl (.inl h1), fun x p r => repIS_sq hs.cr r, paired_reps h2 e5, fun ys a hy ha => post_lst hs q (reps_paired hy) a ha⟩
    · cases e3
  · obtain ⟨ds', e3, e4⟩ := lftK_cases e1
    cases e4
theorem rca_sortIS : RCa c (PHS.rSortedPS c.K) (fun as => (dSortIS as).map .lst) := by
  intro κ s xs as d w rx e Q q
  obtain ⟨ds, e1, rfl⟩ := Option.map_eq_some_iff.mp e
  unfold dSortIS at e1
  split at e1
  · obtain ⟨ks, e5, rfl⟩ := Option.map_eq_some_iff.mp e1
    cases rx with
    | cons r1 r2 =>
    cases r2
    cases r1 with
    | @lst p vs _ h1 h2 =>
    exact ⟨p, vs, ks, RepIS c.K s.g, rfl, .inl (.inl h1), fun x p r => repIS_sq w r, paired_reps h2 e5, fun ys a hy ha => rx_lst w (reps_paired hy) Q q a ha⟩
  · cases e1
end
end PH
end
section
set_option maxHeartbeats 0
/-! PHX: generator expressions with one target over what is walked; the elements are quiet -/
namespace PHX
open PySem PySem.Spec PyProof.Rows L2 GxR
/-- what is walked: its iterator is one new object -/
def ItOk (X : Cx) (s1 : Shared) (P : Addr) (xv : Value) (n : Nat) (Pv : Nat → Value → Prop) : Prop := ∀ (Q : Value → Shared → Prop),
  (∀ (o : Obj) (fp : List Addr) (St : Nat → Heap → Prop), (∀ b ∈ fp, b ≤ s1.heap.objs.size ∧ b ≠ P ∧ b ≠ cStatics) → (∀ A' : Around, A'.handled = none → Walks X.prog X.w A' s1.heap.objs.size fp [s1.heap.objs.size] n Pv St) → St 0 (s1.heap.push o) → Q (.ref s1.heap.objs.size) { s1 with heap := s1.heap.push o }) →
  wpAny (model X.prog X.w) X.A (pyIter xv) Q X.xe s1
/-- the element, wherever all that stood (but the table at P) is as it was -/
def EltV (X : Cx) (P : Addr) (scope : Scope) (x : Str) (elt : Expr) (s1 : Shared) (Pv F : Nat → Value → Prop) : Prop :=
  ∀ (code : Value) (bi L : Addr) (A' : Around) (E' : Value → Shared → Prop) (i : Nat) (v : Value) (s₂ : Shared) (m₂ : Str → Option Value), A'.handled = none → Pv i v → s₂.heap.Ns L m₂ → m₂ x = some v → (∀ b o, b ≠ P → s1.heap.get? b = some o → s₂.heap.get? b = some o) →
    wpAny (model X.prog X.w) A' (eval elt (genEnv scope (cloFrom X.env.cells scope.names []) L code bi X.env)) (fun y s₃ => F i y ∧ Keeps s₂ s₃) E' s₂
section
variable {X : Cx} {pins : List (Addr × Obj)} {σ : L2.St} {H : Hp} {s : Shared}
/-- the generator g, ready to be walked -/
def ReadyL (X : Cx) (pins : List (Addr × Obj)) (σ : L2.St) (H1 : Hp) (P : Addr) (n : Nat) (F : Nat → Value → Prop) (g : Addr) (s5 : Shared) : Prop :=
  ∃ (fp wr : List Addr) (G : Array GenState → Array GenState → Prop) (F' : Nat → Value → Prop) (St : Nat → Shared → Prop),
    WalksS X.prog X.w X.A.in4 g fp wr G n F' St ∧ St 0 s5 ∧ (∀ b ∈ fp, b < s5.heap.objs.size) ∧ g ∈ fp ∧ (∀ i s9, St i s9 → s9.TypeIs (.ref g) "generator") ∧
    (∀ j v, F' j v → j < n ∧ F j v) ∧ ∀ s', Moved wr G s5 s' → ∃ H2, Tabbed P H1 H2 ∧ Inv X pins σ H2 s'
theorem genL {cc P : Addr} {elt iter : Expr} {x : Str} {px gpos : Pos} {scope : Scope} {k : Nat} {Q' : Value → Shared → Prop} {R : Nat → (Nat → Value → Prop) → Hp → Prop}
    (hr : Room k X.A) (T : TabB X.base X.mg cc P) (hcode : X.env.code = .ref cc) (S : GenS X.env scope x) (hfold : ∀ v, genFold iter X.env v = pure v)
    (h : wpAny (model X.prog X.w) X.A (eval iter X.env) (fun xv s1 => ∃ H1, Inv X pins σ H1 s1 ∧ TabG H1 P ∧ ∃ n Pv F, ItOk X s1 P xv n Pv ∧ EltV X P scope x elt s1 Pv F ∧ R n F H1) X.xe s)
    (fin : ∀ n F H1 g s5, R n F H1 → ReadyL X pins σ H1 P n F g s5 → Q' (.ref g) s5) :
    wpAny (model X.prog X.w) X.A (eval (.GeneratorExp elt [⟨.Name x px, iter, [], 0⟩] scope gpos) X.env) Q' X.xe s := by
  have roomy : X.A.depth < recursionLimit := by
    have q := hr.dp
    omega
  refine wpAny_GeneratorExp_walksQ hr.hd S.co (closure_ok S.free) S.cell S.dot S.loc S.kind roomy (thn h ?_) hfold
  rintro xv s1 ⟨H1, I1, ⟨ps, hP, tri⟩, n, Pv, F, it, hel, hR⟩
  refine it _ fun o fp St hfp W st0 => ?_
  have atP : s1.heap.get? P = some { cls := .none, data := .fields ps } := I1.hok P _ hP
  have cls1 : cStatics < s1.heap.objs.size := by
    obtain ⟨_, z, _⟩ := I1.nolimit
    exact z.lt
  have notP : cStatics ≠ P := fun z => by
    obtain ⟨_, ⟨o', es, ep, e1, e2, _⟩, _⟩ := I1.nolimit
    rw [z, atP] at e1
    cases e1
    cases e2
  have up : ∀ b u, s1.heap.get? b = some u → (s1.heap.push o).get? b = some u := fun b u e => Heap.get?_push_of_some _ e
  have hcd : PySem.W.CodeHd (s1.heap.push o) cc P := T.code.keeps fun b u e => up b u (I1.bk b u e)
  refine ⟨I1.nolimit.push o, ?_⟩
  have rest : ∀ (code : Value) (h3 : Heap) (tk : Nat) (qs more : Array Value), Heap.ExtBut P (s1.heap.push o) h3 → (s1.heap.push o).objs.size ≤ h3.objs.size → h3.get? P = some { cls := .none, data := .fields qs } → qs = ps ++ more → TriplesOk qs.toList →
      wpAny (model X.prog X.w) X.A (builtinsFor X.env.globals X.env.builtins) (fun bi s₄ =>
        ∃ Ia fp wr n₀ Pf St₀ pz F, Value.ref s1.heap.objs.size = .ref Ia ∧ (∀ A' : Around, A'.handled = none → Walks X.prog X.w A' Ia fp wr n₀ Pf St₀) ∧ St₀ 0 s₄.heap ∧ (∀ b ∈ fp, b < s₄.heap.objs.size) ∧ s₄.heap.NoLimit ∧ cStatics ∉ wr ∧
          (∀ href : Heap, (∀ b o, s₄.heap.get? b = some o → href.get? b = some o) →
            QuietGen X.prog X.w (genEnv scope (cloFrom X.env.cells scope.names []) s₄.heap.objs.size code bi X.env) x [] elt (List.range s₄.heap.objs.size) wr Pf pz F href) ∧
          (∀ a h₅ tk gs, gs.bare = true → s₄.heap.objs.size < a → h₅.objs.size = a + 1 → (∀ b o, s₄.heap.get? b = some o → h₅.get? b = some o) →
            WalksS X.prog X.w X.A.in4 a (a :: s₄.heap.objs.size :: List.range s₄.heap.objs.size) (s₄.heap.objs.size :: wr) (GenOnlyQ s₄.gens.size) (passing pz n₀ 0).length
              (fun j y => ∃ i, (passing pz n₀ 0)[j]? = some i ∧ F i y) (GenAt X.prog X.w X.A.in4 a s₄.gens.size s₄.heap.objs.size (List.range s₄.heap.objs.size) wr pz n₀ F) →
            GenAt X.prog X.w X.A.in4 a s₄.gens.size s₄.heap.objs.size (List.range s₄.heap.objs.size) wr pz n₀ F 0 { s₄ with gens := s₄.gens.push gs, toks := tk, heap := h₅ } →
            Q' (.ref a) { s₄ with gens := s₄.gens.push gs, toks := tk, heap := h₅ })) X.xe { s1 with heap := h3, toks := tk } := by
    intro code h3 tk qs more ext size3 atP3 eqs tri3
    obtain ⟨bm, ob, b1, b2, b3, b4, b5, b6, b7, b8⟩ := T.bm
    have keep : ∀ b u, b ≠ P → s1.heap.get? b = some u → h3.get? b = some u := fun b u hb e => ext b u hb (up b u e)
    have glob3 : h3.Ns mainGlobals X.mg := ((I1.mod.glob.keeps I1.bk).push o).extBut ext T.gP
    have one : s1.heap.objs.size < h3.objs.size := by
      have z : (s1.heap.push o).objs.size = s1.heap.objs.size + 1 := Heap.size_push ..
      omega
    refine wpAny_builtinsFor (m := X.mg) (by rw [I1.ok.glob]; exact glob3) b1 b2 (keep _ _ b4 (I1.bk _ _ b5)) b6 b7 b8 ?_
    refine ⟨_, fp, [s1.heap.objs.size], n, Pv, St, fun _ => true, F, rfl, W, ?_, ?_, (I1.nolimit.push o).extBut ext notP, ?_, ?_, ?_⟩
    · exact (W X.A hr.hd).frame _ _ _ st0 fun b hb u e => ext b u (hfp b hb).2.1 e
    · intro b hb
      exact Nat.lt_of_le_of_lt (hfp b hb).1 one
    · intro z
      have eb : cStatics = s1.heap.objs.size := by simpa using z
      exact Nat.ne_of_lt cls1 eb
    · intro href sub
      constructor
      · intro A' E' i v s₂ m₂ _ _ _ _ _
        simp only [List.forIn_nil]
        exact wpAny_pure ⟨rfl, keeps_refl _⟩
      · intro A' E' i v s₂ m₂ hA hv _ hn hm hk
        refine hel code _ _ A' E' i v s₂ m₂ hA hv hn hm fun b u hb e => ?_
        have hlt : b < s1.heap.objs.size := Heap.lt_size e
        refine hk b (List.mem_range.mpr (Nat.lt_trans hlt one)) ?_ u (sub _ _ (keep b u hb e))
        intro z
        have eb : b = s1.heap.objs.size := by simpa using z
        exact Nat.ne_of_lt hlt eb
    · intro g h5 tk5 gs bare hag size5 keep5 W5 at5
      simp only [GxR.passing_true, List.length_range] at W5
      have hag : h3.objs.size < g := hag
      refine fin n F H1 g _ hR ⟨_, _, _, _, _, W5, at5, ?_, List.mem_cons_self, fun i s9 h9 => ?_, ?_, ?_⟩
      · intro b hb
        show b < h5.objs.size
        rw [size5]
        rcases List.mem_cons.mp hb with z | z
        · rw [z]
          exact Nat.lt_succ_self g
        · rcases List.mem_cons.mp z with z | z
          · rw [z]
            exact Nat.lt_succ_of_lt hag
          · have z2 : b < h3.objs.size := List.mem_range.mp z
            exact Nat.lt_succ_of_lt (Nat.lt_trans z2 hag)
      · obtain ⟨hg9, _⟩ := h9
        exact hg9.typeIs
      · rintro j y ⟨i, hij, hF⟩
        obtain ⟨hj, ej⟩ := List.getElem?_eq_some_iff.mp hij
        rw [List.length_range] at hj
        rw [List.getElem_range] at ej
        subst ej
        exact ⟨hj, hF⟩
      · intro s' moved
        subst eqs
        have J := inv_tab (more := more) (h' := s'.heap) (g' := s'.gens) (d' := s'.drawn) (t' := s'.toks) I1 hP (fun b u hb e => moved.heap b u (PD.old_not_new e (Nat.le_of_lt one)) (keep5 b u (keep b u hb e)))
          (moved.heap P _ (PD.old_not_new atP (Nat.le_of_lt one)) (keep5 P _ atP3)) (AllBare.movedS (I1.bare.push bare) moved)
        rw [sh_eta s1 s' moved.os] at J
        exact ⟨_, ⟨⟨ps ++ more, upd_same, tri3⟩, fun b hb => upd_ne hb⟩, J⟩
  cases hf : codeAmong gpos ps.toList with
  | some cv =>
    exact wpAny_genexprCode_hit hcode (hcd.code (up P _ atP) tri) hf (rest cv (s1.heap.push o) s1.toks ps #[] (Heap.ExtBut.refl _ _) (Nat.le_refl _) (up P _ atP) (by simp) tri)
  | none =>
    refine wpAny_genexprCodeX hcode (hcd.code (up P _ atP) tri) (hcd.tab (up P _ atP)) hf fun c' h' tk hx hge hlt hco _ htab _ => ?_
    obtain ⟨_, _, _, _, _, _, _, _, _, _, _, _, _, _, _, _, _, _, _, tri', _⟩ := hco
    exact rest _ h' tk _ _ hx (Nat.le_trans hge (Nat.le_of_lt hlt)) htab.2 rfl tri'
end
end PHX
end
section
set_option maxHeartbeats 0
namespace PHX
open PySem PySem.Spec PyProof.Rows L2 GxR
section
variable {X : Cx} {pins : List (Addr × Obj)} {σ : L2.St} {H : Hp} {s : Shared} {P a : Addr} {xs : List V}
theorem stat_dict (I : Inv X pins σ H s) : ∃ o es ep, s.heap.get? cStatics = some o ∧ o.data = .dict es ep := by
  obtain ⟨_, ⟨o', es, ep, e1, e2, _⟩, _⟩ := I.nolimit
  exact ⟨o', es, ep, e1, e2⟩
theorem it_list (I : Inv X pins σ H s) (hP : TabG H P) (h : SqL X.K H a xs) : ∃ its, Vals xs its ∧ ItOk X s P (.ref a) its.length (fun i v => its[i]? = some v) := by
  obtain ⟨ps, hP, _⟩ := hP
  obtain ⟨its, rv, hl, hz⟩ := I.list h
  have hIL := hl.isList
  refine ⟨its, rv, fun Q q => ?_⟩
  refine wpAny_pyIter_list hIL ?_
  generalize ho : ({ cls := .type "list_iterator", data := .fields #[.ref a, .int 0 0] } : Obj) = o
  have hitr : (s.heap.push o).IsListIter s.heap.objs.size a 0 := by
    subst ho
    exact ⟨_, Heap.get?_push_size _ rfl, rfl, rfl⟩
  have alt : a < s.heap.objs.size := by
    obtain ⟨_, e, _⟩ := _root_.id hIL
    exact Heap.lt_size e
  have atP : s.heap.get? P = some { cls := .none, data := .fields ps } := I.hok P _ hP
  refine q o [s.heap.objs.size, a] (fun i h => h.IsListIter s.heap.objs.size a i ∧ h.IsList a its.toArray) (fun b hb => ?_) (fun A' hA => ?_) ⟨hitr, hIL.at fun u e => Heap.get?_push_of_some _ e⟩
  · obtain ⟨os, es, ep, e1, e2⟩ := stat_dict I
    rcases List.mem_cons.mp hb with z | z
    · rw [z]
      exact ⟨Nat.le_refl _, Nat.ne_of_gt (Heap.lt_size atP), Nat.ne_of_gt (Heap.lt_size e1)⟩
    · have z : b = a := by simpa using z
      rw [z]
      refine ⟨Nat.le_of_lt alt, fun z => ?_, fun z => ?_⟩
      · obtain ⟨ol, e, hc1, _, hd1⟩ := _root_.id hIL
        rw [z, atP] at e
        cases e
        cases hd1
      · obtain ⟨ol, e, hc1, _, hd1⟩ := _root_.id hIL
        rw [z, e1] at e
        cases e
        rw [e2] at hd1
        cases hd1
  · have W := Walks.list (prog := X.prog) (w := X.w) hA s.heap.objs.size a (Nat.ne_of_lt alt) its.toArray
    rw [List.size_toArray] at W
    have e : (fun (i : Nat) (v : Value) => its.toArray[i]? = some v) = fun i v => its[i]? = some v := by
      funext i v
      rw [List.getElem?_toArray]
    rw [e] at W
    exact W
theorem it_tup (I : Inv X pins σ H s) (hP : TabG H P) (h : SqT X.K H a xs) : ∃ its, Vals xs its ∧ ItOk X s P (.ref a) its.length (fun i v => its[i]? = some v) := by
  obtain ⟨ps, hP, _⟩ := hP
  obtain ⟨its, rv, hl, hz⟩ := I.tuple h
  have hIL : s.heap.IsTuple a its.toArray := hl
  refine ⟨its, rv, fun Q q => ?_⟩
  refine wpAny_pyIter_tuple hIL ?_
  generalize ho : ({ cls := .type "tuple_iterator", data := .fields #[.ref a, .int 0 0] } : Obj) = o
  have hitr : (s.heap.push o).IsTupleIter s.heap.objs.size a 0 := by
    subst ho
    exact ⟨_, Heap.get?_push_size _ rfl, rfl, rfl⟩
  have alt : a < s.heap.objs.size := by
    obtain ⟨_, e, _⟩ := _root_.id hIL
    exact Heap.lt_size e
  have atP : s.heap.get? P = some { cls := .none, data := .fields ps } := I.hok P _ hP
  refine q o [s.heap.objs.size, a] (fun i h => h.IsTupleIter s.heap.objs.size a i ∧ h.IsTuple a its.toArray) (fun b hb => ?_) (fun A' hA => ?_) ⟨hitr, hIL.at fun u e => Heap.get?_push_of_some _ e⟩
  · obtain ⟨os, es, ep, e1, e2⟩ := stat_dict I
    rcases List.mem_cons.mp hb with z | z
    · rw [z]
      exact ⟨Nat.le_refl _, Nat.ne_of_gt (Heap.lt_size atP), Nat.ne_of_gt (Heap.lt_size e1)⟩
    · have z : b = a := by simpa using z
      rw [z]
      refine ⟨Nat.le_of_lt alt, fun z => ?_, fun z => ?_⟩
      · obtain ⟨ol, e, hc1, n, hd1⟩ := _root_.id hIL
        rw [z, atP] at e
        cases e
        cases hd1
      · obtain ⟨ol, e, hc1, n, hd1⟩ := _root_.id hIL
        rw [z, e1] at e
        cases e
        rw [e2] at hd1
        cases hd1
  · have W := Walks.tuple (prog := X.prog) (w := X.w) hA s.heap.objs.size a (Nat.ne_of_lt alt) its.toArray
    rw [List.size_toArray] at W
    have e : (fun (i : Nat) (v : Value) => its.toArray[i]? = some v) = fun i v => its[i]? = some v := by
      funext i v
      rw [List.getElem?_toArray]
    rw [e] at W
    exact W
theorem it_rng {r : Addr} {i j : Int} {t u v : Tok} (I : Inv X pins σ H s) (hP : TabG H P) (hr : IsRange s.heap r i j 1 t u v) (h1 : -(2 ^ 62) ≤ i) (h2 : i < 2 ^ 62) (h3 : -(2 ^ 62) ≤ j) (h4 : j < 2 ^ 62) : ItOk X s P (.ref r) (j - i).toNat (fun k w => ∃ t, w = .int (i + (k : Nat)) t) := by
  obtain ⟨ps, hP, _⟩ := hP
  intro Q q
  have sm := small_one h1 h2 h3 h4
  refine wpAny_pyIter_range hr sm ?_
  generalize ho : ({ cls := .type "range_iterator", data := .fields #[rawInt i, rawInt (Builtin.Range.rangeSize i j 1), rawInt 1] } : Obj) = o
  have atP : s.heap.get? P = some { cls := .none, data := .fields ps } := I.hok P _ hP
  have en : ((j - i).toNat : Int) = Builtin.Range.rangeSize i j 1 := by
    rw [rangeSize_one]
    split <;> omega
  refine q o [s.heap.objs.size] (fun k h => IsRangeIter h s.heap.objs.size (i + (k : Nat) * 1) (((j - i).toNat : Int) - (k : Nat)) 1) (fun b hb => ?_) (fun A' hA => ?_) ?_
  · obtain ⟨os, es, ep, e1, e2⟩ := stat_dict I
    have z : b = s.heap.objs.size := by simpa using hb
    rw [z]
    exact ⟨Nat.le_refl _, Nat.ne_of_gt (Heap.lt_size atP), Nat.ne_of_gt (Heap.lt_size e1)⟩
  · have W := Walks.range (prog := X.prog) (w := X.w) hA s.heap.objs.size i 1 (j - i).toNat
    have e : (fun (k : Nat) (v : Value) => ∃ t, v = .int (i + k * 1) t) = fun k v => ∃ t, v = .int (i + (k : Nat)) t := by
      funext k v
      rw [Int.mul_one]
    rw [e] at W
    exact W
  · subst ho
    show IsRangeIter _ _ (i + ((0 : Nat) : Int) * 1) (((j - i).toNat : Int) - ((0 : Nat) : Int)) 1
    rw [en]
    have e1 : (i + ((0 : Nat) : Int) * 1) = i := by omega
    have e2 : (Builtin.Range.rangeSize i j 1 - ((0 : Nat) : Int)) = Builtin.Range.rangeSize i j 1 := by omega
    rw [e1, e2]
    exact Heap.get?_push_size _ rfl
end
/-- what is seen of the text of a generator expression -/
structure GenS0 (sc scope : Scope) (x : Str) : Prop where
  kind : scope.kind = .function
  co : scope.isCoroutine = false
  cell : ∀ y ∈ scope.names, y.2 ≠ .cell
  dot : scope.names.lookup (".0" : Str) = some NameKind.local
  loc : scope.names.lookup x = some .local
  free : ∀ y ∈ scope.names, y.2 = .free → sc.names.lookup y.1 = some .cell ∨ sc.names.lookup y.1 = some .free
theorem GenS0.to {X : Cx} {scope : Scope} {x : Str} (S : GenS0 X.env.scope scope x) (ok : X.Ok) : GenS X.env scope x := ⟨S.kind, S.co, S.cell, S.dot, S.loc, fun y hy e => ok.has _ (S.free y hy e)⟩
def genSB (sc scope : Scope) (x : Str) : Bool := decide (scope.kind = .function) && !scope.isCoroutine && scope.names.all (fun y => !decide (y.2 = .cell)) && decide (scope.names.lookup (".0" : Str) = some NameKind.local) && decide (scope.names.lookup x = some .local) && scope.names.all fun y => !decide (y.2 = .free) || decide (sc.names.lookup y.1 = some .cell) || decide (sc.names.lookup y.1 = some .free)
theorem genS0_by {sc scope : Scope} {x : Str} (h : genSB sc scope x = true) : GenS0 sc scope x := by
  unfold genSB at h
  simp only [Bool.and_eq_true, Bool.or_eq_true, Bool.not_eq_true', decide_eq_true_eq, decide_eq_false_iff_not, List.all_eq_true] at h
  obtain ⟨⟨⟨⟨⟨h1, h2⟩, h3⟩, h4⟩, h5⟩, h6⟩ := h
  exact ⟨h1, h2, h3, h4, h5, fun y hy e => by
    rcases h6 y hy with (z | z) | z
    · exact absurd e z
    · exact .inl z
    · exact .inr z⟩
end PHX
end
section
set_option maxHeartbeats 0
namespace PHX
open PySem PySem.Spec PyProof.Rows L2 GxR
/-- what is walked -/
abbrev TSrc := L2.St → Hp → (List V → Hp → Prop) → Prop
structure PSrc (X : Cx) (P : Addr) (iter : Expr) (ts : TSrc) : Prop where
  run : ∀ (pins : List (Addr × Obj)) (s : Shared) (σ : L2.St) (H : Hp) (R : List V → Hp → Prop), Inv X pins σ H s → ts σ H R →
    wpAny (model X.prog X.w) X.A (eval iter X.env) (fun xv s1 => ∃ H1 xs Pv, Inv X pins σ H1 s1 ∧ TabG H1 P ∧ ItOk X s1 P xv xs.length Pv ∧ (∀ i v, Pv i v → i < xs.length → ∃ x, xs[i]? = some x ∧ RelV x v) ∧ R xs H1) X.xe s
def tSeqS (K : PySem.W.Frag) (P : Addr) (te : TE) : TSrc := fun σ H R => te σ H fun v H1 => ∃ a xs, v = .ref a ∧ (SqL K H1 a xs ∨ SqT K H1 a xs) ∧ TabG H1 P ∧ R xs H1
def tRngS (P : Addr) (tr : L2.St → Hp → (Int → Int → Hp → Prop) → Prop) : TSrc := fun σ H R => tr σ H fun i j H1 => (-(2 ^ 62) ≤ i ∧ i < 2 ^ 62 ∧ -(2 ^ 62) ≤ j ∧ j < 2 ^ 62) ∧ TabG H1 P ∧ R ((List.range (j - i).toNat).map fun (k : Nat) => V.int (i + (k : Nat))) H1
section
variable {X : Cx} {P : Addr} {iter : Expr}
theorem psrc_seq {te : TE} (h : PE X iter te) : PSrc X P iter (tSeqS X.K P te) := by
  refine ⟨fun pins s σ H R I q => ?_⟩
  refine thn (h.run pins s σ H _ I q) fun u s1 ⟨v, H1, I1, r1, a, xs, ev, hs, hP, hR⟩ => ?_
  subst ev
  obtain rfl : u = Value.ref a := r1
  rcases hs with hs | hs
  · obtain ⟨its, rv, it⟩ := it_list I1 hP hs
    exact ⟨H1, xs, _, I1, hP, by rw [rv.length]; exact it, fun i v hv hi => by
      obtain ⟨x, hx⟩ : ∃ x, xs[i]? = some x := ⟨xs[i], List.getElem?_eq_getElem hi⟩
      obtain ⟨u, hu, ru⟩ := rv.get hx
      rw [hv] at hu
      cases hu
      exact ⟨x, hx, ru⟩, hR⟩
  · obtain ⟨its, rv, it⟩ := it_tup I1 hP hs
    exact ⟨H1, xs, _, I1, hP, by rw [rv.length]; exact it, fun i v hv hi => by
      obtain ⟨x, hx⟩ : ∃ x, xs[i]? = some x := ⟨xs[i], List.getElem?_eq_getElem hi⟩
      obtain ⟨u, hu, ru⟩ := rv.get hx
      rw [hv] at hu
      cases hu
      exact ⟨x, hx, ru⟩, hR⟩
theorem psrc_rng {tr : L2.St → Hp → (Int → Int → Hp → Prop) → Prop} (h : PRg X iter tr) : PSrc X P iter (tRngS P tr) := by
  refine ⟨fun pins s σ H R I q => ?_⟩
  refine thn (h pins s σ H _ I q) fun x s1 ⟨r, a, b, t, u, v, H1, ex, hr, I1, ⟨h1, h2, h3, h4⟩, hP, hR⟩ => ?_
  subst ex
  refine ⟨H1, _, fun (k : Nat) (w : Value) => ∃ t, w = Value.int (a + (k : Nat)) t, I1, hP, ?_, ?_, hR⟩
  · rw [List.length_map, List.length_range]
    exact it_rng I1 hP hr h1 h2 h3 h4
  · intro i v hv hi
    rw [List.length_map, List.length_range] at hi
    obtain ⟨t, rfl⟩ := hv
    exact ⟨V.int (a + (i : Nat)), by rw [List.getElem?_map, List.getElem?_range hi]; rfl, t, rfl⟩
/-- the element, read: x gives w -/
def EltR (X : Cx) (P : Addr) (scope : Scope) (x : Str) (elt : Expr) (Ft : V → L2.St → Hp → V → Prop) : Prop :=
  ∀ (pins : List (Addr × Obj)) (σ : L2.St) (H1 : Hp) (s1 : Shared), Inv X pins σ H1 s1 → TabG H1 P → ∀ (y w : V) (u code : Value) (bi L : Addr) (A' : Around) (E' : Value → Shared → Prop) (s₂ : Shared) (m₂ : Str → Option Value), RelV y u → Ft y σ H1 w →
    A'.handled = none → s₂.heap.Ns L m₂ → m₂ x = some u → (∀ b o, b ≠ P → s1.heap.get? b = some o → s₂.heap.get? b = some o) →
    wpAny (model X.prog X.w) A' (eval elt (genEnv scope (cloFrom X.env.cells scope.names []) L code bi X.env)) (fun v s₃ => RelV w v ∧ Keeps s₂ s₃) E' s₂
/-- the generator's values are ws -/
def GenIs (ws : List V) (n : Nat) (F : Nat → Value → Prop) : Prop := n = ws.length ∧ ∀ j v, F j v → ∃ w, ws[j]? = some w ∧ RelV w v
theorem genR {cc : Addr} {elt : Expr} {x : Str} {px gpos : Pos} {scope : Scope} {ts : TSrc} {Ft : V → L2.St → Hp → V → Prop} {k : Nat} {Q' : Value → Shared → Prop} {C : List V → Hp → Prop} {pins : List (Addr × Obj)} {σ : L2.St} {H : Hp} {s : Shared}
    (hr : Room k X.A) (T : TabB X.base X.mg cc P) (hcode : X.env.code = .ref cc) (S : GenS0 X.env.scope scope x) (hfold : ∀ v, genFold iter X.env v = pure v) (hi : PSrc X P iter ts) (hel : EltR X P scope x elt Ft) (I : Inv X pins σ H s)
    (h : ts σ H fun xs H1 => ∃ ws, Paired (fun y w => Ft y σ H1 w) xs ws ∧ C ws H1)
    (fin : ∀ ws H1 g s5 F, C ws H1 → GenIs ws ws.length F → ReadyL X pins σ H1 P ws.length F g s5 → Q' (.ref g) s5) :
    wpAny (model X.prog X.w) X.A (eval (.GeneratorExp elt [⟨.Name x px, iter, [], 0⟩] scope gpos) X.env) Q' X.xe s := by
  refine genL (P := P) (pins := pins) (σ := σ) (Q' := Q') (R := fun n F H1 => ∃ ws, n = ws.length ∧ GenIs ws ws.length F ∧ C ws H1) hr T hcode (S.to I.ok) hfold (thn (hi.run pins s σ H _ I h) fun xv s1 ⟨H1, xs, Pv, I1, hP, it, hx, ws, hpd, hC⟩ => ?_) fun n F H1 g s5 ⟨ws, en, hg, hC⟩ hready => ?_
  · have hl : xs.length = ws.length := Paired.length hpd
    refine ⟨H1, I1, hP, xs.length, fun i v => i < xs.length ∧ Pv i v, fun i v => ∃ w, ws[i]? = some w ∧ RelV w v, ?_, ?_, ws, hl, ⟨rfl, fun j v h => h⟩, hC⟩
    · intro Q q
      refine it Q fun o fp St hfp W st0 => q o fp St hfp (fun A' hA => ?_) st0
      have W' := W A' hA
      exact ⟨W'.sub, W'.frame, fun i s Q E hi st hQ => W'.item i s Q E hi st fun v h' tk hv st' hk => hQ v h' tk ⟨hi, hv⟩ st' hk, W'.done, W'.self⟩
    · intro code bi L A' E' i v s₂ m₂ hA ⟨hi, hv⟩ hn hm hk
      obtain ⟨y, hy, ry⟩ := hx i v hv hi
      obtain ⟨w, hw, hF⟩ := paired_get hpd hy
      refine wpAny_mono (hel pins σ H1 s1 I1 hP y w v code bi L A' E' s₂ m₂ ry hF hA hn hm hk) (fun z s3 ⟨r, kp⟩ => ⟨⟨w, hw, r⟩, kp⟩) fun _ _ e => e
  · subst en
    exact fin ws H1 g s5 F hC hg hready
def tAnyL (P : Addr) (ts : TSrc) (Ft : V → L2.St → Hp → V → Prop) : TE := fun σ H Q => ts σ H fun xs H1 => ∃ ws, Paired (fun y w => Ft y σ H1 w) xs ws ∧ ∃ bs : List Bool, ws = bs.map V.bl ∧ ∀ H2, Tabbed P H1 H2 → Q (.bl (bs.any id)) H2
theorem pe_anyL {cc : Addr} {elt : Expr} {x : Str} {px p pos gpos : Pos} {scope : Scope} {ts : TSrc} {Ft : V → L2.St → Hp → V → Prop} {k : Nat}
    (hr : Room k X.A) (hg : Gl X "any") (hm : X.mg "any" = none) (T : TabB X.base X.mg cc P) (hcode : X.env.code = .ref cc) (S : GenS0 X.env.scope scope x) (hi : PSrc X P iter ts) (hel : EltR X P scope x elt Ft) (hfold : ∀ v, genFold iter X.env v = pure v)
    (he : starEach [.GeneratorExp elt [⟨.Name x px, iter, [], 0⟩] scope gpos] X.env = (false, eval (.GeneratorExp elt [⟨.Name x px, iter, [], 0⟩] scope gpos) X.env) :: starEach [] X.env := by rfl) :
    PE X (.Call (.Name "any" p) [.GeneratorExp elt [⟨.Name x px, iter, [], 0⟩] scope gpos] [] pos) (tAnyL P ts Ft) := by
  refine ⟨fun pins s σ H Q I h => wpAny_Call_Name_kw (ld_blt I hg hm boot_any ?_)⟩
  refine PyProof.Rows.callWith_builtin1 ?_ he (by rfl)
  rw [he]
  show wpAny _ _ (spliced ((false, eval (.GeneratorExp elt [⟨.Name x px, iter, [], 0⟩] scope gpos) X.env) :: backTo pos (starEach [] X.env))) _ _ s
  refine Calls.spliced_cons (genR (C := fun ws H1 => ∃ bs : List Bool, ws = bs.map V.bl ∧ ∀ H2, Tabbed P H1 H2 → Q (.bl (bs.any id)) H2) hr T hcode S hfold hi hel I h ?_)
  rintro ws H1 g s5 F ⟨bs, rfl, hQ⟩ ⟨_, hF⟩ ⟨fp, wr, G, F', St, W, hst, hfp, hgm, hT, hFF, hI⟩
  refine Calls.spliced_nil (call_any_walkS ((W.in4_1).self 0 _ _ _ hst ⟨g, fp, wr, G, _, F', St, fun j => bs[j]?.getD false, rfl, W.in4_1, hst, ?_, fun s' moved => ?_⟩))
  · intro j v sj Qj Ej hv hQj
    obtain ⟨_, hF2⟩ := hFF j v hv
    obtain ⟨w, hw, rw'⟩ := hF j v hF2
    rw [List.getElem?_map] at hw
    cases e1 : bs[j]? with
    | none => rw [e1] at hw; cases hw
    | some b =>
      rw [e1] at hw
      cases hw
      obtain rfl : v = .bool b := rw'
      have hQj : Qj (bs[j]?.getD false) sj := hQj
      rw [e1] at hQj
      exact wpAny_truthy_bool hQj
  · obtain ⟨H2, hT2, J⟩ := hI s' moved
    have e : (List.range (bs.map V.bl).length).any (fun j => bs[j]?.getD false) = bs.any id := by
      rw [List.length_map, Bool.eq_iff_iff, List.any_eq_true, List.any_eq_true]
      constructor
      · rintro ⟨j, hj, e⟩
        have hj := List.mem_range.mp hj
        rw [List.getElem?_eq_getElem hj] at e
        exact ⟨_, List.getElem_mem hj, e⟩
      · rintro ⟨b, hb, e⟩
        obtain ⟨j, hj, ej⟩ := List.getElem_of_mem hb
        exact ⟨j, List.mem_range.mpr hj, by rw [List.getElem?_eq_getElem hj, ej]; exact e⟩
    exact ⟨.bl _, H2, J, rfl, by rw [e]; exact hQ H2 hT2⟩
def tTupL (P : Addr) (ts : TSrc) (Ft : V → L2.St → Hp → V → Prop) : TE := fun σ H Q => ts σ H fun xs H1 => ∃ ws, Paired (fun y w => Ft y σ H1 w) xs ws ∧ ws.length ≤ sizeLine ∧ ∀ H2 p, Tabbed P H1 H2 → H2 p = none → Q (.ref p) (upd H2 p (.tup ws))
theorem pe_tupL {cc : Addr} {elt : Expr} {x : Str} {px p pos gpos : Pos} {scope : Scope} {ts : TSrc} {Ft : V → L2.St → Hp → V → Prop} {k : Nat}
    (hr : Room k X.A) (hg : Gl X "tuple") (hm : X.mg "tuple" = none) (T : TabB X.base X.mg cc P) (hcode : X.env.code = .ref cc) (S : GenS0 X.env.scope scope x) (hi : PSrc X P iter ts) (hel : EltR X P scope x elt Ft) (hfold : ∀ v, genFold iter X.env v = pure v)
    (he : starEach [.GeneratorExp elt [⟨.Name x px, iter, [], 0⟩] scope gpos] X.env = (false, eval (.GeneratorExp elt [⟨.Name x px, iter, [], 0⟩] scope gpos) X.env) :: starEach [] X.env := by rfl) :
    PE X (.Call (.Name "tuple" p) [.GeneratorExp elt [⟨.Name x px, iter, [], 0⟩] scope gpos] [] pos) (tTupL P ts Ft) := by
  refine ⟨fun pins s σ H Q I h => wpAny_Call_Name_kw (ld_blt I hg hm boot_tuple ?_)⟩
  refine PyProof.Rows.callWith_type1 ?_ he (by rfl)
  rw [he]
  show wpAny _ _ (spliced ((false, eval (.GeneratorExp elt [⟨.Name x px, iter, [], 0⟩] scope gpos) X.env) :: backTo pos (starEach [] X.env))) _ _ s
  refine Calls.spliced_cons (genR (C := fun ws H1 => ws.length ≤ sizeLine ∧ ∀ H2 p, Tabbed P H1 H2 → H2 p = none → Q (.ref p) (upd H2 p (.tup ws))) hr T hcode S hfold hi hel I h ?_)
  rintro ws H1 g s5 F ⟨hz, hQ⟩ ⟨_, hF⟩ ⟨fp, wr, G, F', St, W, hst, hfp, hgm, hT, hFF, hI⟩
  refine Calls.spliced_nil (call_tuple_gen W.in4_3 hT hst hfp hgm (fun s' acc moved hacc => ?_) hz)
  obtain ⟨H2, hT2, J⟩ := hI s' moved
  have hn := J.hok.fresh (Nat.le_refl s'.heap.objs.size)
  refine ⟨.ref _, upd H2 s'.heap.objs.size (.tup ws), J.laid (t' := s'.toks) (fun b ob q => Heap.get?_push_of_some _ q) (Nat.le_refl _) ?_, rfl, hQ H2 _ hT2 hn⟩
  have hv : Vals ws acc.toList := by
    refine vals_of_at (hacc.1.symm.trans Array.length_toList.symm) fun j x u h1 h2 => ?_
    obtain ⟨_, hF2⟩ := hFF j u (hacc.2 j u (by rw [← Array.getElem?_toList]; exact h2))
    obtain ⟨w, hw, rw'⟩ := hF j u hF2
    rw [h1] at hw
    cases hw
    exact rw'
  refine ⟨hz, acc.toList, hv, ⟨_, Heap.get?_push_size _ rfl, rfl, 0, ?_⟩⟩
  rw [Array.toArray_toList]
end
end PHX
end
section
set_option maxHeartbeats 0
/-! elements of generator expressions -/
namespace PHX
open PySem PySem.Spec PyProof.Rows L2 GxR
section
variable {X : Cx} {pins : List (Addr × Obj)} {σ : L2.St} {H : Hp} {s : Shared} {P : Addr} {scope : Scope} {x y : Str}
/-- the target's name -/
theorem nm_loc {A' : Around} {E' : Value → Shared → Prop} {cl : List (Str × Addr)} {L bi : Addr} {code u : Value} {env : PySem.Env} {s₂ : Shared} {m₂ : Str → Option Value} {p : Pos} {Q : Value → Shared → Prop} (S : GenS env scope x) (hn : s₂.heap.Ns L m₂) (hm : m₂ x = some u) (hd : (x == ("__debug__" : Str)) = false) (h : Q u s₂) :
    wpAny (model X.prog X.w) A' (eval (.Name x p) (genEnv scope cl L code bi env)) Q E' s₂ :=
  wpAny_Name (wpAny_loadName_local (env := genEnv scope cl L code bi env) S.kind S.loc hn hm h) hd
/-- a captured name's cell -/
theorem cap {i : Nat} {v : V} (I : Inv X pins σ H s) (hP : TabG H P) (S : GenS X.env scope x) (hN : X.N[i]? = some y) (hσ : σ[i]? = some (some v)) (hk : X.env.scope.names.lookup y = some .cell ∨ X.env.scope.names.lookup y = some .free) (hf : (y, NameKind.free) ∈ scope.names) :
    ∃ c u, (cloFrom X.env.cells scope.names []).lookup y = some c ∧ c ≠ P ∧ s.heap.IsCell c (some u) ∧ RelV v u := by
  obtain ⟨m, hn, hl⟩ := I.loc
  obtain ⟨u, r, l⟩ := hl i y v hN hσ (.inr hk)
  obtain ⟨ps, hP, _⟩ := hP
  have atP : s.heap.get? P = some { cls := .none, data := .fields ps } := I.hok P _ hP
  rcases l with ⟨h1, _⟩ | ⟨_, c, hc, hcell⟩
  · have h1 : X.env.scope.names.lookup y = some .local := h1
    rcases hk with hk | hk
    · rw [hk] at h1; cases h1
    · rw [hk] at h1; cases h1
  · refine ⟨c, u, NdefX.clo_has S.free hf hc, fun z => ?_, hcell, r⟩
    obtain ⟨o, e, hd⟩ := hcell
    rw [z, atP] at e
    cases e
    cases hd
theorem nm_free {A' : Around} {E' : Value → Shared → Prop} {cl : List (Str × Addr)} {c L bi : Addr} {code u : Value} {env : PySem.Env} {s₂ : Shared} {p : Pos} {Q : Value → Shared → Prop} (S : GenS env scope x) (hl : scope.names.lookup y = some .free) (hc : cl.lookup y = some c) (hv : s₂.heap.IsCell c (some u)) (hd : (y == ("__debug__" : Str)) = false) (hcd : (y == ("__classdict__" : Str)) = false) (h : Q u s₂) :
    wpAny (model X.prog X.w) A' (eval (.Name y p) (genEnv scope cl L code bi env)) Q E' s₂ :=
  wpAny_Name (wpAny_loadName_free (env := genEnv scope cl L code bi env) S.kind hl hc hv h hcd) hd
theorem tup_at (I : Inv X pins σ H s) (hP : TabG H P) {t : Addr} {xs : List V} {s₂ : Shared} (h : SqT X.K H t xs) (k : ∀ b o, b ≠ P → s.heap.get? b = some o → s₂.heap.get? b = some o) : ∃ its, Vals xs its ∧ IsTup s₂.heap t its.toArray ∧ xs.length ≤ sizeLine := by
  obtain ⟨ps, hP, _⟩ := hP
  have atP : s.heap.get? P = some { cls := .none, data := .fields ps } := I.hok P _ hP
  obtain ⟨its, rv, ⟨o, e, hc, n, hd⟩, hz⟩ := I.tuple h
  refine ⟨its, rv, ⟨o, k t o (fun z => ?_) e, hc, n, hd⟩, hz⟩
  rw [z, atP] at e
  cases e
  cases hd
theorem lst_at (I : Inv X pins σ H s) (hP : TabG H P) {t : Addr} {xs : List V} {s₂ : Shared} (h : SqL X.K H t xs) (k : ∀ b o, b ≠ P → s.heap.get? b = some o → s₂.heap.get? b = some o) : ∃ its, Vals xs its ∧ s₂.heap.IsList t its.toArray ∧ xs.length ≤ sizeLine := by
  obtain ⟨ps, hP, _⟩ := hP
  have atP : s.heap.get? P = some { cls := .none, data := .fields ps } := I.hok P _ hP
  obtain ⟨its, rv, hl, hz⟩ := I.list h
  obtain ⟨o, e, r⟩ := hl.isList
  refine ⟨its, rv, ⟨o, k t o (fun z => ?_) e, r⟩, hz⟩
  obtain ⟨hc, n, hd⟩ := r
  rw [z, atP] at e
  cases e
  cases hd
/-- x in y, y captured -/
def ftIn (K : PySem.W.Frag) (i : Nat) : V → L2.St → Hp → V → Prop := fun z σ H w => ∃ p xs, σ[i]? = some (some (.ref p)) ∧ (SqL K H p xs ∨ SqT K H p xs) ∧ flatV z = true ∧ xs.all flatV = true ∧ w = .bl (inV z xs)
theorem elt_in {i : Nat} {p1 p2 p3 : Pos} (S : GenS0 X.env.scope scope x) (hN : X.N[i]? = some y) (hk : X.env.scope.names.lookup y = some .cell ∨ X.env.scope.names.lookup y = some .free) (hf : (y, NameKind.free) ∈ scope.names) (hl : scope.names.lookup y = some .free)
    (hd : (x == ("__debug__" : Str)) = false := by decide) (hd2 : (y == ("__debug__" : Str)) = false := by decide) (hcd : (y == ("__classdict__" : Str)) = false := by decide) :
    EltR X P scope x (.Compare (.Name x p1) [.In] [.Name y p2] p3) (ftIn X.K i) := by
  rintro pins σ H1 s1 I hP z w u code bi L A' E' s₂ m₂ ru ⟨p, xs, hσ, hq, fz, fs, rfl⟩ hA hn hm hk2
  have S := S.to I.ok
  obtain ⟨c, v, hc, hcP, ⟨o, e, hcell⟩, rv⟩ := cap I hP S hN hσ hk hf
  obtain rfl : v = Value.ref p := rv
  refine wpAny_Compare1 (nm_loc S hn hm hd (nm_free S hl hc ⟨o, hk2 c o hcP e, hcell⟩ hd2 hcd ?_)) (by rfl)
  rcases hq with hq | hq
  · obtain ⟨its, r, pl, hz⟩ := lst_at I hP hq hk2
    refine SeqAt.in_listAt (eqU z) pl (fun w hw => mem_eqAt ru fz r fs w (by simpa using hw)) ⟨?_, keeps_refl _⟩
    rw [show its.toArray.any (eqU z) = its.any (eqU z) by simp, any_eqU r fs]
    exact rfl
  · obtain ⟨its, r, pl, hz⟩ := tup_at I hP hq hk2
    refine SeqAt.in_tupleAt (eqU z) pl (fun w hw => mem_eqAt ru fz r fs w (by simpa using hw)) ⟨?_, keeps_refl _⟩
    rw [show its.toArray.any (eqU z) = its.any (eqU z) by simp, any_eqU r fs]
    exact rfl
/-- x[-1] of a tuple -/
def ftLast (K : PySem.W.Frag) : V → L2.St → Hp → V → Prop := fun z _ H w => ∃ t xs, z = .ref t ∧ SqT K H t xs ∧ atI xs (-1) = some w
theorem elt_last {k : Nat} {p1 p2 p3 p4 : Pos} (S : GenS0 X.env.scope scope x) (hd : (x == ("__debug__" : Str)) = false := by decide) : EltR X P scope x (.Subscript (.Name x p1) (.UnaryOp .USub (.Constant (.int 1) k p2) p3) p4) (ftLast X.K) := by
  rintro pins σ H1 s1 I hP z w u code bi L A' E' s₂ m₂ ru ⟨t, xs, rfl, hq, hw⟩ hA hn hm hk2
  have S := S.to I.ok
  obtain rfl : u = Value.ref t := ru
  obtain ⟨its, r, pl, hz⟩ := tup_at I hP hq hk2
  obtain ⟨j, h1, h2, h3, h4, h5⟩ := atI_get hw
  obtain ⟨v, ev, rv⟩ := r.get h2
  have hl := r.length
  have hn63 := line63
  refine Subscript_ (nm_loc S hn hm hd (UnaryOp_ (wpAny_Constant_int (neg_int ?_))))
  have pl2 : IsTup ({ s₂ with toks := s₂.toks + 1 + 1 } : Shared).heap t its.toArray := pl
  exact subscriptTail_builtinR (x := v) pl2.typeIs slot_tuple_getitem.lookup
    (getItem_tuple (j := j) (Q := fun r s' => r = v ∧ (RelV w r ∧ Keeps s₂ s')) pl2 (by omega) (by omega) (by rw [List.size_toArray, ← hl]; exact h1) (by simpa using ev) ⟨rfl, rv, s₂.heap, s₂.toks + 1 + 1, rfl, fun _ _ e => e⟩) (by with_unfolding_all rfl)
end
end PHX
end
section
set_option maxHeartbeats 0
namespace PHX
open PySem PySem.Spec PyProof.Rows L2 GxR
section
variable {X : Cx} {pins : List (Addr × Obj)} {σ : L2.St} {H : Hp} {s : Shared} {P : Addr} {scope : Scope} {x y : Str}
def cutS (ys : List Str) (n : Int) : List Str := (ys.drop (HT.sIx ys.length 0 none)).take (HT.sIx ys.length ys.length (some n) - HT.sIx ys.length 0 none)
/-- sep.join(y[:x]), y captured -/
def ftJoin (K : PySem.W.Frag) (sep : Str) (i : Nat) : V → L2.St → Hp → V → Prop := fun z σ H w => ∃ n p ys, z = .int n ∧ σ[i]? = some (some (.ref p)) ∧ SqL K H p (ys.map V.str) ∧ ((cutS ys n).map (·.length)).sum + (cutS ys n).length * sep.length ≤ 16777216 ∧ w = .str (Txt.join sep (cutS ys n))
theorem elt_join {i k : Nat} {sep : Str} {p1 p2 p3 p4 p5 apos cpos : Pos} (S : GenS0 X.env.scope scope x) (hN : X.N[i]? = some y) (hk : X.env.scope.names.lookup y = some .cell ∨ X.env.scope.names.lookup y = some .free) (hf : (y, NameKind.free) ∈ scope.names) (hl : scope.names.lookup y = some .free)
    (hline : (apos.endLine == cpos.line) = true := by rfl)
    (hd : (x == ("__debug__" : Str)) = false := by decide) (hd2 : (y == ("__debug__" : Str)) = false := by decide) (hcd : (y == ("__classdict__" : Str)) = false := by decide) :
    EltR X P scope x (.Call (.Attribute (.Constant (.str sep) k p1) "join" apos) [.Subscript (.Name y p2) (.Slice none (some (.Name x p3)) none p4) p5] [] cpos) (ftJoin X.K sep i) := by
  rintro pins σ H1 s1 I hP z w u code bi L A' E' s₂ m₂ ru ⟨n, p, ys, rfl, hσ, hq, hz2, rfl⟩ hA hn hm hk2
  have S := S.to I.ok
  obtain ⟨c, v, hc, hcP, ⟨o, e, hcell⟩, rv⟩ := cap I hP S hN hσ hk hf
  obtain rfl : v = Value.ref p := rv
  obtain ⟨t, rfl⟩ := (show ∃ t, u = Value.int n t from ru)
  obtain ⟨its, r, pl, hz⟩ := lst_at I hP hq hk2
  refine PySem.Call_method1 (by rfl) (by rfl) hline (Calls.Constant_str ?_)
  refine ⟨"str", _, F.plainAttrs_str, F.slot_str_join, F.type_str_join, typeIs_str _ _ _, (fun _ e => nomatch e), Calls.callWith_builtin rfl (Calls.evalArgs_plain (Calls.spliced_cons ?_))⟩
  have hns : ∀ k, ({ s₂ with toks := k } : Shared).heap.Ns L m₂ := fun _ => hn
  refine Subscript_ (nm_free S hl hc ⟨o, hk2 c o hcP e, hcell⟩ hd2 hcd ?_)
  refine wpAny_Slice ?_
  rw [evalPart_none, evalPart_some]
  refine wpAny_pure (nm_loc S (hns _) hm hd ?_)
  refine wpAny_pure ?_
  have pl3 : (s₂.heap.push { cls := .type "slice", data := .fields #[Value.none, Value.int n t, Value.none] }).IsList p its.toArray := by
    obtain ⟨ol, el, rl⟩ := pl
    exact ⟨ol, Heap.get?_push_of_some _ el, rl⟩
  have hlen : ys.length = its.length := by
    have := r.length
    rw [List.length_map] at this
    exact this
  show wpAny (model X.prog X.w) A' (subscriptTail (.Name y p2) (.Slice none (some (.Name x p3)) none p4) (.ref p) (.ref s₂.heap.objs.size)) _ E' { s₂ with heap := s₂.heap.push { cls := .type "slice", data := .fields #[Value.none, Value.int n t, Value.none] }, toks := s₂.toks + 1 }
  refine tail_any (ops := [.ref s₂.heap.objs.size, .ref p]) pl3.typeIs (slot_list_getitem.lookup) ?_ (by with_unfolding_all rfl)
  refine wpAny_getItem_list_slice (lo := none) (hi := some n) (st := none) pl3 (Heap.IsSliceOf.new s₂.heap Value.none (Value.int n t) Value.none) .none (.int n t) .none (by simp) ?_ (by rw [List.size_toArray, ← hlen]; rw [List.length_map] at hz; exact hz)
  rw [slicePick_cut, ← hlen]
  refine Calls.spliced_nil ?_
  have hst : StrsAre (((its.drop (HT.sIx ys.length 0 none)).take (HT.sIx ys.length ys.length (some n) - HT.sIx ys.length 0 none)).toArray).toList (cutS ys n) := by
    rw [List.toList_toArray]
    refine strs_of_vals ?_
    unfold cutS
    rw [List.map_take, List.map_drop]
    exact (r.drop _).take _
  refine PyProof.Rows.join_list (items := ((its.drop (HT.sIx ys.length 0 none)).take (HT.sIx ys.length ys.length (some n) - HT.sIx ys.length 0 none)).toArray) ⟨_, Heap.get?_push_size _ rfl, rfl, 0, rfl⟩ hst hz2 fun t' k => ⟨⟨t', rfl⟩, _, k, rfl, fun b ob q => Heap.get?_push_of_some _ (Heap.get?_push_of_some _ q)⟩
end
end PHX
end
section
set_option maxHeartbeats 0
/-! generator expressions, mirrored -/
namespace PH
open PySem PySem.Spec PyProof.Rows L2 PHX
section
variable {c : Cc} {P : Addr}
theorem tabG_of (hs : TBok c.tb H) (hP : P ∈ c.tb.GT) : GxR.TabG H P := hs.2 P hP
theorem nw_tabbed {W H H2 : Hp} (x : Kn W H) (nt : NoT W) (tb : TBok c.tb H) (hP : P ∈ c.tb.GT) (hL : ∀ q ∈ c.tb.LT, q.1 ≠ P) (h : GxR.Tabbed P H H2) : Nw c.tb W H W H2 := by
  obtain ⟨ps, hp, ht⟩ := tb.2 P hP
  obtain ⟨⟨ps2, hp2, ht2⟩, same⟩ := h
  have k : ∀ b o, NTbl o → H b = some o → H2 b = some o := fun b o no e => by
    have : b ≠ P := fun z => by rw [z, hp] at e; cases e; exact no _ rfl
    rw [same b this]; exact e
  refine ⟨Ex.refl _, fun a o e => ?_, nt, fun _ _ h => h, fun a o e no => k a o no e, fun a h => ?_, ⟨fun q hq => ?_, fun P' hP' => ?_⟩⟩
  · rcases x a o e with z | ⟨od, kv, z1, z2⟩
    · exact .inl (k a o (nt a o e).nt z)
    · exact .inr ⟨od, kv, z1, k a _ (fun _ z => nomatch z) z2⟩
  · by_cases ha : a = P
    · rw [ha, hp2]; exact fun z => nomatch z
    · rw [same a ha]; exact h
  · obtain ⟨ps3, h1, h2, h3⟩ := tb.1 q hq
    refine ⟨ps3, by rw [same _ (hL q hq)]; exact h1, h2, fun pos cv hc => ?_⟩
    obtain ⟨c', e1, e2⟩ := h3 pos cv hc
    exact ⟨c', e1, k _ _ (fun _ z => nomatch z) e2⟩
  · by_cases ha : P' = P
    · rw [ha]; exact ⟨ps2, hp2, ht2⟩
    · obtain ⟨ps3, h1, h2⟩ := tb.2 P' hP'
      exact ⟨ps3, by rw [same _ ha]; exact h1, h2⟩
/-! what is walked -/
def dItems : D → Option (List D)
  | .tup ds => some ds
  | .lst ds => some ds
  | _ => none
def mSeqS (m : MM D) : MM (List D) := bnd m fun d => lftK fun κ => dItems (see1 κ d)
theorem sx_seqS {te : TE} {m : MM D} (hP : P ∈ c.tb.GT) (h : SE c te m) : Sx c (Reps c.K) (tSeqS c.K P te) (mSeqS m) := by
  intro ρ rr e s σ hs Q q
  refine sx_go (t := te) h e hs q fun x d ρ s e hs rx q tr => ?_
  obtain ⟨ds, e1, rfl⟩ := lftK_cases e
  have rx := see1_rep hs.cr rx
  generalize see1 ρ.c d = a at rx e1
  cases a <;> try (cases e1; done)
  · cases e1
    cases rx with
    | @tup p xs ds h1 h2 => exact ⟨p, xs, rfl, .inr (hs.cr.ex.st h1), hs.cr.tb.2 P hP, q xs s hs .refl h2⟩
  · cases e1
    cases rx with
    | @lst p xs ds h1 h2 => exact ⟨p, xs, rfl, .inl (sqL_pl h1), hs.cr.tb.2 P hP, q xs s hs .refl h2⟩
def mRngS (ma mb : MM D) : MM (List D) := bnd ma fun a => bnd mb fun b => lft (rg2 [a, b])
theorem sx_rngS {ta tb : TE} {ma mb : MM D} (hP : P ∈ c.tb.GT) (ha : SE c ta ma) (hb : SE c tb mb) : Sx c (Reps c.K) (tRngS P (tRg2 ta tb)) (mRngS ma mb) := by
  intro ρ rr e s σ hs Q q
  refine sx_go (t := ta) ha e hs q fun x a ρ s e hs rx q tr => ?_
  refine sx_go (t := tb) hb e hs q fun y b ρ s e hs ry q tr2 => ?_
  obtain ⟨ds, e1, rfl⟩ := lft_cases e
  unfold rg2 at e1
  split at e1
  · rename_i i j heq
    cases heq
    split at e1
    · rename_i hj
      cases e1
      cases rx
      cases ry
      refine ⟨i, j, rfl, rfl, ⟨(rgOk_of hj.1).1, (rgOk_of hj.1).2, (rgOk_of hj.2).1, (rgOk_of hj.2).2⟩, hs.cr.tb.2 P hP, q _ s hs .refl ?_⟩
      have key : ∀ l : List Nat, Reps c.K s.g (l.map fun (k : Nat) => V.int (i + (k : Nat))) (l.map fun (k : Nat) => D.int (i + (k : Nat))) := fun l => by
        induction l with
        | nil => exact .nil
        | cons k l ih => exact .cons (.int _) ih
      exact key _
    · cases e1
  · cases e1
/-! the elements -/
def SElt (c : Cc) (Ft : V → L2.St → Hp → V → Prop) (f : St → D → Option D) : Prop := ∀ ρ s σ y d d', SR c ρ s σ → Rep c.K s.g y d → f ρ d = some d' → ∃ w, Ft y σ s.H w ∧ Rep c.K s.g w d'
def mapD (f : D → Option D) : List D → Option (List D)
  | [] => some []
  | d :: ds => (f d).bind fun x => (mapD f ds).map fun r => x :: r
theorem mapD_reps {Ft : V → L2.St → Hp → V → Prop} {f : St → D → Option D} {ρ : St} {s : Ws} {σ : L2.St} (h : SElt c Ft f) (hs : SR c ρ s σ) : ∀ {xs : List V} {ds es : List D}, Reps c.K s.g xs ds → mapD (f ρ) ds = some es → ∃ ws, Paired (fun y w => Ft y σ s.H w) xs ws ∧ Reps c.K s.g ws es
  | _, _, _, .nil, e => by cases e; exact ⟨[], .nil, .nil⟩
  | _, _, _, .cons (d := d) r t, e => by
    unfold mapD at e
    cases e1 : f ρ d with
    | none => rw [e1] at e; cases e
    | some x =>
      rw [e1] at e
      obtain ⟨l, e2, rfl⟩ := Option.map_eq_some_iff.mp e
      obtain ⟨w, hw, rw'⟩ := h ρ s σ _ _ _ hs r e1
      obtain ⟨ws, h1, h2⟩ := mapD_reps h hs t e2
      exact ⟨w :: ws, .cons hw h1, .cons rw' h2⟩
def boolsD : List D → Option (List Bool)
  | [] => some []
  | .bl b :: ds => (boolsD ds).map (b :: ·)
  | _ => none
theorem bools_reps {K : PySem.W.Frag} {g : Gh} : ∀ {vs : List V} {ds : List D} {bs : List Bool}, Reps K g vs ds → boolsD ds = some bs → vs = bs.map V.bl
  | _, _, _, .nil, e => by cases e; rfl
  | _, _, ns, .cons (d := d) r1 r2, e => by
    cases d <;> try (cases e; done)
    obtain ⟨ms, e1, rfl⟩ := Option.map_eq_some_iff.mp e
    cases r1
    rw [List.map_cons, bools_reps r2 e1]
def mAnyL (m : MM (List D)) (f : St → D → Option D) : MM D := bnd m fun ds ρ => match (mapD (f ρ) ds).bind boolsD with
  | some bs => some (.ok (.bl (bs.any id)) ρ)
  | none => none
theorem se_anyL {ts : TSrc} {Ft : V → L2.St → Hp → V → Prop} {m : MM (List D)} {f : St → D → Option D} (hP : P ∈ c.tb.GT) (hL : ∀ q ∈ c.tb.LT, q.1 ≠ P) (h : Sx c (Reps c.K) ts m) (hf : SElt c Ft f) : SE c (tAnyL P ts Ft) (mAnyL m f) := by
  intro ρ rr e s σ hs Q q
  refine sx_go (t := ts) h e hs q fun xs ds ρ s e hs rx q tr => ?_
  cases e1 : mapD (f ρ) ds with
  | none => rw [e1] at e; cases e
  | some es =>
    rw [e1] at e
    have e : (match boolsD es with
      | some bs => some (Res.ok (.bl (bs.any id)) ρ)
      | none => none) = some rr := e
    split at e
    · rename_i bs e2
      cases e
      obtain ⟨ws, h1, h2⟩ := mapD_reps hf hs rx e1
      refine ⟨ws, h1, bs, bools_reps h2 e2, fun H2 ht => ?_⟩
      exact post_nw hs q _ _ _ (nw_tabbed hs.cr.ex hs.cr.nt hs.cr.tb hP hL ht) (.bl _)
    · cases e
def mTupL (m : MM (List D)) (f : St → D → Option D) : MM D := bnd m fun ds ρ => match mapD (f ρ) ds with
  | some es => if es.length ≤ cap then some (.ok (.tup es) ρ) else none
  | none => none
theorem se_tupL {ts : TSrc} {Ft : V → L2.St → Hp → V → Prop} {m : MM (List D)} {f : St → D → Option D} (hP : P ∈ c.tb.GT) (hL : ∀ q ∈ c.tb.LT, q.1 ≠ P) (h : Sx c (Reps c.K) ts m) (hf : SElt c Ft f) : SE c (tTupL P ts Ft) (mTupL m f) := by
  intro ρ rr e s σ hs Q q
  refine sx_go (t := ts) h e hs q fun xs ds ρ s e hs rx q tr => ?_
  have e : (match mapD (f ρ) ds with
    | some es => if es.length ≤ cap then some (Res.ok (.tup es) ρ) else none
    | none => none) = some rr := e
  split at e
  · rename_i es e1
    split at e
    · rename_i hl
      cases e
      obtain ⟨ws, h1, h2⟩ := mapD_reps hf hs rx e1
      refine ⟨ws, h1, cap_le (by rw [h2.length]; exact hl), fun H2 p ht hp => ?_⟩
      have n1 := nw_tabbed hs.cr.ex hs.cr.nt hs.cr.tb hP hL ht
      have n2 := Nw.new (p := p) (o := .tup ws) n1.x n1.nt n1.t hp trivial
      have n := n1.trans n2
      exact post_nw hs q _ _ _ n (.tup (.inl (.inl upd_same)) (h2.mono n.le))
    · cases e
  · cases e
/-! the three elements -/
def fLast (ρ : St) : D → Option D
  | .tup ds => atI ds (-1)
  | _ => none
theorem selt_last : SElt c (ftLast c.K) fLast := by
  intro ρ s σ y d d' hs r e
  cases d <;> try (cases e; done)
  cases r with
  | @tup t vs ds h1 h2 =>
    obtain ⟨v, e1, e2⟩ := atI_reps h2 e
    exact ⟨v, ⟨t, vs, rfl, hs.cr.ex.st h1, e1⟩, e2⟩
def slotD (ρ : St) (i : Nat) : Option D := match ρ.e[i]? with
  | some (.dat d) => some d
  | _ => none
theorem slotD_rep {ρ : St} {s : Ws} {σ : L2.St} {i : Nat} {d : D} (hs : SR c ρ s σ) (e : slotD ρ i = some d) : ∃ v, σ[i]? = some (some v) ∧ Rep c.K s.g v d := by
  unfold slotD at e
  split at e
  · rename_i d' e1
    cases e
    exact hs.loc i _ e1
  · cases e
def fJoin (sep : Str) (i : Nat) (ρ : St) : D → Option D
  | .int n => (slotD ρ i).bind fun a => match see1 ρ.c a with
    | .lst ds => (strsD ds).bind fun ys => if ((cutS ys n).map (·.length)).sum + (cutS ys n).length * sep.length ≤ cap then some (.str (Txt.join sep (cutS ys n))) else none
    | _ => none
  | _ => none
theorem selt_join {sep : Str} {i : Nat} : SElt c (ftJoin c.K sep i) (fJoin sep i) := by
  intro ρ s σ y d d' hs r e
  cases d <;> try (cases e; done)
  rename_i n
  unfold fJoin at e
  cases e1 : slotD ρ i with
  | none => rw [e1] at e; cases e
  | some a =>
    rw [e1] at e
    have e : (match see1 ρ.c a with
      | .lst ds => (strsD ds).bind fun ys => if ((cutS ys n).map (·.length)).sum + (cutS ys n).length * sep.length ≤ cap then some (D.str (Txt.join sep (cutS ys n))) else none
      | _ => none) = some d' := e
    obtain ⟨v, hv, rv⟩ := slotD_rep hs e1
    have rv := see1_rep hs.cr rv
    split at e
    · rename_i ds e2
      rw [e2] at rv
      cases e3 : strsD ds with
      | none => rw [e3] at e; cases e
      | some ys =>
        rw [e3] at e
        have e : (if ((cutS ys n).map (·.length)).sum + (cutS ys n).length * sep.length ≤ cap then some (D.str (Txt.join sep (cutS ys n))) else none) = some d' := e
        split at e
        · rename_i hl
          cases e
          cases r
          cases rv with
          | @lst p vs ds h1 h2 =>
            have := strs_reps h2 e3
            subst this
            exact ⟨_, ⟨n, p, ys, rfl, hv, sqL_pl h1, Nat.le_trans hl (by decide), rfl⟩, .str _⟩
        · cases e
    · cases e
theorem inV_str (z : Str) : ∀ ys : List Str, inV (.str z) (ys.map V.str) = decide (z ∈ ys)
  | [] => rfl
  | y :: ys => by
    have ih := inV_str z ys
    unfold inV at ih ⊢
    rw [List.map_cons, List.any_cons, ih]
    show ((y == z) || decide (z ∈ ys)) = decide (z ∈ y :: ys)
    rw [Bool.eq_iff_iff, Bool.or_eq_true, beq_iff_eq, decide_eq_true_iff, decide_eq_true_iff, List.mem_cons]
    exact ⟨fun h => h.imp Eq.symm id, fun h => h.imp Eq.symm id⟩
theorem flat_strs : ∀ ys : List Str, (ys.map V.str).all flatV = true
  | [] => rfl
  | _ :: ys => by rw [List.map_cons, List.all_cons, flat_strs ys]; rfl
def fIn (i : Nat) (ρ : St) : D → Option D
  | .str z => (slotD ρ i).bind fun a => (dItems (see1 ρ.c a)).bind fun ds => (strsD ds).map fun ys => .bl (decide (z ∈ ys))
  | _ => none
theorem selt_in {i : Nat} : SElt c (ftIn c.K i) (fIn i) := by
  intro ρ s σ y d d' hs r e
  cases d <;> try (cases e; done)
  rename_i z
  unfold fIn at e
  cases e1 : slotD ρ i with
  | none => rw [e1] at e; cases e
  | some a =>
    rw [e1] at e
    have e : ((dItems (see1 ρ.c a)).bind fun ds => (strsD ds).map fun ys => D.bl (decide (z ∈ ys))) = some d' := e
    obtain ⟨v, hv, rv⟩ := slotD_rep hs e1
    have rv := see1_rep hs.cr rv
    generalize see1 ρ.c a = b at e rv
    cases e2 : dItems b with
    | none => rw [e2] at e; cases e
    | some ds =>
      rw [e2] at e
      obtain ⟨ys, e3, rfl⟩ := Option.map_eq_some_iff.mp e
      cases r
      have fin : ∀ p xs, v = .ref p → (SqL c.K s.H p xs ∨ SqT c.K s.H p xs) → Reps c.K s.g xs ds → ∃ w, ftIn c.K i (.str z) σ s.H w ∧ Rep c.K s.g w (.bl (decide (z ∈ ys))) := fun p xs ev hq rr => by
        subst ev
        have := strs_reps rr e3
        subst this
        exact ⟨_, ⟨p, _, hv, hq, rfl, flat_strs ys, by rw [inV_str]⟩, .bl _⟩
      cases b <;> try (cases e2; done)
      · cases e2
        cases rv with
        | @tup p xs ds h1 h2 => exact fin p xs rfl (.inr (hs.cr.ex.st h1)) h2
      · cases e2
        cases rv with
        | @lst p xs ds h1 h2 => exact fin p xs rfl (.inl (sqL_pl h1)) h2
end
end PH
end
section
set_option maxHeartbeats 0
/-! PHZ: what is left of the value operations -/
namespace PH
open PySem PySem.Spec PyProof.Rows L2
section
variable {c : Cc}
def dPow : D → D → Option D := dInt2 (fun i j => decide (0 ≤ j) && decide (j ≤ 1000000) && decide (i.natAbs < 2 ^ 64)) fun i j => .int (i ^ j.toNat)
theorem rop_pow : ROp c (rI CPow fun i j => .int (i ^ j.toNat)) dPow := rop_I (fun i j h => by
  rw [Bool.and_eq_true, Bool.and_eq_true] at h
  exact ⟨of_decide_eq_true h.1.1, of_decide_eq_true h.1.2, of_decide_eq_true h.2⟩) fun _ _ _ => .int _
theorem st_yes : ST c tYes (ret true) := by
  intro ρ r e s σ hs Q q
  cases e
  exact q true s hs .refl rfl
theorem st_isN {t : TE} {m : MM D} (h : SE c t m) : ST c (tB (tIsN t)) (bnd (mUn dIsN m) fun d => lft (asB d)) := st_val (se_isN h)
/-! x in xs, flat things -/
def flatD : D → Bool
  | .non => true
  | .bl _ => true
  | .int _ => true
  | .str _ => true
  | _ => false
def toV : D → V
  | .bl b => .bl b
  | .int i => .int i
  | .str z => .str z
  | _ => .non
theorem flat_rep {K : PySem.W.Frag} {g : Gh} {H : Hp} {v : V} {d : D} (r : RepH K g H v d) (f : flatD d = true) : v = toV d ∧ flatV v = true := by
  cases r <;> first | exact ⟨rfl, rfl⟩ | cases f
theorem flats_rep {K : PySem.W.Frag} {g : Gh} : ∀ {vs : List V} {ds : List D}, Reps K g vs ds → ds.all flatD = true → vs = ds.map toV ∧ vs.all flatV = true
  | _, _, .nil, _ => ⟨rfl, rfl⟩
  | _, _, .cons r t, f => by
    rw [List.all_cons, Bool.and_eq_true] at f
    obtain ⟨h1, h2⟩ := flats_rep t f.2
    have : ∀ {v : V} {d : D}, Rep K g v d → flatD d = true → v = toV d ∧ flatV v = true := fun r f => by
      cases r <;> first | exact ⟨rfl, rfl⟩ | cases f
    obtain ⟨k1, k2⟩ := this r f.1
    refine ⟨by rw [List.map_cons, ← k1, ← h1], by rw [List.all_cons, k2, h2]; rfl⟩
def inD (neg : Bool) (a b : D) : Option D := (dItems b).bind fun ds => if flatD a = true ∧ ds.all flatD = true then some (.bl (if neg then !inV (toV a) (ds.map toV) else inV (toV a) (ds.map toV))) else none
theorem rop_inG (neg : Bool) : ROp c (rIn c.K neg) (inD neg) := by
  intro κ s x y a b d w rx ry e Q q
  unfold inD at e
  cases e1 : dItems b with
  | none => rw [e1] at e; cases e
  | some ds =>
    rw [e1] at e
    have e : (if flatD a = true ∧ ds.all flatD = true then some (D.bl (if neg then !inV (toV a) (ds.map toV) else inV (toV a) (ds.map toV))) else none) = some d := e
    split at e
    · rename_i hf
      cases e
      obtain ⟨ex, fx⟩ := flat_rep rx hf.1
      have fin : ∀ p vs, y = .ref p → (SqL c.K s.H p vs ∨ SqT c.K s.H p vs) → Reps c.K s.g vs ds → rIn c.K neg x y s.H Q := fun p vs ey hq rr => by
        obtain ⟨h1, h2⟩ := flats_rep rr hf.2
        refine ⟨p, vs, ey, hq, fx, h2, ?_⟩
        rw [ex, h1]
        exact q _ s.W s.H w.nref (.bl _)
      cases b <;> try (cases e1; done)
      · cases e1
        cases ry with
        | @tup p xs ds h1 h2 => exact fin p xs rfl (.inr (w.ex.st h1)) h2
      · cases e1
        cases ry with
        | @lst p xs ds h1 h2 => exact fin p xs rfl (.inl (sqL_pl h1)) h2
    · cases e
theorem rop_in : ROp c (rIn c.K false) (inD false) := rop_inG false
theorem rop_nin : ROp c (rIn c.K true) (inD true) := rop_inG true
/-! methods of texts, one argument -/
def rSplit1 : V → List V → Hp → VK → Prop := fun x xs H Q => ∃ a b, x = .str a ∧ xs = [.str b] ∧ (b.length == 0) = false ∧ a.length + 2 ≤ sizeLine ∧ rNewStrs (Txt.split a b) H Q
def rJoin1 (K : PySem.W.Frag) : V → List V → Hp → VK → Prop := fun x xs H Q => ∃ a p, ∃ ys : List Str, x = .str a ∧ xs = [.ref p] ∧ (SqL K H p (ys.map V.str) ∨ SqT K H p (ys.map V.str)) ∧
    (ys.map (·.length)).sum + ys.length * a.length ≤ 16777216 ∧ Q (.str (Txt.join a ys)) H
def mStr1 (op : Str → D → Option D) (mo me : MM D) : MM D := bnd mo fun o => match o with
  | .str a => bnd me fun d => lftK fun κ => op a (see1 κ d)
  | _ => fun _ => none
theorem se_str1 {r : V → List V → Hp → VK → Prop} {op : Str → D → Option D} {to te : TE} {mo me : MM D} (ho : ∀ κ s a y b d, CS c κ s → RepH c.K s.g s.H y b → op a b = some d → RX c (Rep c.K) (r (.str a) [y]) s d) (h : SE c to mo) (k : SE c te me) : SE c (tM1 r to te) (mStr1 op mo me) := by
  intro ρ rr e s σ hs Q q
  refine sx_go (t := to) h e hs q fun x d ρ s e hs rx q tr => ?_
  cases d <;> try (cases e; done)
  rename_i a
  cases rx
  refine ⟨⟨a, rfl⟩, ?_⟩
  refine sx_go (t := te) k e hs q fun y b ρ s e hs ry q tr => ?_
  obtain ⟨d', e3, rfl⟩ := lftK_cases e
  exact ho _ _ a y _ _ hs.cr (see1_rep hs.cr ry) e3 _ (post_nw hs q)
def dSplit (a : Str) : D → Option D
  | .str b => if (b.length == 0) = false ∧ a.length + 2 ≤ cap then some (.lst ((Txt.split a b).map .str)) else none
  | _ => none
theorem se_split {to te : TE} {mo me : MM D} (h : SE c to mo) (k : SE c te me) : SE c (tM1 rSplit1 to te) (mStr1 dSplit mo me) := se_str1 (fun κ s a y b d w ry e Q q => by
  cases b <;> try (cases e; done)
  rename_i b
  have e : (if (b.length == 0) = false ∧ a.length + 2 ≤ cap then some (D.lst ((Txt.split a b).map .str)) else none) = some d := e
  split at e
  · rename_i hl
    cases e
    cases ry
    exact ⟨a, b, rfl, rfl, hl.1, cap_le hl.2, rx_lst w (reps_strs _) Q q⟩
  · cases e) h k
def dJoin (a : Str) (d : D) : Option D := (dItems d).bind fun ds => (strsD ds).bind fun ys => if (ys.map (·.length)).sum + ys.length * a.length ≤ cap then some (.str (Txt.join a ys)) else none
theorem se_join {to te : TE} {mo me : MM D} (h : SE c to mo) (k : SE c te me) : SE c (tM1 (rJoin1 c.K) to te) (mStr1 dJoin mo me) := se_str1 (fun κ s a y b d w ry e Q q => by
  unfold dJoin at e
  cases e1 : dItems b with
  | none => rw [e1] at e; cases e
  | some ds =>
    rw [e1] at e
    cases e2 : strsD ds with
    | none =>
      have e : ((strsD ds).bind fun ys => if (ys.map (·.length)).sum + ys.length * a.length ≤ cap then some (D.str (Txt.join a ys)) else none) = some d := e
      rw [e2] at e; cases e
    | some ys =>
      have e : ((strsD ds).bind fun ys => if (ys.map (·.length)).sum + ys.length * a.length ≤ cap then some (D.str (Txt.join a ys)) else none) = some d := e
      rw [e2] at e
      have e : (if (ys.map (·.length)).sum + ys.length * a.length ≤ cap then some (D.str (Txt.join a ys)) else none) = some d := e
      split at e
      · rename_i hl
        cases e
        have fin : ∀ p vs, y = .ref p → (SqL c.K s.H p vs ∨ SqT c.K s.H p vs) → Reps c.K s.g vs ds → rJoin1 c.K (.str a) [y] s.H Q := fun p vs ey hq rr => by
          have := strs_reps rr e2
          subst this
          subst ey
          exact ⟨a, p, ys, rfl, rfl, hq, Nat.le_trans hl (by decide), q _ s.W s.H w.nref (.str _)⟩
        cases b <;> try (cases e1; done)
        · cases e1
          cases ry with
          | @tup p xs ds h1 h2 => exact fin p xs rfl (.inr (w.ex.st h1)) h2
        · cases e1
          cases ry with
          | @lst p xs ds h1 h2 => exact fin p xs rfl (.inl (sqL_pl h1)) h2
      · cases e) h k
/-! xs[k] = v of a list that is a cell -/
def setC (x k v : D) : MS := fun ρ => match x, k with
  | .ref n, .int i => match ρ.c[n]? with
    | some (.lst ds) => match ixN ds.length i with
      | some j => some (.nx (ρ.setc n (.lst (ds.set j v))))
      | none => none
    | _ => none
  | _, _ => none
def mSetAt (mv mo mk : MM D) : MS := mE mv fun v => mE mo fun x => mE mk fun k => setC x k v
theorem ss_setAt {tv to tk : TE} {mv mo mk : MM D} (hv : SE c tv mv) (ho : SE c to mo) (hk : SE c tk mk) : SS c (tAsg tv (gSub to tk rSetL)) (mSetAt mv mo mk) := by
  intro ρ o e s σ hs E q
  refine ss_go (t := tv) hv e hs q fun v dv ρ s e hs rv q tr => ?_
  refine ss_go (t := to) ho e hs q fun x dx ρ s1 e hs1 rx q tr1 => ?_
  refine ss_go (t := tk) hk e hs1 q fun y dy ρ s2 e hs2 ry q tr2 => ?_
  unfold setC at e
  split at e
  · rename_i n i
    split at e
    · rename_i ds e1
      split at e
      · rename_i j e2
        cases e
        cases rx.mono tr2.le with
        | @ref a _ hA =>
        cases ry
        obtain ⟨vs, h1, h2⟩ := hs2.cr.cell e1 hA
        obtain ⟨k1, k2⟩ := hs2.change (u := .lst (vs.set j v)) (cl2 := .lst (ds.set j dv)) e1 hA trivial (fun _ _ _ z => nomatch z) ⟨_, upd_same, h2.set ((rv.mono tr1.le).mono tr2.le) j⟩
        exact ⟨a, vs, _, j, rfl, rfl, h1, by rw [h2.length]; exact e2, q _ σ k1 k2⟩
      · cases e
    · cases e
  · cases e
end
end PH
end
section
set_option maxHeartbeats 0
/-! PHG: combinators of the generated texts, second part -/
namespace PH
open PySem PySem.Spec PyProof.Rows L2
section
variable {c : Cc}
def mFmt (m : MM D) : MM D := bnd m fun d => lft (dFmt d)
noncomputable def mDcC (m : MM (List D × KC)) (vs : List Nat) (g : D → St → Option St) (t : MM Bool) (ek e : MM D) : MM D := bnd (mDc m vs g t ek e) fun ys => newC (.dct ys)
def mTruA (m : MM D) : MM Bool := bnd m fun d => lftK fun κ => truA (see1 κ d)
def mCbD (op : List D → Option (List D)) (a : MM (List D)) : MM D := bnd a fun x => lftK fun κ => (op (x.map (see1 κ))).map .lst
theorem se_ownD {r : List V → Hp → VK → Prop} {op : List D → Option (List D)} {ta : TA} {ma : MM (List D)} (ho : ROwnC c r op) (ha : SA c ta ma) : SE c (tCB r ta) (mCbD op ma) := se_cb ho.data ha
/-! a list by values as a cell -/
def ROwn2 (c : Cc) (r : R2) (op : D → D → Option (List D)) : Prop := ∀ (κ : List Cell) (s : Ws) x y a b ds, CS c κ s → RepH c.K s.g s.H x a → RepH c.K s.g s.H y b → op a b = some ds → ∃ vs, Reps c.K s.g vs ds ∧ ∀ Q : VK, (∀ p, s.H p = none → Q (.ref p) (upd s.H p (.lst vs))) → r x y s.H Q
theorem se_op2C {r : R2} {op : D → D → Option (List D)} {ta tb : TE} {ma mb : MM D} (ho : ROwn2 c r op) (ha : SE c ta ma) (hb : SE c tb mb) : SE c (tOp r ta tb) (mOpC (fun κ a b => op (see1 κ a) (see1 κ b)) ma mb) :=
  se_opC (fun κ s x y a b ds w rx ry e => ho κ s x y _ _ ds w (see1_rep w rx) (see1_rep w ry) e) ha hb
def dCatL : D → D → Option (List D)
  | .lst xs, .lst ys => if xs.length + ys.length ≤ cap then some (xs ++ ys) else none
  | _, _ => none
theorem own_cat : ROwn2 c (rAddAll c.K) dCatL := by
  intro κ s x y a b ds w rx ry e
  cases a <;> try (cases e; done)
  cases b <;> try (cases e; done)
  rename_i z1 z2
  have e : (if z1.length + z2.length ≤ cap then some (z1 ++ z2) else none) = some ds := e
  split at e
  · rename_i h
    cases e
    cases rx with
    | @lst p xs _ hx r1 =>
      cases ry with
      | @lst p2 ys _ hy r2 =>
        exact ⟨xs ++ ys, r1.append r2, fun Q q => .inr (.inr (.inr ⟨p, p2, xs, ys, rfl, rfl, hx, hy, cap_le (by rw [r1.length, r2.length]; exact h), q⟩))⟩
  · cases e
theorem own_mul : ROwn2 c rMulAll dRepL := fun κ s x y a b ds w rx ry e => own_rep κ s x y a b ds w rx ry e
/-- x[lo:hi] of a list as a cell -/
def mSlC (m : MM D) (ml mh : MM (Option Int)) : MM D := bnd m fun d => bnd ml fun lo => bnd mh fun hi => bnd (lftK fun κ => match see1 κ d with
  | .lst ds => some (cutD ds lo hi)
  | .frz ds => some (cutD ds lo hi)
  | _ => none) fun ds => newC (.lst ds)
theorem se_slC {te : TE} {tl th : TO} {m : MM D} {ml mh : MM (Option Int)} (h : SE c te m) (hl : SO c tl ml) (hh : SO c th mh) : SE c (tSl (rSlAll c.K) te tl th) (mSlC m ml mh) := by
  intro ρ rr e s σ hs Q q
  refine sx_go (t := te) h e hs q fun x a ρ s e hs rx q tr => ?_
  refine sx_go (t := tl) hl e hs q fun l lo ρ s1 e hs1 el q tr1 => ?_
  refine sx_go (t := th) hh e hs1 q fun u hi ρ s2 e hs2 eu q tr2 => ?_
  subst el eu
  rcases bnd_cases e with ⟨ds, ρ3, e1, e2⟩ | ⟨z, ρ3, e1, _⟩
  · obtain ⟨ds', e3, e4⟩ := lftK_cases e1
    cases e4
    cases e2
    have rx := see1_rep hs2.cr ((rx.mono tr1.le).mono tr2.le)
    generalize see1 ρ.c a = b at rx e3
    cases b <;> try (cases e3; done)
    · cases e3
      cases rx with
      | @lst p xs _ hx r1 => exact .inr (.inl ⟨p, xs, rfl, .inl (.inl hx), post_lst hs2 q (cut_reps r1 l u)⟩)
    · cases e3
      cases rx with
      | @frz p xs _ hx r1 => exact .inr (.inl ⟨p, xs, rfl, hs2.cr.ex.sl hx, post_lst hs2 q (cut_reps r1 l u)⟩)
  · obtain ⟨_, _, e4⟩ := lftK_cases e1
    cases e4
/-! dicts that are cells, compared: only equal ones with flat values -/
open Classical in
noncomputable def dNeD (κ : List Cell) (x y : D) : Option D := match x, y with
  | .ref n, .ref m => match κ[n]?, κ[m]? with
    | some (.dct kd), some (.dct ld) => if kd.length = ld.length ∧ ∀ p ∈ kd, flatD p.2 = true ∧ p.2 ≠ .non ∧ valD ld p.1 = some p.2 then some (.bl false) else none
    | _, _ => none
  | _, _ => none
theorem repk_mem {K : PySem.W.Frag} {g : Gh} : ∀ {kv : List (Key × V)} {kd : List (Key × D)} {p : Key × V}, RepK K g kv kd → p ∈ kv → ∃ d, (p.1, d) ∈ kd ∧ Rep K g p.2 d
  | _, _, _, .nil, h => absurd h (by simp)
  | _, _, p, .cons (k := k) (v := v) r t, h => by
    rcases List.mem_cons.mp h with rfl | h
    · exact ⟨_, List.mem_cons_self, r⟩
    · obtain ⟨d, h1, h2⟩ := repk_mem t h
      exact ⟨d, List.mem_cons_of_mem _ h1, h2⟩
theorem flat_eq {K : PySem.W.Frag} {g : Gh} {v : V} {d : D} (r : Rep K g v d) (f : flatD d = true) : v = toV d := by
  cases r <;> first | rfl | cases f
theorem rk_neD : RKp c rNeDA dNeD := by
  intro κ s x y a b d w rx ry e Q q
  unfold dNeD at e
  split at e
  · rename_i n m
    split at e
    · rename_i kd ld e1 e2
      split at e
      · rename_i hc
        cases e
        cases rx with
        | @ref p _ hA =>
        cases ry with
        | @ref p2 _ hB =>
        obtain ⟨ks, h1, h2⟩ := w.cell e1 hA
        obtain ⟨ls, h3, h4⟩ := w.cell e2 hB
        refine ⟨p, p2, ks, ls, rfl, rfl, h1, h3, by rw [h2.length, h4.length]; exact hc.1, fun z hz => ?_, q _ s.W s.H w.nref (.bl _)⟩
        obtain ⟨dz, k1, k2⟩ := repk_mem h2 hz
        obtain ⟨f1, f0, f2⟩ := hc.2 _ k1
        have f1 : flatD dz = true := f1
        have f2 : valD ld z.1 = some dz := f2
        rcases h4.val (k := z.1) with ⟨v, d', q1, q2, q3⟩ | ⟨_, q2⟩
        · rw [f2] at q2
          cases q2
          refine ⟨by rw [q1, flat_eq q3 f1, flat_eq k2 f1], ?_⟩
          rw [flat_eq k2 f1]
          cases dz <;> first | rfl | cases f1
        · rw [f2] at q2; cases q2
      · cases e
    · cases e
  · cases e
theorem ExcC.pd {b : Bs} {mg : Str → Option Value} {x : Str} (h : ExcC b mg x) : PD.ExcC b.K mg b.ca x := ⟨h.g, h.ex, h.kp, h.xm, h.sub, h.ty⟩
end
/-- a tuple of the module's top -/
structure TupC (b : Bs) (mg : Str → Option Value) (x : Str) (a : Addr) (ds : List D) : Prop where
  g : mg x = some (.ref a)
  r : ∀ g, Rep b.K g (.ref a) (.tup ds)
end PH
end
section
set_option maxHeartbeats 0
namespace K08
open PySem PySem.Spec PyProof.Rows L2 PH
def top (i : Nat) : Stmt := PySem.Challenge.pw_landstack_k08_votes_owners_and_remarks.main.body.getD i (.Pass ⟨0, 0, 0, 0⟩)
def sub (i j : Nat) : Stmt := match top i with
  | .ClassDef _ _ _ body _ _ _ _ _ _ _ => body.getD j (.Pass ⟨0, 0, 0, 0⟩)
  | _ => .Pass ⟨0, 0, 0, 0⟩
end K08
end
section
set_option maxHeartbeats 0
namespace K08
open PySem PySem.Spec PyProof.Rows L2 PH
section
variable {P : Program} {w : World} {mg : Str → Option Value} {base : Heap} {b : Bs}
abbrev s_told : Stmt := top 16
theorem sc_told : FnScope ["what"] ["what"] (defScope s_told) := ⟨rfl, rfl, rfl, by decide +kernel, rfl, by decide +kernel, by decide +kernel⟩
abbrev s_folders_of : Stmt := top 4
abbrev N_folders_of : List Str := ["path", "names"]
theorem sc_folders_of : FnScope N_folders_of ["path"] (defScope s_folders_of) := ⟨rfl, rfl, rfl, by decide +kernel, rfl, by decide +kernel, by decide +kernel⟩
noncomputable def m_folders_of : MS :=
  (mSeq (mAsg (mStr1 dSplit (rd 0) (ret (.str "/"))) (setD 1))
    (mRet (mTupL (mRngS (ret (.int 1)) (mCb dLenA (mArg (rd 1) (ret [])))) (fJoin "/" 1))))
noncomputable def F_folders_of : FF := runF .pure 2 m_folders_of
theorem ok_folders_of {f : Addr} {fd : FuncData} (F : FunA b.K "folders_of" "folders_of" s_folders_of f fd) (z_len : mg "len" = none) (z_range : mg "range" = none) (z_tuple : mg "tuple" = none) {cc PG : Addr} (kc : fd.code = .ref cc) (TBg : GxR.TabB base mg cc PG) (hPG : PG ∈ b.tb.GT) (hLG : ∀ q ∈ b.tb.LT, q.1 ≠ PG) :
    FnOk P w b.K mg base (L2.CX P w) 1 f fd ["path"] (spG b 1 F_folders_of) := by
  refine fn_phC (N := N_folders_of) (k := 0) F sc_folders_of fun cdv A outer s H E kcv hr => ?_
  have nd : (N_folders_of).Nodup := sc_folders_of.nd
  have tk : Takes (cxOf (L2.CX P w) P w b.K mg base N_folders_of "folders_of" (defScope s_folders_of) f cdv A outer s H E) (wOf b.ca (ccOf b E).xw) := takesB (L2.takes_of rfl rfl rfl rfl)
  have hcode : (cxOf (L2.CX P w) P w b.K mg base N_folders_of "folders_of" (defScope s_folders_of) f cdv A outer s H E).env.code = .ref cc := kcv.symm.trans kc
  exact ⟨_, (pss_cons (ps_set (i := 1) nd rfl (by first | exact Or.inl rfl | exact Or.inr rfl) (pe_m1 PySem.F.slot_str_split PySem.F.type_str_split mt_split (pv 0) pe_str))
    (pss_one (ps_ret (PHX.pe_tupL hr (by rfl) z_tuple TBg hcode (PHX.genS0_by (sc := defScope s_folders_of) (by decide +kernel)) (PHX.psrc_rng (prg_2 (by rfl) z_range pe_int (pe_callB call_lenA (by rfl) z_len PySem.boot_len (pa_cons (pv 1) pa_nil)))) (PHX.elt_join (i := 1) (PHX.genS0_by (sc := defScope s_folders_of) (by decide +kernel)) (by rfl) (by first | exact Or.inl rfl | exact Or.inr rfl) (by decide +kernel) (by rfl)) (fun _ => rfl))))),
    (ss_seq (ss_asg (se_split (se_var (i := 0)) (se_c fun _ => .str _)) (sg_name (i := 1)))
    (ss_ret (se_tupL hPG hLG (sx_rngS hPG (se_c fun _ => .int _) (se_cb rca_lenA (sa_cons (se_var (i := 1)) sa_nil))) (selt_join (sep := "/") (i := 1)))))⟩
abbrev s_Rules____init__ : Stmt := sub 9 0
abbrev N_Rules____init__ : List Str := ["self", "needed", "owners", "sticky"]
theorem sc_Rules____init__ : FnScope N_Rules____init__ ["self", "needed", "owners", "sticky"] (defScope s_Rules____init__) := ⟨rfl, rfl, rfl, by decide +kernel, rfl, by decide +kernel, by decide +kernel⟩
noncomputable def m_Rules____init__ : MS :=
  (mSeq (mIf (mNot (mTest (mChain dLe dLe (ret (.int 0)) (rd 1) (ret (.int 9)))))
    (mRaiseE "ReviewError" (joinM [(ret (.str "no number of votes: ")), (mFmt (rd 1))] Str.empty))
    mNext)
    (mSeq (mSetF "Rules" "needed" (rd 1) (rd 0))
    (mSeq (mSetF "Rules" "owners" (mDict (mArg (rd 2) (ret []))) (rd 0))
    (mSetF "Rules" "sticky" (rd 3) (rd 0)))))
noncomputable def F_Rules____init__ : FF := runF .keep 4 m_Rules____init__
theorem ok_Rules____init__ {f : Addr} {fd : FuncData} (F : FunA b.K "__init__" "Rules.__init__" s_Rules____init__ f fd) (z_dict : mg "dict" = none) {t_MOST_NEEDED : Tok} (h_MOST_NEEDED : mg "MOST_NEEDED" = some (.int 9 t_MOST_NEEDED)) (fl_Rules_needed : Fld b "Rules" "needed") (fl_Rules_owners : Fld b "Rules" "owners") (fl_Rules_sticky : Fld b "Rules" "sticky") (X_ReviewError : ExcC b mg "ReviewError") :
    FnOk P w b.K mg base (L2.CX P w) 1 f fd ["self", "needed", "owners", "sticky"] (spG b 4 F_Rules____init__) := by
  refine fn_ph (N := N_Rules____init__) (k := 0) F sc_Rules____init__ fun cdv A outer s H E hr => ?_
  have nd : (N_Rules____init__).Nodup := sc_Rules____init__.nd
  have tk : Takes (cxOf (L2.CX P w) P w b.K mg base N_Rules____init__ "Rules.__init__" (defScope s_Rules____init__) f cdv A outer s H E) (wOf b.ca (ccOf b E).xw) := takesB (L2.takes_of rfl rfl rfl rfl)
  skip
  exact ⟨_, (pss_cons (ps_if (pt_not (pt_chain op_le op_le pe_int (pv 1) (pe_glob (v := .int 9) rfl h_MOST_NEEDED ⟨_, rfl⟩)))
    (pss_one (ps_raise rfl tk (SkE.pmk_own1 PySem.F.excBase_ValueError X_ReviewError.ex X_ReviewError.g X_ReviewError.kp (raises_own X_ReviewError.sub X_ReviewError.ty) rfl (pe_joined (.cons pe_str (.cons (pe_fmt (pv 1)) .nil))))))
    pss_nil)
    (pss_cons (ps_fld (pv 0) (pv 1) (by rfl))
    (pss_cons (ps_fld (pv 0) (pe_callTy (call_dictA rfl) (by rfl) z_dict (by decide +kernel) (pa_cons (pv 2) pa_nil)) (by rfl))
    (pss_one (ps_fld (pv 0) (pv 3) (by rfl)))))),
    (ss_seq (ss_if (st_not (st_test (se_chain rop_le rop_le (se_c fun _ => .int _) (se_var (i := 1)) (se_c fun _ => .int _))))
    (ss_raiseE (x := "ReviewError") (se_joined (.cons (se_c fun _ => .str _) (.cons (se_fmt (se_var (i := 1))) .nil))))
    ss_next)
    (ss_seq (ss_fld fl_Rules_needed (se_var (i := 1)) (se_var (i := 0)))
    (ss_seq (ss_fld fl_Rules_owners (se_dict (sa_cons (se_var (i := 2)) sa_nil)) (se_var (i := 0)))
    (ss_fld fl_Rules_sticky (se_var (i := 3)) (se_var (i := 0))))))⟩
abbrev s_Rules__owners_of : Stmt := sub 9 1
abbrev N_Rules__owners_of : List Str := ["self", "path", "beginning"]
theorem sc_Rules__owners_of : FnScope N_Rules__owners_of ["self", "path"] (defScope s_Rules__owners_of) := ⟨rfl, rfl, rfl, by decide +kernel, rfl, by decide +kernel, by decide +kernel⟩
noncomputable def m_Rules__owners_of_b1 : MS :=
  (mIf (mTest (mOpK dDIn (rd 2) (mUnK (fldOf "Rules" "owners") (rd 0))))
    (mRet (mCb dTuple (mArg (mOpK dDGet (mUnK (fldOf "Rules" "owners") (rd 0)) (rd 2)) (ret []))))
    mNext)
noncomputable def m_Rules__owners_of : MS :=
  (mSeq (mForI (mItems (mTupD (mArg (rd 1) (mStar (mUn dRevT (mCall F_folders_of (mArg (rd 1) (ret [])))) (mArg (ret (.str "")) (ret [])))))) (setD 2)
    m_Rules__owners_of_b1)
    (mRet (mTupD (ret []))))
noncomputable def F_Rules__owners_of : FF := runF .pure 3 m_Rules__owners_of
theorem ok_Rules__owners_of {f : Addr} {fd : FuncData} (F : FunA b.K "owners_of" "Rules.owners_of" s_Rules__owners_of f fd) (z_tuple : mg "tuple" = none) (fl_Rules_owners : Fld b "Rules" "owners") {f_folders_of : Addr} {fd_folders_of : FuncData} (C_folders_of : Cal P w b mg base "folders_of" 1 ["path"] F_folders_of f_folders_of fd_folders_of) :
    FnOk P w b.K mg base (L2.CX P w) 2 f fd ["self", "path"] (spG b 2 F_Rules__owners_of) := by
  refine fn_ph (N := N_Rules__owners_of) (k := 1) F sc_Rules__owners_of fun cdv A outer s H E hr => ?_
  have nd : (N_Rules__owners_of).Nodup := sc_Rules__owners_of.nd
  have tk : Takes (cxOf (L2.CX P w) P w b.K mg base N_Rules__owners_of "Rules.owners_of" (defScope s_Rules__owners_of) f cdv A outer s H E) (wOf b.ca (ccOf b E).xw) := takesB (L2.takes_of rfl rfl rfl rfl)
  skip
  exact ⟨_, (pss_cons (ps_for PassesOwn.leaving rfl (pi_seq (pe_tup (pa_cons (pv 1) (StX.pa_star (pe_revT (pe_callSD C_folders_of.ok (hr.mono (by decide)) rfl C_folders_of.g C_folders_of.kp C_folders_of.b .nil (fun σ => passAt tk σ) (pa_cons (pv 1) pa_nil))) (pa_cons pe_str pa_nil))))) (pg_name (i := 2) nd rfl (by first | exact Or.inl rfl | exact Or.inr rfl))
    (pss_one (ps_if (pt_cmp (pc_din (Nat.lt_of_le_of_lt (Nat.add_le_add_left (by decide : 1 ≤ 64) _) hr.units) (pv 2) (pe_fld (pv 0) (by rfl))))
    (pss_one (ps_ret (pe_callTy call_tuple_of (by rfl) z_tuple (by decide +kernel) (pa_cons (pe_dget (Nat.lt_of_le_of_lt (Nat.add_le_add_left (by decide : 1 ≤ 64) _) hr.units) (pe_fld (pv 0) (by rfl)) (pv 2) (fun _ _ => rfl)) pa_nil))))
    pss_nil)))
    (pss_one (ps_ret (pe_tup pa_nil)))),
    (ss_seq (ss_forI (si_items (se_tup (sa_cons (se_var (i := 1)) (sa_star (se_revT (se_call (sa_cons (se_var (i := 1)) sa_nil) (ln_cons ln_nil))) (sa_cons (se_c fun _ => .str _) sa_nil))))) (sg_name (i := 2))
    (ss_if (st_test (se_din (se_var (i := 2)) (se_fld fl_Rules_owners (se_var (i := 0)))))
    (ss_ret (se_cb rca_tuple (sa_cons (se_dget (se_fld fl_Rules_owners (se_var (i := 0))) (se_var (i := 2))) sa_nil)))
    ss_next))
    (ss_ret (se_tup sa_nil)))⟩
abbrev s_Change____init__ : Stmt := sub 10 0
abbrev N_Change____init__ : List Str := ["self", "number", "author", "branch", "head"]
theorem sc_Change____init__ : FnScope N_Change____init__ ["self", "number", "author", "branch", "head"] (defScope s_Change____init__) := ⟨rfl, rfl, rfl, by decide +kernel, rfl, by decide +kernel, by decide +kernel⟩
noncomputable def m_Change____init__ : MS :=
  (mSeq (mSetF "Change" "number" (rd 1) (rd 0))
    (mSeq (mSetF "Change" "author" (rd 2) (rd 0))
    (mSeq (mSetF "Change" "branch" (rd 3) (rd 0))
    (mSeq (mSetF "Change" "head" (rd 4) (rd 0))
    (mSeq (mSetF "Change" "state" (ret (.str "open")) (rd 0))
    (mSeq (mSetF "Change" "votes" (newC (.dct [])) (rd 0))
    (mSetF "Change" "remarks" (mLstC (ret [])) (rd 0))))))))
noncomputable def F_Change____init__ : FF := runF .keep 5 m_Change____init__
theorem ok_Change____init__ {f : Addr} {fd : FuncData} (F : FunA b.K "__init__" "Change.__init__" s_Change____init__ f fd) {t_OPEN : Tok} (h_OPEN : mg "OPEN" = some (.str ("open" : Str) t_OPEN)) (fl_Change_author : Fld b "Change" "author") (fl_Change_branch : Fld b "Change" "branch") (fl_Change_head : Fld b "Change" "head") (fl_Change_number : Fld b "Change" "number") (fl_Change_remarks : Fld b "Change" "remarks") (fl_Change_state : Fld b "Change" "state") (fl_Change_votes : Fld b "Change" "votes") :
    FnOk P w b.K mg base (L2.CX P w) 1 f fd ["self", "number", "author", "branch", "head"] (spG b 5 F_Change____init__) := by
  refine fn_ph (N := N_Change____init__) (k := 0) F sc_Change____init__ fun cdv A outer s H E hr => ?_
  have nd : (N_Change____init__).Nodup := sc_Change____init__.nd
  have tk : Takes (cxOf (L2.CX P w) P w b.K mg base N_Change____init__ "Change.__init__" (defScope s_Change____init__) f cdv A outer s H E) (wOf b.ca (ccOf b E).xw) := takesB (L2.takes_of rfl rfl rfl rfl)
  skip
  exact ⟨_, (pss_cons (ps_fld (pv 0) (pv 1) (by rfl))
    (pss_cons (ps_fld (pv 0) (pv 2) (by rfl))
    (pss_cons (ps_fld (pv 0) (pv 3) (by rfl))
    (pss_cons (ps_fld (pv 0) (pv 4) (by rfl))
    (pss_cons (ps_fld (pv 0) (pe_glob (v := .str "open") rfl h_OPEN ⟨_, rfl⟩) (by rfl))
    (pss_cons (ps_fld (pv 0) pe_dnewK (by rfl))
    (pss_one (ps_fld (pv 0) (pe_lst pa_nil) (by rfl))))))))),
    (ss_seq (ss_fld fl_Change_number (se_var (i := 1)) (se_var (i := 0)))
    (ss_seq (ss_fld fl_Change_author (se_var (i := 2)) (se_var (i := 0)))
    (ss_seq (ss_fld fl_Change_branch (se_var (i := 3)) (se_var (i := 0)))
    (ss_seq (ss_fld fl_Change_head (se_var (i := 4)) (se_var (i := 0)))
    (ss_seq (ss_fld fl_Change_state (se_c fun _ => .str _) (se_var (i := 0)))
    (ss_seq (ss_fld fl_Change_votes se_dnew (se_var (i := 0)))
    (ss_fld fl_Change_remarks (se_lstC sa_nil) (se_var (i := 0)))))))))⟩
abbrev s_Change__check_open : Stmt := sub 10 1
abbrev N_Change__check_open : List Str := ["self"]
theorem sc_Change__check_open : FnScope N_Change__check_open ["self"] (defScope s_Change__check_open) := ⟨rfl, rfl, rfl, by decide +kernel, rfl, by decide +kernel, by decide +kernel⟩
noncomputable def m_Change__check_open : MS :=
  (mIf (mTest (mOp dNe (mUnK (fldOf "Change" "state") (rd 0)) (ret (.str "open"))))
    (mRaiseE "ReviewError" (joinM [(ret (.str "change ")), (mFmt (mUnK (fldOf "Change" "number") (rd 0))), (ret (.str " is ")), (mFmt (mUnK (fldOf "Change" "state") (rd 0)))] Str.empty))
    mNext)
noncomputable def F_Change__check_open : FF := runF .pure 1 m_Change__check_open
theorem ok_Change__check_open {f : Addr} {fd : FuncData} (F : FunA b.K "check_open" "Change.check_open" s_Change__check_open f fd) {t_OPEN : Tok} (h_OPEN : mg "OPEN" = some (.str ("open" : Str) t_OPEN)) (fl_Change_number : Fld b "Change" "number") (fl_Change_state : Fld b "Change" "state") (X_ReviewError : ExcC b mg "ReviewError") :
    FnOk P w b.K mg base (L2.CX P w) 1 f fd ["self"] (spG b 1 F_Change__check_open) := by
  refine fn_ph (N := N_Change__check_open) (k := 0) F sc_Change__check_open fun cdv A outer s H E hr => ?_
  have nd : (N_Change__check_open).Nodup := sc_Change__check_open.nd
  have tk : Takes (cxOf (L2.CX P w) P w b.K mg base N_Change__check_open "Change.check_open" (defScope s_Change__check_open) f cdv A outer s H E) (wOf b.ca (ccOf b E).xw) := takesB (L2.takes_of rfl rfl rfl rfl)
  skip
  exact ⟨_, (pss_one (ps_if (pt_cmpR (op_neP hr.units) (pe_fld (pv 0) (by rfl)) (pe_glob (v := .str "open") rfl h_OPEN ⟨_, rfl⟩) (nomark _))
    (pss_one (ps_raise rfl tk (SkE.pmk_own1 PySem.F.excBase_ValueError X_ReviewError.ex X_ReviewError.g X_ReviewError.kp (raises_own X_ReviewError.sub X_ReviewError.ty) rfl (pe_joined (.cons pe_str (.cons (pe_fmt (pe_fld (pv 0) (by rfl))) (.cons pe_str (.cons (pe_fmt (pe_fld (pv 0) (by rfl))) .nil))))))))
    pss_nil)),
    (ss_if (st_test (se_op rop_ne (se_fld fl_Change_state (se_var (i := 0))) (se_c fun _ => .str _)))
    (ss_raiseE (x := "ReviewError") (se_joined (.cons (se_c fun _ => .str _) (.cons (se_fmt (se_fld fl_Change_number (se_var (i := 0)))) (.cons (se_c fun _ => .str _) (.cons (se_fmt (se_fld fl_Change_state (se_var (i := 0)))) .nil))))))
    ss_next)⟩
abbrev s_Change__state_to : Stmt := sub 10 2
abbrev N_Change__state_to : List Str := ["self", "state"]
theorem sc_Change__state_to : FnScope N_Change__state_to ["self", "state"] (defScope s_Change__state_to) := ⟨rfl, rfl, rfl, by decide +kernel, rfl, by decide +kernel, by decide +kernel⟩
noncomputable def m_Change__state_to : MS :=
  (mSeq (mDrop (mMethO "Change" "check_open" F_Change__check_open (rd 0) (ret [])))
    (mSeq (mIf (mTest (mOp (inD true) (rd 1) (ret (.tup [.str "landed", .str "dropped"]))))
    (mRaiseE "ReviewError" (joinM [(ret (.str "no end of a change: ")), (mFmt (rd 1))] Str.empty))
    mNext)
    (mSetF "Change" "state" (rd 1) (rd 0))))
noncomputable def F_Change__state_to : FF := runF .keep 2 m_Change__state_to
theorem ok_Change__state_to {f : Addr} {fd : FuncData} (F : FunA b.K "state_to" "Change.state_to" s_Change__state_to f fd) {a_ENDS_OF_CHANGES : Addr} (TC_ENDS_OF_CHANGES : TupC b mg "ENDS_OF_CHANGES" a_ENDS_OF_CHANGES [.str "landed", .str "dropped"]) (fl_Change_state : Fld b "Change" "state") (X_ReviewError : ExcC b mg "ReviewError") {f_Change__check_open : Addr} {fd_Change__check_open : FuncData} (C_Change__check_open : CalM P w b mg base "Change" "check_open" 1 ["self"] F_Change__check_open f_Change__check_open fd_Change__check_open) :
    FnOk P w b.K mg base (L2.CX P w) 2 f fd ["self", "state"] (spG b 2 F_Change__state_to) := by
  refine fn_ph (N := N_Change__state_to) (k := 1) F sc_Change__state_to fun cdv A outer s H E hr => ?_
  have nd : (N_Change__state_to).Nodup := sc_Change__state_to.nd
  have tk : Takes (cxOf (L2.CX P w) P w b.K mg base N_Change__state_to "Change.state_to" (defScope s_Change__state_to) f cdv A outer s H E) (wOf b.ca (ccOf b E).xw) := takesB (L2.takes_of rfl rfl rfl rfl)
  skip
  exact ⟨_, (pss_cons (ps_expr (pe_methSD0 (pv 0) C_Change__check_open.cl C_Change__check_open.me C_Change__check_open.ok (hr.mono (by decide)) C_Change__check_open.b .nil (fun σ => passAt tk σ)))
    (pss_cons (ps_if (pt_cmpR op_notIn_seq (pv 1) (pe_glob (v := .ref a_ENDS_OF_CHANGES) rfl TC_ENDS_OF_CHANGES.g rfl) (by rfl))
    (pss_one (ps_raise rfl tk (SkE.pmk_own1 PySem.F.excBase_ValueError X_ReviewError.ex X_ReviewError.g X_ReviewError.kp (raises_own X_ReviewError.sub X_ReviewError.ty) rfl (pe_joined (.cons pe_str (.cons (pe_fmt (pv 1)) .nil))))))
    pss_nil)
    (pss_one (ps_fld (pv 0) (pv 1) (by rfl))))),
    (ss_seq (ss_drop (se_methO (n := 0) (se_var (i := 0)) sa_nil ln_nil))
    (ss_seq (ss_if (st_test (se_op rop_nin (se_var (i := 1)) (se_c TC_ENDS_OF_CHANGES.r)))
    (ss_raiseE (x := "ReviewError") (se_joined (.cons (se_c fun _ => .str _) (.cons (se_fmt (se_var (i := 1))) .nil))))
    ss_next)
    (ss_fld fl_Change_state (se_var (i := 1)) (se_var (i := 0)))))⟩
abbrev s_Change__vote : Stmt := sub 10 3
abbrev N_Change__vote : List Str := ["self", "name", "value"]
theorem sc_Change__vote : FnScope N_Change__vote ["self", "name", "value"] (defScope s_Change__vote) := ⟨rfl, rfl, rfl, by decide +kernel, rfl, by decide +kernel, by decide +kernel⟩
noncomputable def m_Change__vote : MS :=
  (mSeq (mDrop (mMethO "Change" "check_open" F_Change__check_open (rd 0) (ret [])))
    (mSeq (mIf (mOr (mTest (mOp (inD true) (rd 2) (mTupD (mArg (ret (.int 1)) (mArg (ret (.int 0)) (mArg (mUn dNeg (ret (.int 1))) (ret []))))))) (mTest (mOp dEq (rd 1) (mUnK (fldOf "Change" "author") (rd 0)))))
    (mRaiseE "ReviewError" (joinM [(ret (.str "no vote of ")), (mFmt (rd 1)), (ret (.str ": ")), (mFmt (rd 2))] Str.empty))
    mNext)
    (mIf (mTest (mOp dEq (rd 2) (ret (.int 0))))
    (mDrop (mDPop2 (mUnK (fldOf "Change" "votes") (rd 0)) (rd 1) (ret .non)))
    (mDPut (mUnK (fldOf "Change" "votes") (rd 0)) (rd 1) (rd 2)))))
noncomputable def F_Change__vote : FF := runF .keep 3 m_Change__vote
theorem ok_Change__vote {f : Addr} {fd : FuncData} (F : FunA b.K "vote" "Change.vote" s_Change__vote f fd) (fl_Change_author : Fld b "Change" "author") (fl_Change_votes : Fld b "Change" "votes") (X_ReviewError : ExcC b mg "ReviewError") {f_Change__check_open : Addr} {fd_Change__check_open : FuncData} (C_Change__check_open : CalM P w b mg base "Change" "check_open" 1 ["self"] F_Change__check_open f_Change__check_open fd_Change__check_open) :
    FnOk P w b.K mg base (L2.CX P w) 2 f fd ["self", "name", "value"] (spG b 3 F_Change__vote) := by
  refine fn_ph (N := N_Change__vote) (k := 1) F sc_Change__vote fun cdv A outer s H E hr => ?_
  have nd : (N_Change__vote).Nodup := sc_Change__vote.nd
  have tk : Takes (cxOf (L2.CX P w) P w b.K mg base N_Change__vote "Change.vote" (defScope s_Change__vote) f cdv A outer s H E) (wOf b.ca (ccOf b E).xw) := takesB (L2.takes_of rfl rfl rfl rfl)
  skip
  exact ⟨_, (pss_cons (ps_expr (pe_methSD0 (pv 0) C_Change__check_open.cl C_Change__check_open.me C_Change__check_open.ok (hr.mono (by decide)) C_Change__check_open.b .nil (fun σ => passAt tk σ)))
    (pss_cons (ps_if (PW.pt (pw_or (pt_cmpR op_notIn_seq (pv 2) (pe_tup (pa_cons pe_int (pa_cons pe_int (pa_cons (pe_un un_neg pe_int) pa_nil)))) (by rfl)) (pw_or1 (pt_cmpR (op_eqP hr.units) (pv 1) (pe_fld (pv 0) (by rfl)) (nomark _)))))
    (pss_one (ps_raise rfl tk (SkE.pmk_own1 PySem.F.excBase_ValueError X_ReviewError.ex X_ReviewError.g X_ReviewError.kp (raises_own X_ReviewError.sub X_ReviewError.ty) rfl (pe_joined (.cons pe_str (.cons (pe_fmt (pv 1)) (.cons pe_str (.cons (pe_fmt (pv 2)) .nil))))))))
    pss_nil)
    (pss_one (ps_if (pt_cmpR (op_eqP hr.units) (pv 2) pe_int (nomark _))
    (pss_one (ps_expr (pe_dpop2 (pe_fld (pv 0) (by rfl)) (pv 1) pe_non ⟨by rfl, by rfl, by rfl, by rfl⟩)))
    (pss_one (ps_dput (Nat.lt_of_le_of_lt (Nat.add_le_add_left (by decide : 1 ≤ 64) _) hr.units) (pe_fld (pv 0) (by rfl)) (pv 1) (pv 2) (by rfl))))))),
    (ss_seq (ss_drop (se_methO (n := 0) (se_var (i := 0)) sa_nil ln_nil))
    (ss_seq (ss_if (st_or (st_test (se_op rop_nin (se_var (i := 2)) (se_tup (sa_cons (se_c fun _ => .int _) (sa_cons (se_c fun _ => .int _) (sa_cons (se_un run_neg (se_c fun _ => .int _)) sa_nil)))))) (st_test (se_op rop_eq (se_var (i := 1)) (se_fld fl_Change_author (se_var (i := 0))))))
    (ss_raiseE (x := "ReviewError") (se_joined (.cons (se_c fun _ => .str _) (.cons (se_fmt (se_var (i := 1))) (.cons (se_c fun _ => .str _) (.cons (se_fmt (se_var (i := 2))) .nil))))))
    ss_next)
    (ss_if (st_test (se_op rop_eq (se_var (i := 2)) (se_c fun _ => .int _)))
    (ss_drop (se_dpop2 (se_fld fl_Change_votes (se_var (i := 0))) (se_var (i := 1)) (se_c fun _ => .non)))
    (ss_dput (se_fld fl_Change_votes (se_var (i := 0))) (se_var (i := 1)) (se_var (i := 2))))))⟩
abbrev s_Change__remark : Stmt := sub 10 4
abbrev N_Change__remark : List Str := ["self", "name", "path", "line", "text"]
theorem sc_Change__remark : FnScope N_Change__remark ["self", "name", "path", "line", "text"] (defScope s_Change__remark) := ⟨rfl, rfl, rfl, by decide +kernel, rfl, by decide +kernel, by decide +kernel⟩
noncomputable def m_Change__remark : MS :=
  (mSeq (mDrop (mMethO "Change" "check_open" F_Change__check_open (rd 0) (ret [])))
    (mSeq (mDrop (mMeth mdAppend (mUnK (fldOf "Change" "remarks") (rd 0)) (mArg (mTupD (mArg (rd 1) (mArg (rd 2) (mArg (rd 3) (mArg (rd 4) (mArg (ret (.bl true)) (ret []))))))) (ret []))))
    (mRet (mOp dSub (mCb dLenA (mArg (mUnK (fldOf "Change" "remarks") (rd 0)) (ret []))) (ret (.int 1))))))
noncomputable def F_Change__remark : FF := runF .keep 5 m_Change__remark
theorem ok_Change__remark {f : Addr} {fd : FuncData} (F : FunA b.K "remark" "Change.remark" s_Change__remark f fd) (z_len : mg "len" = none) (fl_Change_remarks : Fld b "Change" "remarks") {f_Change__check_open : Addr} {fd_Change__check_open : FuncData} (C_Change__check_open : CalM P w b mg base "Change" "check_open" 1 ["self"] F_Change__check_open f_Change__check_open fd_Change__check_open) :
    FnOk P w b.K mg base (L2.CX P w) 2 f fd ["self", "name", "path", "line", "text"] (spG b 5 F_Change__remark) := by
  refine fn_ph (N := N_Change__remark) (k := 1) F sc_Change__remark fun cdv A outer s H E hr => ?_
  have nd : (N_Change__remark).Nodup := sc_Change__remark.nd
  have tk : Takes (cxOf (L2.CX P w) P w b.K mg base N_Change__remark "Change.remark" (defScope s_Change__remark) f cdv A outer s H E) (wOf b.ca (ccOf b E).xw) := takesB (L2.takes_of rfl rfl rfl rfl)
  skip
  exact ⟨_, (pss_cons (ps_expr (pe_methSD0 (pv 0) C_Change__check_open.cl C_Change__check_open.me C_Change__check_open.ok (hr.mono (by decide)) C_Change__check_open.b .nil (fun σ => passAt tk σ)))
    (pss_cons (ps_expr (pe_bm PySem.F.plainAttrs_list PySem.F.slot_list_append PySem.F.type_list_append mt_append (pe_fld (pv 0) (by rfl)) (pa_cons (pe_tup (pa_cons (pv 1) (pa_cons (pv 2) (pa_cons (pv 3) (pa_cons (pv 4) (pa_cons pe_bl pa_nil)))))) pa_nil)))
    (pss_one (ps_ret (pe_op op_sub (pe_callB call_lenA (by rfl) z_len PySem.boot_len (pa_cons (pe_fld (pv 0) (by rfl)) pa_nil)) pe_int))))),
    (ss_seq (ss_drop (se_methO (n := 0) (se_var (i := 0)) sa_nil ln_nil))
    (ss_seq (ss_drop (se_meth rme_append (se_fld fl_Change_remarks (se_var (i := 0))) (sa_cons (se_tup (sa_cons (se_var (i := 1)) (sa_cons (se_var (i := 2)) (sa_cons (se_var (i := 3)) (sa_cons (se_var (i := 4)) (sa_cons (se_c fun _ => .bl _) sa_nil)))))) sa_nil)))
    (ss_ret (se_op rop_sub (se_cb rca_lenA (sa_cons (se_fld fl_Change_remarks (se_var (i := 0))) sa_nil)) (se_c fun _ => .int _)))))⟩
abbrev s_Change__settle : Stmt := sub 10 5
abbrev N_Change__settle : List Str := ["self", "place", "name", "path", "line", "text", "_"]
theorem sc_Change__settle : FnScope N_Change__settle ["self", "place"] (defScope s_Change__settle) := ⟨rfl, rfl, rfl, by decide +kernel, rfl, by decide +kernel, by decide +kernel⟩
noncomputable def m_Change__settle : MS :=
  (mSeq (mDrop (mMethO "Change" "check_open" F_Change__check_open (rd 0) (ret [])))
    (mSeq (mIf (mNot (mTest (mChain dLe dLt (ret (.int 0)) (rd 1) (mCb dLenA (mArg (mUnK (fldOf "Change" "remarks") (rd 0)) (ret []))))))
    (mRaiseE "ReviewError" (joinM [(ret (.str "no remark has the number ")), (mFmt (rd 1))] Str.empty))
    mNext)
    (mSeq (mAsg (mOp dIx (mUnK (fldOf "Change" "remarks") (rd 0)) (rd 1)) (setTup 5 (setCons (setD 2) (setCons (setD 3) (setCons (setD 4) (setCons (setD 5) (setCons (setD 6) setNil)))))))
    (mSetAt (mTupD (mArg (rd 2) (mArg (rd 3) (mArg (rd 4) (mArg (rd 5) (mArg (ret (.bl false)) (ret []))))))) (mUnK (fldOf "Change" "remarks") (rd 0)) (rd 1)))))
noncomputable def F_Change__settle : FF := runF .keep 7 m_Change__settle
theorem ok_Change__settle {f : Addr} {fd : FuncData} (F : FunA b.K "settle" "Change.settle" s_Change__settle f fd) (z_len : mg "len" = none) (fl_Change_remarks : Fld b "Change" "remarks") (X_ReviewError : ExcC b mg "ReviewError") {f_Change__check_open : Addr} {fd_Change__check_open : FuncData} (C_Change__check_open : CalM P w b mg base "Change" "check_open" 1 ["self"] F_Change__check_open f_Change__check_open fd_Change__check_open) :
    FnOk P w b.K mg base (L2.CX P w) 2 f fd ["self", "place"] (spG b 2 F_Change__settle) := by
  refine fn_ph (N := N_Change__settle) (k := 1) F sc_Change__settle fun cdv A outer s H E hr => ?_
  have nd : (N_Change__settle).Nodup := sc_Change__settle.nd
  have tk : Takes (cxOf (L2.CX P w) P w b.K mg base N_Change__settle "Change.settle" (defScope s_Change__settle) f cdv A outer s H E) (wOf b.ca (ccOf b E).xw) := takesB (L2.takes_of rfl rfl rfl rfl)
  skip
  exact ⟨_, (pss_cons (ps_expr (pe_methSD0 (pv 0) C_Change__check_open.cl C_Change__check_open.me C_Change__check_open.ok (hr.mono (by decide)) C_Change__check_open.b .nil (fun σ => passAt tk σ)))
    (pss_cons (ps_if (pt_not (pt_chain op_le op_lt pe_int (pv 1) (pe_callB call_lenA (by rfl) z_len PySem.boot_len (pa_cons (pe_fld (pv 0) (by rfl)) pa_nil))))
    (pss_one (ps_raise rfl tk (SkE.pmk_own1 PySem.F.excBase_ValueError X_ReviewError.ex X_ReviewError.g X_ReviewError.kp (raises_own X_ReviewError.sub X_ReviewError.ty) rfl (pe_joined (.cons pe_str (.cons (pe_fmt (pv 1)) .nil))))))
    pss_nil)
    (pss_cons (ps_asg (pe_ix ix_seq (pe_fld (pv 0) (by rfl)) (pv 1) (fun _ _ => rfl)) (pg_tup rfl (pgs_cons (pg_name (i := 2) nd rfl (by first | exact Or.inl rfl | exact Or.inr rfl)) (pgs_cons (pg_name (i := 3) nd rfl (by first | exact Or.inl rfl | exact Or.inr rfl)) (pgs_cons (pg_name (i := 4) nd rfl (by first | exact Or.inl rfl | exact Or.inr rfl)) (pgs_cons (pg_name (i := 5) nd rfl (by first | exact Or.inl rfl | exact Or.inr rfl)) (pgs_cons (pg_name (i := 6) nd rfl (by first | exact Or.inl rfl | exact Or.inr rfl)) pgs_nil)))))))
    (pss_one (ps_asg (pe_tup (pa_cons (pv 2) (pa_cons (pv 3) (pa_cons (pv 4) (pa_cons (pv 5) (pa_cons pe_bl pa_nil)))))) (pg_sub (pe_fld (pv 0) (by rfl)) (pv 1) set_list)))))),
    (ss_seq (ss_drop (se_methO (n := 0) (se_var (i := 0)) sa_nil ln_nil))
    (ss_seq (ss_if (st_not (st_test (se_chain rop_le rop_lt (se_c fun _ => .int _) (se_var (i := 1)) (se_cb rca_lenA (sa_cons (se_fld fl_Change_remarks (se_var (i := 0))) sa_nil)))))
    (ss_raiseE (x := "ReviewError") (se_joined (.cons (se_c fun _ => .str _) (.cons (se_fmt (se_var (i := 1))) .nil))))
    ss_next)
    (ss_seq (ss_asg (se_op rop_ix (se_fld fl_Change_remarks (se_var (i := 0))) (se_var (i := 1))) (sg_tup (n := 5) (sgs_cons (sg_name (i := 2)) (sgs_cons (sg_name (i := 3)) (sgs_cons (sg_name (i := 4)) (sgs_cons (sg_name (i := 5)) (sgs_cons (sg_name (i := 6)) sgs_nil)))))))
    (ss_setAt (se_tup (sa_cons (se_var (i := 2)) (sa_cons (se_var (i := 3)) (sa_cons (se_var (i := 4)) (sa_cons (se_var (i := 5)) (sa_cons (se_c fun _ => .bl _) sa_nil)))))) (se_fld fl_Change_remarks (se_var (i := 0))) (se_var (i := 1))))))⟩
abbrev s_Change__move : Stmt := sub 10 6
abbrev N_Change__move : List Str := ["self", "head", "keep", "name", "value"]
theorem sc_Change__move : FnScope N_Change__move ["self", "head", "keep"] (defScope s_Change__move) := ⟨rfl, rfl, rfl, by decide +kernel, rfl, by decide +kernel, by decide +kernel⟩
noncomputable def m_Change__move_e1 : MM D :=
  (rd 4)
noncomputable def m_Change__move_c1 : MM Bool :=
  (mTest (mOp dNe (rd 4) (ret (.int 1))))
noncomputable def m_Change__move_k1 : MM D :=
  (rd 3)
noncomputable def m_Change__move : MS :=
  (mSeq (mDrop (mMethO "Change" "check_open" F_Change__check_open (rd 0) (ret [])))
    (mSeq (mSetF "Change" "head" (rd 1) (rd 0))
    (mIf (mNot (mTruA (rd 2)))
    (mSetF "Change" "votes" (mLkE (pkF "Change" "votes" (pkV 0)) (mDcC (mWalkD (fun p => .tup [kD p.1, p.2]) (mUnK (fldOf "Change" "votes") (rd 0))) [3, 4] (setTup 2 (setCons (setD 3) (setCons (setD 4) setNil))) m_Change__move_c1 m_Change__move_k1 m_Change__move_e1)) (rd 0))
    mNext)))
noncomputable def F_Change__move : FF := runF .keep 5 m_Change__move
theorem ok_Change__move {f : Addr} {fd : FuncData} (F : FunA b.K "move" "Change.move" s_Change__move f fd) (fl_Change_head : Fld b "Change" "head") (fl_Change_votes : Fld b "Change" "votes") {f_Change__check_open : Addr} {fd_Change__check_open : FuncData} (C_Change__check_open : CalM P w b mg base "Change" "check_open" 1 ["self"] F_Change__check_open f_Change__check_open fd_Change__check_open) :
    FnOk P w b.K mg base (L2.CX P w) 2 f fd ["self", "head", "keep"] (spG b 3 F_Change__move) := by
  refine fn_ph (N := N_Change__move) (k := 1) F sc_Change__move fun cdv A outer s H E hr => ?_
  have nd : (N_Change__move).Nodup := sc_Change__move.nd
  have tk : Takes (cxOf (L2.CX P w) P w b.K mg base N_Change__move "Change.move" (defScope s_Change__move) f cdv A outer s H E) (wOf b.ca (ccOf b E).xw) := takesB (L2.takes_of rfl rfl rfl rfl)
  skip
  exact ⟨_, (pss_cons (ps_expr (pe_methSD0 (pv 0) C_Change__check_open.cl C_Change__check_open.me C_Change__check_open.ok (hr.mono (by decide)) C_Change__check_open.b .nil (fun σ => passAt tk σ)))
    (pss_cons (ps_fld (pv 0) (pv 1) (by rfl))
    (pss_one (ps_if (pt_not (pt_truA (pv 2) (by intro _; rfl)))
    (pss_one (ps_fld (pv 0) (pe_lkE (pe_dc (own := [("name", 3), ("value", 4)]) rfl nd (pi_items (pe_lk (pe_fld (pv 0) (by rfl)))) (blkOk_by (N := N_Change__move) (sc := defScope s_Change__move) (by decide +kernel)) (fun _ _ _ _ _ => (pg_tup rfl (pgs_cons (pg_name (i := 3) nd rfl (by first | exact Or.inl rfl | exact Or.inr rfl)) (pgs_cons (pg_name (i := 4) nd rfl (by first | exact Or.inl rfl | exact Or.inr rfl)) pgs_nil)))) (fun _ _ _ _ _ => (pts_one (pt_cmpR (op_neP hr.units) (pv 4) pe_int (nomark _)))) (fun _ _ _ _ _ => (pv 3)) (fun _ _ _ _ _ => (pv 4)))) (by rfl)))
    pss_nil)))),
    (ss_seq (ss_drop (se_methO (n := 0) (se_var (i := 0)) sa_nil ln_nil))
    (ss_seq (ss_fld fl_Change_head (se_var (i := 1)) (se_var (i := 0)))
    (ss_if (st_not (st_truA (se_var (i := 2))))
    (ss_fld fl_Change_votes (se_lkE (pk := (pkF "Change" "votes" (pkV 0))) (se_dcC (vs := [3, 4]) (si_pairs (se_fld fl_Change_votes (se_var (i := 0)))) (sg_tup (n := 2) (sgs_cons (sg_name (i := 3)) (sgs_cons (sg_name (i := 4)) sgs_nil))) (gw_tup (gw_cons (by decide) (gw_cons (by decide) gw_nil))) (st_test (se_op rop_ne (se_var (i := 4)) (se_c fun _ => .int _))) (se_var (i := 3)) (se_var (i := 4)))) (se_var (i := 0)))
    ss_next)))⟩
abbrev s_Change__supporters : Stmt := sub 10 7
abbrev N_Change__supporters : List Str := ["self", "name"]
theorem sc_Change__supporters : FnScope N_Change__supporters ["self"] (defScope s_Change__supporters) := ⟨rfl, rfl, rfl, by decide +kernel, rfl, by decide +kernel, by decide +kernel⟩
noncomputable def m_Change__supporters_e1 : MM D :=
  (rd 1)
noncomputable def m_Change__supporters_c1 : MM Bool :=
  (mTest (mOp dEq (mOpK dDGet (mUnK (fldOf "Change" "votes") (rd 0)) (rd 1)) (ret (.int 1))))
noncomputable def m_Change__supporters : MS :=
  (mRet (mLcD (mItems (mCbD dSorted (mArg (mUnK (fldOf "Change" "votes") (rd 0)) (ret [])))) [1] (setD 1) m_Change__supporters_c1 m_Change__supporters_e1))
noncomputable def F_Change__supporters : FF := runF .pure 2 m_Change__supporters
theorem ok_Change__supporters {f : Addr} {fd : FuncData} (F : FunA b.K "supporters" "Change.supporters" s_Change__supporters f fd) (z_sorted : mg "sorted" = none) (fl_Change_votes : Fld b "Change" "votes") :
    FnOk P w b.K mg base (L2.CX P w) 1 f fd ["self"] (spG b 1 F_Change__supporters) := by
  refine fn_ph (N := N_Change__supporters) (k := 0) F sc_Change__supporters fun cdv A outer s H E hr => ?_
  have nd : (N_Change__supporters).Nodup := sc_Change__supporters.nd
  have tk : Takes (cxOf (L2.CX P w) P w b.K mg base N_Change__supporters "Change.supporters" (defScope s_Change__supporters) f cdv A outer s H E) (wOf b.ca (ccOf b E).xw) := takesB (L2.takes_of rfl rfl rfl rfl)
  skip
  exact ⟨_, (pss_one (ps_ret (pe_lc (own := [("name", 1)]) rfl nd (pi_seq (pe_callB (call_sortedA rfl) (by rfl) z_sorted (by decide +kernel) (pa_cons (pe_fld (pv 0) (by rfl)) pa_nil))) (blkOk_by (N := N_Change__supporters) (sc := defScope s_Change__supporters) (by decide +kernel)) (fun _ _ _ _ _ => (pg_name (i := 1) nd rfl (by first | exact Or.inl rfl | exact Or.inr rfl))) (fun _ _ _ _ _ => (pts_one (pt_cmpR (op_eqP hr.units) (pe_dget (Nat.lt_of_le_of_lt (Nat.add_le_add_left (by decide : 1 ≤ 64) _) hr.units) (pe_fld (pv 0) (by rfl)) (pv 1) (fun _ _ => rfl)) pe_int (nomark _)))) (fun _ _ _ _ _ => (pv 1))))),
    (ss_ret (se_lc (vs := [1]) (si_items (se_ownD own_sorted (sa_cons (se_fld fl_Change_votes (se_var (i := 0))) sa_nil))) (sg_name (i := 1)) (gw_name (by decide)) (st_test (se_op rop_eq (se_dget (se_fld fl_Change_votes (se_var (i := 0))) (se_var (i := 1))) (se_c fun _ => .int _))) (se_var (i := 1))))⟩
abbrev s_lacks : Stmt := top 11
abbrev N_lacks : List Str := ["change", "rules", "paths", "words", "supporters", "backers", "path", "owners"]
theorem sc_lacks : FnScope N_lacks ["change", "rules", "paths"] (defScope s_lacks) := ⟨rfl, rfl, rfl, by decide +kernel, rfl, by decide +kernel, by decide +kernel⟩
noncomputable def m_lacks_b1 : MS :=
  (mSeq (mAsg (mMethO "Rules" "owners_of" F_Rules__owners_of (rd 1) (mArg (rd 6) (ret []))) (setD 7))
    (mIf (mAnd (mTruA (rd 7)) (mNot (mTruA (mAnyL (mSeqS (rd 5)) (fIn 7)))))
    (mDrop (mMeth mdAppend (rd 3) (mArg (mOp dAdd (ret (.str "owner ")) (rd 6)) (ret []))))
    mNext))
noncomputable def m_lacks : MS :=
  (mSeq (mAsg (mLstC (ret [])) (setD 3))
    (mSeq (mAsg (mMethO "Change" "supporters" F_Change__supporters (rd 0) (ret [])) (setD 4))
    (mSeq (mIf (mTest (mOp dLt (mCb dLenA (mArg (rd 4) (ret []))) (mUnK (fldOf "Rules" "needed") (rd 1))))
    (mDrop (mMeth mdAppend (rd 3) (mArg (ret (.str "votes")) (ret []))))
    mNext)
    (mSeq (mIf (mTest (mOp (inD false) (mUn dNeg (ret (.int 1))) (mValsL (mUnK (fldOf "Change" "votes") (rd 0)))))
    (mDrop (mMeth mdAppend (rd 3) (mArg (ret (.str "against")) (ret []))))
    mNext)
    (mSeq (mIf (mTruA (mAnyL (mSeqS (mUnK (fldOf "Change" "remarks") (rd 0))) fLast))
    (mDrop (mMeth mdAppend (rd 3) (mArg (ret (.str "remarks")) (ret []))))
    mNext)
    (mSeq (mAsg (mLstD (mArg (mUnK (fldOf "Change" "author") (rd 0)) (mStar (rd 4) (ret [])))) (setD 5))
    (mSeq (mForI (mItems (rd 2)) (setD 6)
    m_lacks_b1)
    (mRet (mCb dTuple (mArg (rd 3) (ret [])))))))))))
noncomputable def F_lacks : FF := runF .pure 8 m_lacks
theorem ok_lacks {f : Addr} {fd : FuncData} (F : FunA b.K "lacks" "lacks" s_lacks f fd) (z_any : mg "any" = none) (z_len : mg "len" = none) (z_list : mg "list" = none) (z_tuple : mg "tuple" = none) (fl_Change_author : Fld b "Change" "author") (fl_Change_remarks : Fld b "Change" "remarks") (fl_Change_votes : Fld b "Change" "votes") (fl_Rules_needed : Fld b "Rules" "needed") {f_Change__supporters : Addr} {fd_Change__supporters : FuncData} (C_Change__supporters : CalM P w b mg base "Change" "supporters" 1 ["self"] F_Change__supporters f_Change__supporters fd_Change__supporters) {f_Rules__owners_of : Addr} {fd_Rules__owners_of : FuncData} (C_Rules__owners_of : CalM P w b mg base "Rules" "owners_of" 2 ["self", "path"] F_Rules__owners_of f_Rules__owners_of fd_Rules__owners_of) {cc PG : Addr} (kc : fd.code = .ref cc) (TBg : GxR.TabB base mg cc PG) (hPG : PG ∈ b.tb.GT) (hLG : ∀ q ∈ b.tb.LT, q.1 ≠ PG) :
    FnOk P w b.K mg base (L2.CX P w) 3 f fd ["change", "rules", "paths"] (spG b 3 F_lacks) := by
  refine fn_phC (N := N_lacks) (k := 2) F sc_lacks fun cdv A outer s H E kcv hr => ?_
  have nd : (N_lacks).Nodup := sc_lacks.nd
  have tk : Takes (cxOf (L2.CX P w) P w b.K mg base N_lacks "lacks" (defScope s_lacks) f cdv A outer s H E) (wOf b.ca (ccOf b E).xw) := takesB (L2.takes_of rfl rfl rfl rfl)
  have hcode : (cxOf (L2.CX P w) P w b.K mg base N_lacks "lacks" (defScope s_lacks) f cdv A outer s H E).env.code = .ref cc := kcv.symm.trans kc
  exact ⟨_, (pss_cons (ps_set (i := 3) nd rfl (by first | exact Or.inl rfl | exact Or.inr rfl) (pe_lst pa_nil))
    (pss_cons (ps_set (i := 4) nd rfl (by first | exact Or.inl rfl | exact Or.inr rfl) (pe_methSD0 (pv 0) C_Change__supporters.cl C_Change__supporters.me C_Change__supporters.ok (hr.mono (by decide)) C_Change__supporters.b .nil (fun σ => passAt tk σ)))
    (pss_cons (ps_if (pt_cmpR op_lt (pe_callB call_lenA (by rfl) z_len PySem.boot_len (pa_cons (pv 4) pa_nil)) (pe_fld (pv 1) (by rfl)) (nomark _))
    (pss_one (ps_expr (pe_bm PySem.F.plainAttrs_list PySem.F.slot_list_append PySem.F.type_list_append mt_append (pv 3) (pa_cons pe_str pa_nil))))
    pss_nil)
    (pss_cons (ps_if (pt_cmpR op_in_seq (pe_un un_neg pe_int) (pe_listValues rfl (pe_fld (pv 0) (by rfl)) (by rfl) z_list (by decide +kernel)) (by rfl))
    (pss_one (ps_expr (pe_bm PySem.F.plainAttrs_list PySem.F.slot_list_append PySem.F.type_list_append mt_append (pv 3) (pa_cons pe_str pa_nil))))
    pss_nil)
    (pss_cons (ps_if (pt_truA (PHX.pe_anyL hr (by rfl) z_any TBg hcode (PHX.genS0_by (sc := defScope s_lacks) (by decide +kernel)) (PHX.psrc_seq (pe_fld (pv 0) (by rfl))) (PHX.elt_last (PHX.genS0_by (sc := defScope s_lacks) (by decide +kernel))) (fun _ => rfl)) (by intro _; rfl))
    (pss_one (ps_expr (pe_bm PySem.F.plainAttrs_list PySem.F.slot_list_append PySem.F.type_list_append mt_append (pv 3) (pa_cons pe_str pa_nil))))
    pss_nil)
    (pss_cons (ps_set (i := 5) nd rfl (by first | exact Or.inl rfl | exact Or.inr rfl) (pe_lst (pa_cons (pe_fld (pv 0) (by rfl)) (StX.pa_star (pv 4) pa_nil))))
    (pss_cons (ps_for PassesOwn.leaving rfl (pi_seq (pv 2)) (pg_name (i := 6) nd rfl (by first | exact Or.inl rfl | exact Or.inr rfl))
    (pss_cons (ps_set (i := 7) nd rfl (by first | exact Or.inl rfl | exact Or.inr rfl) (pe_methSD (pv 1) C_Rules__owners_of.cl C_Rules__owners_of.me C_Rules__owners_of.ok (hr.mono (by decide)) C_Rules__owners_of.b .nil (fun σ => passAt tk σ) (pa_cons (pv 6) pa_nil)))
    (pss_one (ps_if (PW.pt (pw_and (pt_truA (pv 7) (by intro _; rfl)) (pw_and1 (pt_not (pt_truA (PHX.pe_anyL hr (by rfl) z_any TBg hcode (PHX.genS0_by (sc := defScope s_lacks) (by decide +kernel)) (PHX.psrc_seq (pv 5)) (PHX.elt_in (i := 7) (PHX.genS0_by (sc := defScope s_lacks) (by decide +kernel)) (by rfl) (by first | exact Or.inl rfl | exact Or.inr rfl) (by decide +kernel) (by rfl)) (fun _ => rfl)) (by intro _; rfl))))))
    (pss_one (ps_expr (pe_bm PySem.F.plainAttrs_list PySem.F.slot_list_append PySem.F.type_list_append mt_append (pv 3) (pa_cons (pe_op op_addAll pe_str (pv 6)) pa_nil))))
    pss_nil))))
    (pss_one (ps_ret (pe_callTy call_tuple_of (by rfl) z_tuple (by decide +kernel) (pa_cons (pv 3) pa_nil))))))))))),
    (ss_seq (ss_asg (se_lstC sa_nil) (sg_name (i := 3)))
    (ss_seq (ss_asg (se_methO (n := 0) (se_var (i := 0)) sa_nil ln_nil) (sg_name (i := 4)))
    (ss_seq (ss_if (st_test (se_op rop_lt (se_cb rca_lenA (sa_cons (se_var (i := 4)) sa_nil)) (se_fld fl_Rules_needed (se_var (i := 1)))))
    (ss_drop (se_meth rme_append (se_var (i := 3)) (sa_cons (se_c fun _ => .str _) sa_nil)))
    ss_next)
    (ss_seq (ss_if (st_test (se_op rop_in (se_un run_neg (se_c fun _ => .int _)) (se_valsL (se_fld fl_Change_votes (se_var (i := 0))))))
    (ss_drop (se_meth rme_append (se_var (i := 3)) (sa_cons (se_c fun _ => .str _) sa_nil)))
    ss_next)
    (ss_seq (ss_if (st_truA (se_anyL hPG hLG (sx_seqS hPG (se_fld fl_Change_remarks (se_var (i := 0)))) selt_last))
    (ss_drop (se_meth rme_append (se_var (i := 3)) (sa_cons (se_c fun _ => .str _) sa_nil)))
    ss_next)
    (ss_seq (ss_asg (se_lst (sa_cons (se_fld fl_Change_author (se_var (i := 0))) (sa_star (se_var (i := 4)) sa_nil))) (sg_name (i := 5)))
    (ss_seq (ss_forI (si_items (se_var (i := 2))) (sg_name (i := 6))
    (ss_seq (ss_asg (se_methO (n := 1) (se_var (i := 1)) (sa_cons (se_var (i := 6)) sa_nil) (ln_cons ln_nil)) (sg_name (i := 7)))
    (ss_if (st_and (st_truA (se_var (i := 7))) (st_not (st_truA (se_anyL hPG hLG (sx_seqS hPG (se_var (i := 5))) (selt_in (i := 7))))))
    (ss_drop (se_meth rme_append (se_var (i := 3)) (sa_cons (se_op rop_add (se_c fun _ => .str _) (se_var (i := 6))) sa_nil)))
    ss_next)))
    (ss_ret (se_cb rca_tuple (sa_cons (se_var (i := 3)) sa_nil))))))))))⟩
abbrev s__law_dice : Stmt := top 13
abbrev N__law_dice : List Str := ["cell"]
theorem sc__law_dice : FnScope N__law_dice ["cell"] (defScope s__law_dice) := ⟨rfl, rfl, rfl, by decide +kernel, rfl, by decide +kernel, by decide +kernel⟩
noncomputable def m__law_dice : MS :=
  (mSeq (mIf (mTest (mChain dLt dLt (mOp dSub (ret (.int 0)) (ret (.int 10))) (rd 0) (ret (.int 10))))
    (mRet (mLstD (mArg (mCb dAbs (mArg (rd 0) (ret []))) (mArg (ret (.int 0)) (mArg (ret (.int 2)) (ret []))))))
    mNext)
    (mRet (mLstD (mArg (rd 0) (mArg (mOp dAdd (ret (.int 1)) (mOp dMod (mCb dIntOf (mArg (rd 0) (ret []))) (ret (.int 1009)))) (mArg (mCb dIntOf (mArg (mOp dGe (rd 0) (mOp dPow (ret (.int 10)) (ret (.int 18)))) (ret []))) (ret [])))))))
noncomputable def F__law_dice : FF := runF .pure 1 m__law_dice
theorem ok__law_dice {f : Addr} {fd : FuncData} (F : FunA b.K "_law_dice" "_law_dice" s__law_dice f fd) (z_abs : mg "abs" = none) (z_int : mg "int" = none) :
    FnOk P w b.K mg base (L2.CX P w) 1 f fd ["cell"] (spG b 1 F__law_dice) := by
  refine fn_ph (N := N__law_dice) (k := 0) F sc__law_dice fun cdv A outer s H E hr => ?_
  have nd : (N__law_dice).Nodup := sc__law_dice.nd
  have tk : Takes (cxOf (L2.CX P w) P w b.K mg base N__law_dice "_law_dice" (defScope s__law_dice) f cdv A outer s H E) (wOf b.ca (ccOf b E).xw) := takesB (L2.takes_of rfl rfl rfl rfl)
  skip
  exact ⟨_, (pss_cons (ps_if (pt_chain op_lt op_lt (pe_op op_sub pe_int pe_int) (pv 0) pe_int)
    (pss_one (ps_ret (pe_lst (pa_cons (pe_callB call_abs (by rfl) z_abs (by decide +kernel) (pa_cons (pv 0) pa_nil)) (pa_cons pe_int (pa_cons pe_int pa_nil))))))
    pss_nil)
    (pss_one (ps_ret (pe_lst (pa_cons (pv 0) (pa_cons (pe_op op_addAll pe_int (pe_op op_modN (pe_callTy call_intAll (by rfl) z_int (by decide +kernel) (pa_cons (pv 0) pa_nil)) pe_int)) (pa_cons (pe_callTy call_intAll (by rfl) z_int (by decide +kernel) (pa_cons (pe_cmpR op_ge (pv 0) (pe_op op_pow pe_int pe_int) (nomark _)) pa_nil)) pa_nil))))))),
    (ss_seq (ss_if (st_test (se_chain rop_lt rop_lt (se_op rop_sub (se_c fun _ => .int _) (se_c fun _ => .int _)) (se_var (i := 0)) (se_c fun _ => .int _)))
    (ss_ret (se_lst (sa_cons (se_cb rca_abs (sa_cons (se_var (i := 0)) sa_nil)) (sa_cons (se_c fun _ => .int _) (sa_cons (se_c fun _ => .int _) sa_nil)))))
    ss_next)
    (ss_ret (se_lst (sa_cons (se_var (i := 0)) (sa_cons (se_op rop_add (se_c fun _ => .int _) (se_op rop_mod (se_cb rca_int (sa_cons (se_var (i := 0)) sa_nil)) (se_c fun _ => .int _))) (sa_cons (se_cb rca_int (sa_cons (se_op rop_ge (se_var (i := 0)) (se_op rop_pow (se_c fun _ => .int _) (se_c fun _ => .int _))) sa_nil)) sa_nil))))))⟩
abbrev s__law_roll : Stmt := top 14
abbrev N__law_roll : List Str := ["dice", "many", "found"]
theorem sc__law_roll : FnScope N__law_roll ["dice", "many"] (defScope s__law_roll) := ⟨rfl, rfl, rfl, by decide +kernel, rfl, by decide +kernel, by decide +kernel⟩
noncomputable def m__law_roll : MS :=
  (mSeq (mIf (mOr (mTest (mOp dEq (mOp dIx (rd 0) (ret (.int 2))) (ret (.int 2)))) (mAnd (mTest (mOp dEq (mOp dIx (rd 0) (ret (.int 2))) (ret (.int 1)))) (mTest (mOp dGt (mOp dIx (rd 0) (ret (.int 0))) (ret (.int 0))))))
    (mSeq (mAsg (mOp dMod (mCb dIntOf (mArg (mOp dIx (rd 0) (ret (.int 0))) (ret []))) (rd 1)) (setD 2))
    (mSeq (mSetAt (mOp dDiv (mOp dIx (rd 0) (ret (.int 0))) (rd 1)) (rd 0) (ret (.int 0)))
    (mRet (rd 2))))
    mNext)
    (mSeq (mSetAt (ret (.int 0)) (rd 0) (ret (.int 2)))
    (mSeq (mIf (mTest (mOp dGt (rd 1) (ret (.int 100000000))))
    mNever
    mNext)
    (mSeq (mSetAt (mOp dMod (mCb dIntOf (mArg (mOp dAdd (mOp dAdd (mOp dMul (mOp dIx (rd 0) (ret (.int 0))) (ret (.int 48271))) (mOp dMul (mOp dIx (rd 0) (ret (.int 1))) (ret (.int 69621)))) (ret (.int 11))) (ret []))) (ret (.int 2147483647))) (rd 0) (ret (.int 0)))
    (mSeq (mSetAt (mOp dAdd (mOp dIx (rd 0) (ret (.int 1))) (ret (.int 1))) (rd 0) (ret (.int 1)))
    (mRet (mOp dMod (mCb dIntOf (mArg (mOp dDiv (mOp dIx (rd 0) (ret (.int 0))) (ret (.int 7))) (ret []))) (rd 1))))))))
noncomputable def F__law_roll : FF := runF .keep 3 m__law_roll
theorem ok__law_roll {f : Addr} {fd : FuncData} (F : FunA b.K "_law_roll" "_law_roll" s__law_roll f fd) (z_int : mg "int" = none) :
    FnOk P w b.K mg base (L2.CX P w) 1 f fd ["dice", "many"] (spG b 2 F__law_roll) := by
  refine fn_ph (N := N__law_roll) (k := 0) F sc__law_roll fun cdv A outer s H E hr => ?_
  have nd : (N__law_roll).Nodup := sc__law_roll.nd
  have tk : Takes (cxOf (L2.CX P w) P w b.K mg base N__law_roll "_law_roll" (defScope s__law_roll) f cdv A outer s H E) (wOf b.ca (ccOf b E).xw) := takesB (L2.takes_of rfl rfl rfl rfl)
  skip
  exact ⟨_, (pss_cons (ps_if (PW.pt (pw_or (pt_cmpR (op_eqP hr.units) (pe_ix ix_seq (pv 0) pe_int (fun _ _ => rfl)) pe_int (nomark _)) (pw_or1 (PW.pt (pw_and (pt_cmpR (op_eqP hr.units) (pe_ix ix_seq (pv 0) pe_int (fun _ _ => rfl)) pe_int (nomark _)) (pw_and1 (pt_cmpR op_gt (pe_ix ix_seq (pv 0) pe_int (fun _ _ => rfl)) pe_int (nomark _))))))))
    (pss_cons (ps_set (i := 2) nd rfl (by first | exact Or.inl rfl | exact Or.inr rfl) (pe_op op_modN (pe_callTy call_intAll (by rfl) z_int (by decide +kernel) (pa_cons (pe_ix ix_seq (pv 0) pe_int (fun _ _ => rfl)) pa_nil)) (pv 1)))
    (pss_cons (ps_asg (pe_op op_fdiv (pe_ix ix_seq (pv 0) pe_int (fun _ _ => rfl)) (pv 1)) (pg_sub (pv 0) pe_int set_list))
    (pss_one (ps_ret (pv 2)))))
    pss_nil)
    (pss_cons (ps_asg pe_int (pg_sub (pv 0) pe_int set_list))
    (pss_cons (ps_if (pt_cmpR op_gt (pv 1) pe_int (nomark _))
    pss_never
    pss_nil)
    (pss_cons (ps_asg (pe_op op_modN (pe_callTy call_intAll (by rfl) z_int (by decide +kernel) (pa_cons (pe_op op_addAll (pe_op op_addAll (pe_op op_mulAll (pe_ix ix_seq (pv 0) pe_int (fun _ _ => rfl)) pe_int) (pe_op op_mulAll (pe_ix ix_seq (pv 0) pe_int (fun _ _ => rfl)) pe_int)) pe_int) pa_nil)) pe_int) (pg_sub (pv 0) pe_int set_list))
    (pss_cons (ps_asg (pe_op op_addAll (pe_ix ix_seq (pv 0) pe_int (fun _ _ => rfl)) pe_int) (pg_sub (pv 0) pe_int set_list))
    (pss_one (ps_ret (pe_op op_modN (pe_callTy call_intAll (by rfl) z_int (by decide +kernel) (pa_cons (pe_op op_fdiv (pe_ix ix_seq (pv 0) pe_int (fun _ _ => rfl)) pe_int) pa_nil)) (pv 1))))))))),
    (ss_seq (ss_if (st_or (st_test (se_op rop_eq (se_op rop_ix (se_var (i := 0)) (se_c fun _ => .int _)) (se_c fun _ => .int _))) (st_and (st_test (se_op rop_eq (se_op rop_ix (se_var (i := 0)) (se_c fun _ => .int _)) (se_c fun _ => .int _))) (st_test (se_op rop_gt (se_op rop_ix (se_var (i := 0)) (se_c fun _ => .int _)) (se_c fun _ => .int _)))))
    (ss_seq (ss_asg (se_op rop_mod (se_cb rca_int (sa_cons (se_op rop_ix (se_var (i := 0)) (se_c fun _ => .int _)) sa_nil)) (se_var (i := 1))) (sg_name (i := 2)))
    (ss_seq (ss_setAt (se_op rop_div (se_op rop_ix (se_var (i := 0)) (se_c fun _ => .int _)) (se_var (i := 1))) (se_var (i := 0)) (se_c fun _ => .int _))
    (ss_ret (se_var (i := 2)))))
    ss_next)
    (ss_seq (ss_setAt (se_c fun _ => .int _) (se_var (i := 0)) (se_c fun _ => .int _))
    (ss_seq (ss_if (st_test (se_op rop_gt (se_var (i := 1)) (se_c fun _ => .int _)))
    ss_never
    ss_next)
    (ss_seq (ss_setAt (se_op rop_mod (se_cb rca_int (sa_cons (se_op rop_add (se_op rop_add (se_op rop_mul (se_op rop_ix (se_var (i := 0)) (se_c fun _ => .int _)) (se_c fun _ => .int _)) (se_op rop_mul (se_op rop_ix (se_var (i := 0)) (se_c fun _ => .int _)) (se_c fun _ => .int _))) (se_c fun _ => .int _)) sa_nil)) (se_c fun _ => .int _)) (se_var (i := 0)) (se_c fun _ => .int _))
    (ss_seq (ss_setAt (se_op rop_add (se_op rop_ix (se_var (i := 0)) (se_c fun _ => .int _)) (se_c fun _ => .int _)) (se_var (i := 0)) (se_c fun _ => .int _))
    (ss_ret (se_op rop_mod (se_cb rca_int (sa_cons (se_op rop_div (se_op rop_ix (se_var (i := 0)) (se_c fun _ => .int _)) (se_c fun _ => .int _)) sa_nil)) (se_var (i := 1)))))))))⟩
abbrev s__law_rounds : Stmt := top 15
abbrev N__law_rounds : List Str := ["script", "most", "cells", "cell"]
theorem sc__law_rounds : FnScope N__law_rounds ["script", "most"] (defScope s__law_rounds) := ⟨rfl, rfl, rfl, by decide +kernel, rfl, by decide +kernel, by decide +kernel⟩
noncomputable def m__law_rounds_e1 : MM D :=
  (mCall F__law_dice (mArg (rd 3) (ret [])))
noncomputable def m__law_rounds : MS :=
  (mSeq (mAsg (mSl (rd 0) (ret none) (mPart (rd 1))) (setD 2))
    (mSeq (mIf (mTest (mOp dEq (rd 2) (mLstD (ret []))))
    (mAsg (mLstD (mArg (ret (.int 0)) (ret []))) (setD 2))
    mNext)
    (mRet (mLcD (mItems (rd 2)) [3] (setD 3) (ret true) m__law_rounds_e1))))
noncomputable def F__law_rounds : FF := runF .pure 4 m__law_rounds
theorem ok__law_rounds {f : Addr} {fd : FuncData} (F : FunA b.K "_law_rounds" "_law_rounds" s__law_rounds f fd) {f__law_dice : Addr} {fd__law_dice : FuncData} (C__law_dice : Cal P w b mg base "_law_dice" 1 ["cell"] F__law_dice f__law_dice fd__law_dice) :
    FnOk P w b.K mg base (L2.CX P w) 2 f fd ["script", "most"] (spG b 2 F__law_rounds) := by
  refine fn_ph (N := N__law_rounds) (k := 1) F sc__law_rounds fun cdv A outer s H E hr => ?_
  have nd : (N__law_rounds).Nodup := sc__law_rounds.nd
  have tk : Takes (cxOf (L2.CX P w) P w b.K mg base N__law_rounds "_law_rounds" (defScope s__law_rounds) f cdv A outer s H E) (wOf b.ca (ccOf b E).xw) := takesB (L2.takes_of rfl rfl rfl rfl)
  skip
  exact ⟨_, (pss_cons (ps_set (i := 2) nd rfl (by first | exact Or.inl rfl | exact Or.inr rfl) (pe_slice sl_all (pv 0) po_none (po_some (pv 1))))
    (pss_cons (ps_if (pt_cmpR (op_eqP hr.units) (pv 2) (pe_lst pa_nil) (nomark _))
    (pss_one (ps_set (i := 2) nd rfl (by first | exact Or.inl rfl | exact Or.inr rfl) (pe_lst (pa_cons pe_int pa_nil))))
    pss_nil)
    (pss_one (ps_ret (pe_lc (own := [("cell", 3)]) rfl nd (pi_seq (pv 2)) (blkOk_by (N := N__law_rounds) (sc := defScope s__law_rounds) (by decide +kernel)) (fun _ _ _ _ _ => (pg_name (i := 3) nd rfl (by first | exact Or.inl rfl | exact Or.inr rfl))) (fun _ _ _ _ _ => pts_nil) (fun _ _ _ _ _ => (pe_callSD C__law_dice.ok (hr.mono (by decide)) rfl C__law_dice.g C__law_dice.kp C__law_dice.b .nil (fun σ => passAt takesQ σ) (pa_cons (pv 3) pa_nil)))))))),
    (ss_seq (ss_asg (se_sl (se_var (i := 0)) so_none (so_some (se_var (i := 1)))) (sg_name (i := 2)))
    (ss_seq (ss_if (st_test (se_op rop_eq (se_var (i := 2)) (se_lst sa_nil)))
    (ss_asg (se_lst (sa_cons (se_c fun _ => .int _) sa_nil)) (sg_name (i := 2)))
    ss_next)
    (ss_ret (se_lc (vs := [3]) (si_items (se_var (i := 2))) (sg_name (i := 3)) (gw_name (by decide)) st_yes (se_call (sa_cons (se_var (i := 3)) sa_nil) (ln_cons ln_nil))))))⟩
end
end K08
end
section
set_option maxHeartbeats 0
/-! PDM: how mirrors are computed. -/
namespace PH
open PySem L2
theorem eqD_int (i j : Int) : eqD (.int i) (.int j) = some (decide (i = j)) := by
  unfold eqD
  rw [if_pos ⟨rfl, rfl, by simp [toP, PyData.depth]⟩]
  show some (i == j) = _
  congr 1
theorem eqD_str (x y : Str) : eqD (.str x) (.str y) = some (decide (x = y)) := by
  unfold eqD
  rw [if_pos ⟨rfl, rfl, by simp [toP, PyData.depth]⟩]
  show some (x == y) = _
  congr 1
theorem atI_n {α : Type} (xs : List α) (n : Nat) : atI xs (n : Int) = xs[n]? := by
  unfold atI ixN
  rw [if_pos (by omega)]
  by_cases h : n < xs.length
  · rw [if_pos (by omega)]
    rfl
  · rw [if_neg (by omega), List.getElem?_eq_none (by omega)]
    rfl
theorem atI_succ {α : Type} (xs : List α) (n : Nat) : atI xs ((n : Int) + 1) = xs[n + 1]? := atI_n xs (n + 1)
theorem atI_0 {α : Type} (xs : List α) : atI xs 0 = xs[0]? := atI_n xs 0
theorem atI_1 {α : Type} (xs : List α) : atI xs 1 = xs[1]? := atI_n xs 1
theorem atI_2 {α : Type} (xs : List α) : atI xs 2 = xs[2]? := atI_n xs 2
theorem atI_neg1 {α : Type} (xs : List α) (a : α) : atI (xs ++ [a]) (-1) = some a := by
  unfold atI ixN
  rw [if_neg (by omega), if_pos (by simp; omega)]
  have : ((-1 : Int) + ((xs ++ [a]).length : Nat)).toNat = xs.length := by simp; omega
  rw [this]
  simp
theorem mulOk_r {i j : Int} (h1 : -(2 ^ 64) < j) (h2 : j < 2 ^ 64) : mulOk i j = true := by
  unfold mulOk
  rw [decide_eq_true h1, decide_eq_true h2]
  simp
theorem mulOk_a (i : Int) : mulOk i 48271 = true := mulOk_r (by decide) (by decide)
theorem mulOk_b (i : Int) : mulOk i 69621 = true := mulOk_r (by decide) (by decide)
theorem ixN30 : ixN 3 0 = some 0 := rfl
theorem ixN31 : ixN 3 1 = some 1 := rfl
theorem ixN32 : ixN 3 2 = some 2 := rfl
theorem ixN_k {n k : Nat} (h : k < n) : ixN n (k : Int) = some k := by
  unfold ixN
  rw [if_pos (by omega), if_pos (by omega)]
  rfl
/-! ### equality of plain data -/
mutual
def flat : Nat → D → Bool
  | _, .non => true
  | _, .bl _ => true
  | _, .int _ => true
  | _, .str _ => true
  | 0, .tup xs => xs.isEmpty
  | 0, .lst xs => xs.isEmpty
  | n + 1, .tup xs => flats n xs
  | n + 1, .lst xs => flats n xs
  | _, _ => false
def flats : Nat → List D → Bool
  | _, [] => true
  | n, x :: xs => flat n x && flats n xs
end
theorem flats_all {n : Nat} {xs : List D} : flats n xs = xs.all (flat n) := by
  induction xs with
  | nil => simp [flats]
  | cons x xs ih => simp [flats, ih]
mutual
theorem flat_ok : ∀ (d : D) (n : Nat), flat n d = true → (toP d).plain = true ∧ (toP d).depth ≤ n + 1
  | .non, n, _ => by simp [toP, PyData.plain, PyData.depth]
  | .bl _, n, _ => by simp [toP, PyData.plain, PyData.depth]
  | .int _, n, _ => by simp [toP, PyData.plain, PyData.depth]
  | .str _, n, _ => by simp [toP, PyData.plain, PyData.depth]
  | .tup xs, 0, h => by
    cases xs with
    | nil => simp [toP, toPs, PyData.plain, PyData.plainAll, PyData.depth, PyData.depthAll]
    | cons => simp [flat] at h
  | .lst xs, 0, h => by
    cases xs with
    | nil => simp [toP, toPs, PyData.plain, PyData.plainAll, PyData.depth, PyData.depthAll]
    | cons => simp [flat] at h
  | .tup xs, n + 1, h => by
    have z := flats_ok xs n (by simpa [flat] using h)
    simp only [toP, PyData.plain, PyData.depth]
    exact ⟨z.1, by omega⟩
  | .lst xs, n + 1, h => by
    have z := flats_ok xs n (by simpa [flat] using h)
    simp only [toP, PyData.plain, PyData.depth]
    exact ⟨z.1, by omega⟩
  | .dct _, n, h => by simp [flat] at h
  | .frz _, n, h => by simp [flat] at h
  | .ref _, n, h => by simp [flat] at h
theorem flats_ok : ∀ (ds : List D) (n : Nat), flats n ds = true → PyData.plainAll (toPs ds) = true ∧ PyData.depthAll (toPs ds) ≤ n + 1
  | [], n, _ => by simp [toPs, PyData.plainAll, PyData.depthAll]
  | d :: ds, n, h => by
    simp only [flats, Bool.and_eq_true] at h
    have z1 := flat_ok d n h.1
    have z2 := flats_ok ds n h.2
    simp only [toPs, PyData.plainAll, PyData.depthAll, z1.1, z2.1, Bool.and_self, true_and]
    omega
end
theorem eqD_refl {d : D} {n : Nat} (h : flat n d = true) (hn : n ≤ 63) : eqD d d = some true := by
  obtain ⟨h1, h2⟩ := flat_ok d n h
  unfold eqD
  rw [if_pos ⟨h1, h1, by omega⟩, PySem.SeqAt.eqv_refl_plain _ h1]
theorem eqD_some {a b : D} {n m : Nat} (h : flat n a = true) (k : flat m b = true) (hn : n ≤ 63) : ∃ x, eqD a b = some x := by
  obtain ⟨h1, h2⟩ := flat_ok a n h
  obtain ⟨k1, k2⟩ := flat_ok b m k
  unfold eqD
  exact ⟨_, if_pos ⟨h1, k1, by omega⟩⟩
/-! ### loops, steps -/
theorem mIf_t {t : MM Bool} {m n : MS} {ρ ρ' : St} (h : t ρ = some (.ok true ρ')) : mIf t m n ρ = m ρ' := by
  unfold mIf mE
  rw [h]
  rfl
theorem mIf_f {t : MM Bool} {m n : MS} {ρ ρ' : St} (h : t ρ = some (.ok false ρ')) : mIf t m n ρ = n ρ' := by
  unfold mIf mE
  rw [h]
  rfl
theorem loopK_nil {k : KC} {g : D → St → Option St} {b : MS} {ρ : St} (hk : kOk k ρ.c) : loopK k g b [] ρ = some (.nx ρ) := by
  unfold loopK
  exact if_pos hk
theorem loopK_nx {k : KC} {g : D → St → Option St} {b : MS} {d : D} {ds : List D} {ρ ρ1 ρ2 : St} (hk : kOk k ρ.c) (h1 : g d ρ = some ρ1) (h2 : b ρ1 = some (.nx ρ2)) : loopK k g b (d :: ds) ρ = loopK k g b ds ρ2 := by
  rw [loopK, if_pos hk, h1]
  show (match b ρ1 with | some (.nx ρ2) => _ | some (.ct ρ2) => _ | some (.bk ρ2) => _ | some (.rt d ρ2) => _ | some (.er x ρ2) => _ | none => _) = _
  rw [h2]
theorem loopK_rt {k : KC} {g : D → St → Option St} {b : MS} {d r : D} {ds : List D} {ρ ρ1 ρ2 : St} (hk : kOk k ρ.c) (h1 : g d ρ = some ρ1) (h2 : b ρ1 = some (.rt r ρ2)) : loopK k g b (d :: ds) ρ = some (.rt r ρ2) := by
  rw [loopK, if_pos hk, h1]
  show (match b ρ1 with | some (.nx ρ2) => _ | some (.ct ρ2) => _ | some (.bk ρ2) => _ | some (.rt d ρ2) => _ | some (.er x ρ2) => _ | none => _) = _
  rw [h2]
theorem compK_nil {k : KC} {g : D → St → Option St} {t : MM Bool} {e : MM D} {ew : List Loc} {acc : List D} {κ : List Cell} (hk : kOk k κ) : compK k g t e ew [] acc κ = some (acc, κ) := by
  unfold compK
  exact if_pos hk
theorem compK_yes {k : KC} {g : D → St → Option St} {t : MM Bool} {e : MM D} {ew : List Loc} {d y : D} {ds acc : List D} {κ : List Cell} {ρ1 ρ2 ρ3 : St} (hk : kOk k κ) (h1 : g d ⟨ew, κ⟩ = some ρ1) (h2 : t ρ1 = some (.ok true ρ2)) (h3 : e ρ2 = some (.ok y ρ3)) (h4 : acc.length < cap) :
    compK k g t e ew (d :: ds) acc κ = compK k g t e ew ds (acc ++ [y]) ρ3.c := by
  rw [compK, if_pos hk, h1]
  show (match t ρ1 with | some (.ok true ρ2) => _ | some (.ok false ρ2) => _ | _ => _) = _
  rw [h2]
  show (match e ρ2 with | some (.ok y ρ3) => _ | _ => _) = _
  rw [h3]
  exact if_pos h4
theorem compK_no {k : KC} {g : D → St → Option St} {t : MM Bool} {e : MM D} {ew : List Loc} {d : D} {ds acc : List D} {κ : List Cell} {ρ1 ρ2 : St} (hk : kOk k κ) (h1 : g d ⟨ew, κ⟩ = some ρ1) (h2 : t ρ1 = some (.ok false ρ2)) :
    compK k g t e ew (d :: ds) acc κ = compK k g t e ew ds acc ρ2.c := by
  rw [compK, if_pos hk, h1]
  show (match t ρ1 with | some (.ok true ρ2) => _ | some (.ok false ρ2) => _ | _ => _) = _
  rw [h2]
end PH
end
section
set_option maxHeartbeats 0
namespace K08
open PySem PySem.Spec PyProof.Rows L2 PH
/-! the dice -/
def dc (a b s : Int) : Cell := .lst [.int a, .int b, .int s]
theorem fmod_lt {a m : Int} (h : 0 < m) : 0 ≤ a.fmod m ∧ a.fmod m < m := ⟨Int.fmod_nonneg_of_pos a h, Int.fmod_lt_of_pos a h⟩
theorem roll {many : Int} (h : 0 < many) (h2 : many ≤ 1000) (a b s : Int) (κ : List Cell) : ∃ r a' b' s', 0 ≤ r ∧ r < many ∧ F__law_roll [.ref 0, .int many] (dc a b s :: κ) = some (.ok (.int r) (dc a' b' s' :: κ)) := by
  have hm : (many != 0) = true := by simp; omega
  have hd : (decide (0 < many) && decide (many < 1073741824)) = true := by
    rw [decide_eq_true h, decide_eq_true (by omega)]; rfl
  have hz : ((2147483647 : Int) != 0) = true := by decide
  have h7 : (decide ((0 : Int) < 7) && decide ((7 : Int) < 1073741824)) = true := by decide
  have hg : decide (100000000 < many) = false := decide_eq_false (by omega)
  by_cases hc : s = 2 ∨ (s = 1 ∧ 0 < a)
  · refine ⟨a.fmod many, a / many, b, s, (fmod_lt h).1, (fmod_lt h).2, ?_⟩
    rcases hc with hc | ⟨hc, ha⟩
    · subst hc
      simp only [F__law_roll, m__law_roll, dc, mSeq, mE, mIf, mRet, mAsg, mDrop, mAug, mPar, mPar3, mNext, mBreak, mCont, setD, setCons, setTup, setNil, St.put, St.setc, St.add, newC, mOp, mOpK, mUn, mUnK, mCb, mCbK, mCbD, mCbC, mArg, mTest, mTru, mTruA, mAnd, mOr, mNot, mIfE, mChain, mTupD, mLstD, mLstC, mOpC, mPart, mSl, mSlC, mAndV, mOrV, mNotV, bnd, PH.ret, lft, lftK, rd, see1, asB, asI, mSetAt, setC, mMeth, mCall, runF, exitF, mTup, mLst, mRaiseE, mRaise, mTold, truA, truD, dInt, dInt2, dSub, dMod, dDiv, dLt, dLe, dGt, dGe, dNeg, dIpAdd, dLenA, dLen, dIntOf, dAbs, dMax2, dTuple, dListA, dList, dIsN, dFmt, mFmt, dStrI, dIx, dMul, dAdd, dPow, dEq, dNe, eqD_int, eqD_str, List.getElem?_cons_zero, List.getElem?_cons_succ, List.set_cons_zero, List.set_cons_succ, List.length_cons, List.length_nil, List.cons_append, List.nil_append, List.map_cons, List.map_nil, List.replicate_succ, List.replicate_zero, List.take_succ_cons, List.take_zero, if_true, if_false, ite_true, ite_false, Bool.and_true, Bool.true_and, Bool.false_eq_true, reduceIte, Option.map_some, Option.map_none, Option.bind_some, Nat.reduceAdd, Nat.reduceSub, Nat.reduceLT, Nat.reduceLeDiff, decide_true, decide_false, Bool.not_true, Bool.not_false, Bool.or_true, Bool.or_false, Bool.false_or, Bool.true_or, Int.reduceEq, eq_self, atI_0, atI_1, atI_2, mulOk_a, mulOk_b, cap, ixN30, ixN31, ixN32, hm, hd]
    · subst hc
      simp only [F__law_roll, m__law_roll, dc, mSeq, mE, mIf, mRet, mAsg, mDrop, mAug, mPar, mPar3, mNext, mBreak, mCont, setD, setCons, setTup, setNil, St.put, St.setc, St.add, newC, mOp, mOpK, mUn, mUnK, mCb, mCbK, mCbD, mCbC, mArg, mTest, mTru, mTruA, mAnd, mOr, mNot, mIfE, mChain, mTupD, mLstD, mLstC, mOpC, mPart, mSl, mSlC, mAndV, mOrV, mNotV, bnd, PH.ret, lft, lftK, rd, see1, asB, asI, mSetAt, setC, mMeth, mCall, runF, exitF, mTup, mLst, mRaiseE, mRaise, mTold, truA, truD, dInt, dInt2, dSub, dMod, dDiv, dLt, dLe, dGt, dGe, dNeg, dIpAdd, dLenA, dLen, dIntOf, dAbs, dMax2, dTuple, dListA, dList, dIsN, dFmt, mFmt, dStrI, dIx, dMul, dAdd, dPow, dEq, dNe, eqD_int, eqD_str, List.getElem?_cons_zero, List.getElem?_cons_succ, List.set_cons_zero, List.set_cons_succ, List.length_cons, List.length_nil, List.cons_append, List.nil_append, List.map_cons, List.map_nil, List.replicate_succ, List.replicate_zero, List.take_succ_cons, List.take_zero, if_true, if_false, ite_true, ite_false, Bool.and_true, Bool.true_and, Bool.false_eq_true, reduceIte, Option.map_some, Option.map_none, Option.bind_some, Nat.reduceAdd, Nat.reduceSub, Nat.reduceLT, Nat.reduceLeDiff, decide_true, decide_false, Bool.not_true, Bool.not_false, Bool.or_true, Bool.or_false, Bool.false_or, Bool.true_or, Int.reduceEq, eq_self, atI_0, atI_1, atI_2, mulOk_a, mulOk_b, cap, ixN30, ixN31, ixN32, hm, hd, decide_eq_true ha]
  · have h1 : decide (s = 2) = false := decide_eq_false fun z => hc (.inl z)
    refine ⟨(((a * 48271 + b * 69621 + 11).fmod 2147483647) / 7).fmod many, (a * 48271 + b * 69621 + 11).fmod 2147483647, b + 1, 0, (fmod_lt h).1, (fmod_lt h).2, ?_⟩
    by_cases hs : s = 1
    · have ha : decide (0 < a) = false := decide_eq_false fun z => hc (.inr ⟨hs, z⟩)
      subst hs
      simp only [F__law_roll, m__law_roll, dc, mSeq, mE, mIf, mRet, mAsg, mDrop, mAug, mPar, mPar3, mNext, mBreak, mCont, setD, setCons, setTup, setNil, St.put, St.setc, St.add, newC, mOp, mOpK, mUn, mUnK, mCb, mCbK, mCbD, mCbC, mArg, mTest, mTru, mTruA, mAnd, mOr, mNot, mIfE, mChain, mTupD, mLstD, mLstC, mOpC, mPart, mSl, mSlC, mAndV, mOrV, mNotV, bnd, PH.ret, lft, lftK, rd, see1, asB, asI, mSetAt, setC, mMeth, mCall, runF, exitF, mTup, mLst, mRaiseE, mRaise, mTold, truA, truD, dInt, dInt2, dSub, dMod, dDiv, dLt, dLe, dGt, dGe, dNeg, dIpAdd, dLenA, dLen, dIntOf, dAbs, dMax2, dTuple, dListA, dList, dIsN, dFmt, mFmt, dStrI, dIx, dMul, dAdd, dPow, dEq, dNe, eqD_int, eqD_str, List.getElem?_cons_zero, List.getElem?_cons_succ, List.set_cons_zero, List.set_cons_succ, List.length_cons, List.length_nil, List.cons_append, List.nil_append, List.map_cons, List.map_nil, List.replicate_succ, List.replicate_zero, List.take_succ_cons, List.take_zero, if_true, if_false, ite_true, ite_false, Bool.and_true, Bool.true_and, Bool.false_eq_true, reduceIte, Option.map_some, Option.map_none, Option.bind_some, Nat.reduceAdd, Nat.reduceSub, Nat.reduceLT, Nat.reduceLeDiff, decide_true, decide_false, Bool.not_true, Bool.not_false, Bool.or_true, Bool.or_false, Bool.false_or, Bool.true_or, Int.reduceEq, eq_self, atI_0, atI_1, atI_2, mulOk_a, mulOk_b, cap, ixN30, ixN31, ixN32, hm, hd, hg, ha, hz, h7]
    · simp only [F__law_roll, m__law_roll, dc, mSeq, mE, mIf, mRet, mAsg, mDrop, mAug, mPar, mPar3, mNext, mBreak, mCont, setD, setCons, setTup, setNil, St.put, St.setc, St.add, newC, mOp, mOpK, mUn, mUnK, mCb, mCbK, mCbD, mCbC, mArg, mTest, mTru, mTruA, mAnd, mOr, mNot, mIfE, mChain, mTupD, mLstD, mLstC, mOpC, mPart, mSl, mSlC, mAndV, mOrV, mNotV, bnd, PH.ret, lft, lftK, rd, see1, asB, asI, mSetAt, setC, mMeth, mCall, runF, exitF, mTup, mLst, mRaiseE, mRaise, mTold, truA, truD, dInt, dInt2, dSub, dMod, dDiv, dLt, dLe, dGt, dGe, dNeg, dIpAdd, dLenA, dLen, dIntOf, dAbs, dMax2, dTuple, dListA, dList, dIsN, dFmt, mFmt, dStrI, dIx, dMul, dAdd, dPow, dEq, dNe, eqD_int, eqD_str, List.getElem?_cons_zero, List.getElem?_cons_succ, List.set_cons_zero, List.set_cons_succ, List.length_cons, List.length_nil, List.cons_append, List.nil_append, List.map_cons, List.map_nil, List.replicate_succ, List.replicate_zero, List.take_succ_cons, List.take_zero, if_true, if_false, ite_true, ite_false, Bool.and_true, Bool.true_and, Bool.false_eq_true, reduceIte, Option.map_some, Option.map_none, Option.bind_some, Nat.reduceAdd, Nat.reduceSub, Nat.reduceLT, Nat.reduceLeDiff, decide_true, decide_false, Bool.not_true, Bool.not_false, Bool.or_true, Bool.or_false, Bool.false_or, Bool.true_or, Int.reduceEq, eq_self, atI_0, atI_1, atI_2, mulOk_a, mulOk_b, cap, ixN30, ixN31, ixN32, hm, hd, hg, h1, decide_eq_false hs, hz, h7]
end K08
end
section
set_option maxHeartbeats 0
namespace K08
open PySem PySem.Spec PyProof.Rows L2 PH
/-- a def that leaves the cells as they are and gives data -/
theorem runF_pure {N : Nat} {m : MS} {ds : List D} {κ : List Cell} {e : List PH.Loc} {d d' : D} (h : m ⟨ds.map .dat ++ List.replicate (N - ds.length) .non, κ⟩ = some (.rt d ⟨e, κ⟩)) (hf : frz κ κ.length 9 d = some d') : runF .pure N m ds κ = some (.ok d' κ) := by
  unfold runF
  rw [h]
  have e : exitF .pure κ κ d = some (d', κ) := by
    unfold exitF
    rw [if_pos List.take_length, hf]
    rfl
  show (exitF .pure κ κ d).map (fun p => FR.ok p.1 p.2) = _
  rw [e]
  rfl
theorem fo1 (κ : List Cell) : m_folders_of ⟨[.dat (.str "src/a/b"), .non], κ⟩ = some (.rt (.tup [.str "src", .str "src/a"]) ⟨[.dat (.str "src/a/b"), .dat (.lst [.str "src", .str "a", .str "b"])], κ⟩) := by
  kernel_rfl
end K08
end
section
set_option maxHeartbeats 0
namespace K08
open PySem PySem.Spec PyProof.Rows L2 PH
/-! the owners of a path -/
section
variable {κ : List Cell} {r o : Nat} {kd : List (Key × D)} {x : D} {z : Str} {os : List D} {ss : List Str} {p : Str} {fs : List Str} {l : PH.Loc}
abbrev so (r : Nat) (x : D) (l : PH.Loc) (κ : List Cell) : PH.St := ⟨[.dat (.ref r), .dat x, l], κ⟩
theorem own_no (hf : fldOf "Rules" "owners" κ (.ref r) = some (.ref o)) (hd : seeD κ (.ref o) = some kd) (hv : valD kd (.inr z) = none) : m_Rules__owners_of_b1 (so r x (.dat (.str z)) κ) = some (.nx (so r x (.dat (.str z)) κ)) := by
  simp only [m_Rules__owners_of_b1, mSeq, mE, mIf, mRet, mAsg, mDrop, mAug, mPar, mPar3, mNext, mBreak, mCont, setD, setCons, setTup, setNil, St.put, St.setc, St.add, newC, mOp, mOpK, mUn, mUnK, mCb, mCbK, mCbD, mCbC, mArg, mTest, mTru, mTruA, mAnd, mOr, mNot, mIfE, mChain, mTupD, mLstD, mLstC, mOpC, mPart, mSl, mSlC, mAndV, mOrV, mNotV, bnd, PH.ret, lft, lftK, rd, see1, asB, asI, mSetAt, setC, mMeth, mCall, runF, exitF, mTup, mLst, mRaiseE, mRaise, mTold, truA, truD, dInt, dInt2, dSub, dMod, dDiv, dLt, dLe, dGt, dGe, dNeg, dIpAdd, dLenA, dLen, dIntOf, dAbs, dMax2, dTuple, dListA, dList, dIsN, dFmt, mFmt, dStrI, dIx, dMul, dAdd, dPow, dEq, dNe, eqD_int, eqD_str, List.getElem?_cons_zero, List.getElem?_cons_succ, List.set_cons_zero, List.set_cons_succ, List.length_cons, List.length_nil, List.cons_append, List.nil_append, List.map_cons, List.map_nil, List.replicate_succ, List.replicate_zero, List.take_succ_cons, List.take_zero, if_true, if_false, ite_true, ite_false, Bool.and_true, Bool.true_and, Bool.false_eq_true, reduceIte, Option.map_some, Option.map_none, Option.bind_some, Nat.reduceAdd, Nat.reduceSub, Nat.reduceLT, Nat.reduceLeDiff, decide_true, decide_false, Bool.not_true, Bool.not_false, Bool.or_true, Bool.or_false, Bool.false_or, Bool.true_or, Int.reduceEq, eq_self, atI_0, atI_1, atI_2, mulOk_a, mulOk_b, cap, ixN30, ixN31, ixN32, hf, dDIn, dGetO, hd, keyOf, hv, Option.isSome_none, so]
theorem own_yes (hf : fldOf "Rules" "owners" κ (.ref r) = some (.ref o)) (hd : seeD κ (.ref o) = some kd) (hv : valD kd (.inr z) = some (.tup os)) : m_Rules__owners_of_b1 (so r x (.dat (.str z)) κ) = some (.rt (.tup os) (so r x (.dat (.str z)) κ)) := by
  simp only [m_Rules__owners_of_b1, mSeq, mE, mIf, mRet, mAsg, mDrop, mAug, mPar, mPar3, mNext, mBreak, mCont, setD, setCons, setTup, setNil, St.put, St.setc, St.add, newC, mOp, mOpK, mUn, mUnK, mCb, mCbK, mCbD, mCbC, mArg, mTest, mTru, mTruA, mAnd, mOr, mNot, mIfE, mChain, mTupD, mLstD, mLstC, mOpC, mPart, mSl, mSlC, mAndV, mOrV, mNotV, bnd, PH.ret, lft, lftK, rd, see1, asB, asI, mSetAt, setC, mMeth, mCall, runF, exitF, mTup, mLst, mRaiseE, mRaise, mTold, truA, truD, dInt, dInt2, dSub, dMod, dDiv, dLt, dLe, dGt, dGe, dNeg, dIpAdd, dLenA, dLen, dIntOf, dAbs, dMax2, dTuple, dListA, dList, dIsN, dFmt, mFmt, dStrI, dIx, dMul, dAdd, dPow, dEq, dNe, eqD_int, eqD_str, List.getElem?_cons_zero, List.getElem?_cons_succ, List.set_cons_zero, List.set_cons_succ, List.length_cons, List.length_nil, List.cons_append, List.nil_append, List.map_cons, List.map_nil, List.replicate_succ, List.replicate_zero, List.take_succ_cons, List.take_zero, if_true, if_false, ite_true, ite_false, Bool.and_true, Bool.true_and, Bool.false_eq_true, reduceIte, Option.map_some, Option.map_none, Option.bind_some, Nat.reduceAdd, Nat.reduceSub, Nat.reduceLT, Nat.reduceLeDiff, decide_true, decide_false, Bool.not_true, Bool.not_false, Bool.or_true, Bool.or_false, Bool.false_or, Bool.true_or, Int.reduceEq, eq_self, atI_0, atI_1, atI_2, mulOk_a, mulOk_b, cap, ixN30, ixN31, ixN32, hf, dDIn, dDGet, dGetO, hd, keyOf, hv, Option.isSome_some, id, so]
/-- the first of the beginnings that has owners -/
def firstOwn (kd : List (Key × D)) : List Str → D
  | [] => .tup []
  | z :: zs => match valD kd (.inr z) with
    | some d => d
    | none => firstOwn kd zs
def TupVals (kd : List (Key × D)) : Prop := ∀ k d, valD kd k = some d → ∃ ss : List Str, d = .tup (ss.map .str)
theorem own_loop (hf : fldOf "Rules" "owners" κ (.ref r) = some (.ref o)) (hd : seeD κ (.ref o) = some kd) (ht : TupVals kd) : ∀ (zs : List Str) (l : PH.Loc), (∃ l', loopK none (setD 2) m_Rules__owners_of_b1 (zs.map .str) (so r x l κ) = some (.nx (so r x l' κ)) ∧ firstOwn kd zs = .tup []) ∨ ∃ (l' : PH.Loc) (ss : List Str), loopK none (setD 2) m_Rules__owners_of_b1 (zs.map .str) (so r x l κ) = some (.rt (.tup (ss.map .str)) (so r x l' κ)) ∧ firstOwn kd zs = .tup (ss.map .str)
  | [], l => .inl ⟨l, loopK_nil trivial, rfl⟩
  | z :: zs, l => by
    have h1 : setD 2 (.str z) (so r x l κ) = some (so r x (.dat (.str z)) κ) := rfl
    cases hv : valD kd (.inr z) with
    | none =>
      have e : loopK none (setD 2) m_Rules__owners_of_b1 ((z :: zs).map .str) (so r x l κ) = loopK none (setD 2) m_Rules__owners_of_b1 (zs.map .str) (so r x (.dat (.str z)) κ) := loopK_nx trivial h1 (own_no hf hd hv)
      have e2 : firstOwn kd (z :: zs) = firstOwn kd zs := by unfold firstOwn; rw [hv]; cases zs <;> rfl
      rw [e, e2]
      exact own_loop hf hd ht zs _
    | some d =>
      obtain ⟨ss, rfl⟩ := ht _ _ hv
      refine .inr ⟨_, ss, loopK_rt trivial h1 (own_yes hf hd hv), ?_⟩
      unfold firstOwn
      rw [hv]
theorem optAll_strs {κ : List Cell} {n f : Nat} : ∀ ss : List Str, optAll (frz κ n f) (ss.map .str) = some (ss.map .str)
  | [] => rfl
  | s :: ss => by
    rw [List.map_cons]
    show ((frz κ n f (.str s)).bind fun d' => (optAll (frz κ n f) (ss.map .str)).map (d' :: ·)) = _
    rw [optAll_strs ss]
    cases f <;> rfl
theorem frz_strs {κ : List Cell} {n f : Nat} (ss : List Str) : frz κ n (f + 1) (.tup (ss.map .str)) = some (.tup (ss.map .str)) := by
  show (optAll (frz κ n f) (ss.map .str)).map D.tup = _
  rw [optAll_strs]
  rfl
def emp : Str := ""
theorem owners_of (hfol : F_folders_of [.str p] κ = some (.ok (.tup (fs.map .str)) κ)) (hlen : fs.length ≤ 1000) (hf : fldOf "Rules" "owners" κ (.ref r) = some (.ref o)) (hd : seeD κ (.ref o) = some kd) (ht : TupVals kd) :
    F_Rules__owners_of [.ref r, .str p] κ = some (.ok (firstOwn kd (p :: (fs.reverse ++ [emp]))) κ) := by
  have hl : (D.str p :: ((fs.map D.str).reverse ++ [D.str emp])).length ≤ cap := by
    rw [List.length_cons, List.length_append, List.length_reverse, List.length_map]
    show fs.length + 1 + 1 ≤ 100000
    omega
  have e : (D.str p :: ((fs.map D.str).reverse ++ [D.str emp])) = (p :: (fs.reverse ++ [emp])).map .str := by
    rw [List.map_cons, List.map_append, List.map_reverse]
    rfl
  have hm : mItems (mTupD (mArg (rd 1) (mStar (mUn dRevT (mCall F_folders_of (mArg (rd 1) (PH.ret [])))) (mArg (PH.ret (.str "")) (PH.ret []))))) (so r (.str p) .non κ) = some (.ok ((p :: (fs.reverse ++ [emp])).map .str, none) (so r (.str p) .non κ)) := by
    rw [← e]
    simp only [mItems, mStar, elemsK, dRevT, itemsOf, so, mSeq, mE, mIf, mRet, mAsg, mDrop, mAug, mPar, mPar3, mNext, mBreak, mCont, setD, setCons, setTup, setNil, St.put, St.setc, St.add, newC, mOp, mOpK, mUn, mUnK, mCb, mCbK, mCbD, mCbC, mArg, mTest, mTru, mTruA, mAnd, mOr, mNot, mIfE, mChain, mTupD, mLstD, mLstC, mOpC, mPart, mSl, mSlC, mAndV, mOrV, mNotV, bnd, PH.ret, lft, lftK, rd, see1, asB, asI, mSetAt, setC, mMeth, mCall, runF, exitF, mTup, mLst, mRaiseE, mRaise, mTold, truA, truD, dInt, dInt2, dSub, dMod, dDiv, dLt, dLe, dGt, dGe, dNeg, dIpAdd, dLenA, dLen, dIntOf, dAbs, dMax2, dTuple, dListA, dList, dIsN, dFmt, mFmt, dStrI, dIx, dMul, dAdd, dPow, dEq, dNe, eqD_int, eqD_str, List.getElem?_cons_zero, List.getElem?_cons_succ, List.set_cons_zero, List.set_cons_succ, List.length_cons, List.length_nil, List.cons_append, List.nil_append, List.map_cons, List.map_nil, List.replicate_succ, List.replicate_zero, List.take_succ_cons, List.take_zero, if_true, if_false, ite_true, ite_false, Bool.and_true, Bool.true_and, Bool.false_eq_true, reduceIte, Option.map_some, Option.map_none, Option.bind_some, Nat.reduceAdd, Nat.reduceSub, Nat.reduceLT, Nat.reduceLeDiff, decide_true, decide_false, Bool.not_true, Bool.not_false, Bool.or_true, Bool.or_false, Bool.false_or, Bool.true_or, Int.reduceEq, eq_self, atI_0, atI_1, atI_2, mulOk_a, mulOk_b, cap, ixN30, ixN31, ixN32, hfol]
    rw [if_pos (show ((fs.map D.str).reverse ++ [D.str (Str.ofString "")]).length ≤ 99999 by rw [List.length_append, List.length_reverse, List.length_map]; show fs.length + 1 ≤ 99999; omega)]
    rfl
  rcases own_loop (x := .str p) hf hd ht (p :: (fs.reverse ++ [emp])) .non with ⟨l', h1, h2⟩ | ⟨l', ss, h1, h2⟩
  · rw [h2]
    refine runF_pure (e := [.dat (.ref r), .dat (.str p), l']) (d := .tup []) ?_ rfl
    show m_Rules__owners_of (so r (.str p) .non κ) = _
    simp only [m_Rules__owners_of, mSeq, mForI, mE, hm, h1]
    rfl
  · rw [h2]
    refine runF_pure (e := [.dat (.ref r), .dat (.str p), l']) (d := .tup (ss.map .str)) ?_ (frz_strs ss)
    show m_Rules__owners_of (so r (.str p) .non κ) = _
    simp only [m_Rules__owners_of, mSeq, mForI, mE, hm, h1]
end
end K08
end
section
set_option maxHeartbeats 0
namespace K08
open PySem PySem.Spec PyProof.Rows L2 PH
section
variable {P : Program} {w : World} {mg : Str → Option Value} {base : Heap} {b : Bs}
abbrev s_law : Stmt := top 17
abbrev N_law : List Str := ["script", "dice", "owners", "k", "needed", "rules", "change", "votes", "remarks", "head", "path", "fits", "prefix", "due", "step", "sort", "name", "value", "bad", "place", "keep", "one", "paths", "fans", "mine", "closed"]
theorem sc_law : FnScope N_law ["script"] (defScope s_law) := ⟨rfl, rfl, rfl, by decide +kernel, rfl, by decide +kernel, by decide +kernel⟩
noncomputable def m_law_e1 : MM D :=
  (mTupD (mArg (mOp dIx (mLstD (mArg (ret (.str "")) (mArg (ret (.str "src")) (mArg (ret (.str "src/a")) (mArg (ret (.str "doc")) (mArg (ret (.str "src/a/b")) (ret []))))))) (mCall F__law_roll (mArg (rd 1) (mArg (ret (.int 5)) (ret []))))) (mArg (mCb dTuple (mArg (mSl (mLstD (mArg (ret (.str "ann")) (mArg (ret (.str "bob")) (mArg (ret (.str "cy")) (ret []))))) (ret none) (mPart (mOp dAdd (ret (.int 1)) (mCall F__law_roll (mArg (rd 1) (mArg (ret (.int 3)) (ret []))))))) (ret []))) (ret []))))
noncomputable def m_law_e2 : MM D :=
  (rd 12)
noncomputable def m_law_c1 : MM Bool :=
  (mOr (mTest (mOp dEq (rd 12) (ret (.str "")))) (mOr (mTest (mOp dEq (rd 10) (rd 12))) (mTest (mOp dEq (mSl (rd 10) (ret none) (mPart (mOp dAdd (mCb dLenA (mArg (rd 12) (ret []))) (ret (.int 1))))) (mOp dAdd (rd 12) (ret (.str "/")))))))
noncomputable def m_law_e3 : MM D :=
  (mTupD (mArg (mCb dLenA (mArg (rd 12) (ret []))) (mArg (rd 12) (ret []))))
noncomputable def m_law_b1 : MS :=
  (mSeq (mLkS (pkV 2) (mAsg (mLcD (mWalkD (fun p => kD p.1) (rd 2)) [12] (setD 12) m_law_c1 m_law_e2) (setD 11)))
    (mSeq (mAsg (mIfE (mTest (mOp dNe (rd 11) (mLstD (ret [])))) (mOpK dDGet (rd 2) (mOp dIx (mOp dIx (mCb (fun as => (dSortIS as).map .lst) (mArg (mLcD (mItems (rd 11)) [12] (setD 12) (ret true) m_law_e3) (ret []))) (mOp dSub (mCb dLenA (mArg (rd 11) (ret []))) (ret (.int 1)))) (ret (.int 1)))) (mTupD (ret []))) (setD 13))
    (mIf (mTest (mOp dNe (mMethO "Rules" "owners_of" F_Rules__owners_of (rd 5) (mArg (rd 10) (ret []))) (rd 13)))
    (mRet (ret (.bl false)))
    mNext)))
noncomputable def m_law_e4 : MM D :=
  (mTupD (mArg (rd 21) (mArg (mOpK dDGet (rd 7) (rd 21)) (ret []))))
noncomputable def m_law_c2 : MM Bool :=
  (mTest (mOp dLt (mOpK dDGet (rd 7) (rd 21)) (ret (.int 0))))
noncomputable def m_law_e5 : MM D :=
  (rd 21)
noncomputable def m_law_c3 : MM Bool :=
  (mTest (mOp dEq (mOpK dDGet (rd 7) (rd 21)) (ret (.int 1))))
noncomputable def m_law_e6 : MM D :=
  (rd 21)
noncomputable def m_law_c4 : MM Bool :=
  (mTest (mOp (inD false) (rd 21) (rd 24)))
noncomputable def m_law_b2 : MS :=
  (mSeq (mAsg (mMethO "Rules" "owners_of" F_Rules__owners_of (rd 5) (mArg (rd 10) (ret []))) (setD 24))
    (mAsg (mOp dAdd (rd 13) (mOp dMul (mLstD (mArg (mOp dAdd (ret (.str "owner ")) (rd 10)) (ret []))) (mCb dIntOf (mArg (mAndV (mOp dNe (rd 24) (mTupD (ret []))) (mAndV (mOp (inD true) (ret (.str "dan")) (rd 24)) (mOp dEq (mLcD (mItems (rd 23)) [21] (setD 21) m_law_c4 m_law_e6) (mLstD (ret []))))) (ret []))))) (setD 13)))
noncomputable def m_law_b3 : MS :=
  (mSeq (mAsg (mTupD (mArg (mCall F__law_roll (mArg (rd 1) (mArg (ret (.int 6)) (ret [])))) (mArg (mOp dIx (mLstD (mArg (ret (.str "ann")) (mArg (ret (.str "bob")) (mArg (ret (.str "cy")) (mArg (ret (.str "dan")) (mArg (ret (.str "eve")) (ret []))))))) (mCall F__law_roll (mArg (rd 1) (mArg (ret (.int 5)) (ret []))))) (mArg (mOp dSub (mCall F__law_roll (mArg (rd 1) (mArg (ret (.int 4)) (ret [])))) (ret (.int 1))) (ret []))))) (setTup 3 (setCons (setD 15) (setCons (setD 16) (setCons (setD 17) setNil)))))
    (mSeq (mIf (mTest (mOp dLt (rd 15) (ret (.int 3))))
    (mSeq (mAsg (mOrV (mOp dGt (rd 17) (ret (.int 1))) (mOp dEq (rd 16) (ret (.str "dan")))) (setD 18))
    (mSeq (mIf (mTest (mOp dNe (mOp dEq (mTold "ReviewError" "ReviewError" (mMethO "Change" "vote" F_Change__vote (rd 6) (mArg (rd 16) (mArg (rd 17) (ret []))))) (ret (.str "ReviewError"))) (rd 18)))
    (mRet (ret (.bl false)))
    mNext)
    (mIf (mAnd (mNot (mTruA (rd 18))) (mTest (mOp dEq (rd 17) (ret (.int 0)))))
    (mDrop (mDPop2 (rd 7) (rd 16) (ret .non)))
    (mIf (mNot (mTruA (rd 18)))
    (mDPut (rd 7) (rd 16) (rd 17))
    mNext))))
    (mIf (mTest (mOp dEq (rd 15) (ret (.int 3))))
    (mSeq (mIf (mTest (mOp dNe (mMethO "Change" "remark" F_Change__remark (rd 6) (mArg (rd 16) (mArg (ret (.str "p")) (mArg (rd 14) (mArg (ret (.str "text")) (ret [])))))) (mCb dLenA (mArg (rd 8) (ret [])))))
    (mRet (ret (.bl false)))
    mNext)
    (mDrop (mMeth mdAppend (rd 8) (mArg (ret (.bl true)) (ret [])))))
    (mIf (mTest (mOp dEq (rd 15) (ret (.int 4))))
    (mSeq (mAsg (mCall F__law_roll (mArg (rd 1) (mArg (mOp dAdd (mCb dLenA (mArg (rd 8) (ret []))) (ret (.int 1))) (ret [])))) (setD 19))
    (mSeq (mIf (mTest (mOp dNe (mOp dEq (mTold "ReviewError" "ReviewError" (mMethO "Change" "settle" F_Change__settle (rd 6) (mArg (rd 19) (ret [])))) (ret (.str "ReviewError"))) (mOp dEq (rd 19) (mCb dLenA (mArg (rd 8) (ret []))))))
    (mRet (ret (.bl false)))
    mNext)
    (mAsg (mOpC (fun κ a b => dCatL (see1 κ a) (see1 κ b)) (mOp dAdd (mSl (rd 8) (ret none) (mPart (rd 19))) (mOp dMul (mLstD (mArg (ret (.bl false)) (ret []))) (mCb dIntOf (mArg (mOp dLt (rd 19) (mCb dLenA (mArg (rd 8) (ret [])))) (ret []))))) (mSl (rd 8) (mPart (mOp dAdd (rd 19) (ret (.int 1)))) (ret none))) (setD 8))))
    (mSeq (mPar 20 9 (mArg (mOp dEq (mCall F__law_roll (mArg (rd 1) (mArg (ret (.int 2)) (ret [])))) (ret (.int 0))) (mArg (mCall F__law_roll (mArg (rd 1) (mArg (ret (.int 99)) (ret [])))) (ret []))))
    (mSeq (mDrop (mMethO "Change" "move" F_Change__move (rd 6) (mArg (rd 9) (mArg (rd 20) (ret [])))))
    (mAsg (mIfE (mTruA (rd 20)) (rd 7) (mDict (mArg (mLkE (pkV 7) (mLcD (mWalkD (fun p => kD p.1) (rd 7)) [21] (setD 21) m_law_c2 m_law_e4)) (ret [])))) (setD 7)))))))
    (mSeq (mAsg (mSl (mLstD (mArg (ret (.str "src/a/x")) (mArg (ret (.str "doc")) (mArg (ret (.str "q")) (ret []))))) (ret none) (mPart (mCall F__law_roll (mArg (rd 1) (mArg (ret (.int 4)) (ret [])))))) (setD 22))
    (mSeq (mAsg (mLcD (mItems (mCbD dSorted (mArg (rd 7) (ret [])))) [21] (setD 21) m_law_c3 m_law_e5) (setD 23))
    (mSeq (mAsg (mOp dAdd (mOp dAdd (mOp dMul (mLstD (mArg (ret (.str "votes")) (ret []))) (mCb dIntOf (mArg (mOp dLt (mCb dLenA (mArg (rd 23) (ret []))) (rd 4)) (ret [])))) (mOp dMul (mLstD (mArg (ret (.str "against")) (ret []))) (mCb dIntOf (mArg (mOpK dInVals (mUn dNeg (ret (.int 1))) (rd 7)) (ret []))))) (mOp dMul (mLstD (mArg (ret (.str "remarks")) (ret []))) (mCb dIntOf (mArg (mOp (inD false) (ret (.bl true)) (rd 8)) (ret []))))) (setD 13))
    (mSeq (mForI (mItems (rd 22)) (setD 10)
    m_law_b2)
    (mIf (mOr (mTest (mOp dNe (mCbD dListA (mArg (mCall F_lacks (mArg (rd 6) (mArg (rd 5) (mArg (rd 22) (ret []))))) (ret []))) (rd 13))) (mOr (mTest (mOpK dNeD (mUnK (fldOf "Change" "votes") (rd 6)) (rd 7))) (mOr (mTest (mOp dNe (mUnK (fldOf "Change" "head") (rd 6)) (rd 9))) (mTest (mOp dNe (mMethO "Change" "supporters" F_Change__supporters (rd 6) (ret [])) (rd 23))))))
    (mRet (ret (.bl false)))
    mNext)))))))
noncomputable def m_law_call : MM D :=
  (mCall F__law_rounds (mArg (rd 0) (mArg (ret (.int 1)) (ret []))))
noncomputable def m_law_body : MS :=
  (mSeq (mAsg (mDict (mArg (mLcD (mRg rg1 (mArg (mCall F__law_roll (mArg (rd 1) (mArg (ret (.int 4)) (ret [])))) (ret []))) [3] (setD 3) (ret true) m_law_e1) (ret []))) (setD 2))
    (mSeq (mAsg (mCall F__law_roll (mArg (rd 1) (mArg (ret (.int 4)) (ret [])))) (setD 4))
    (mSeq (mAsg (mTupD (mArg (mMake "Rules" F_Rules____init__ [] (mArg (rd 4) (mArg (rd 2) (mArg (mOp dEq (mCall F__law_roll (mArg (rd 1) (mArg (ret (.int 2)) (ret [])))) (ret (.int 0))) (ret []))))) (mArg (mMake "Change" F_Change____init__ [] (mArg (ret (.int 3)) (mArg (ret (.str "dan")) (mArg (ret (.str "main")) (mArg (ret (.int 7)) (ret [])))))) (mArg (newC (.dct [])) (mArg (mLstC (ret [])) (mArg (ret (.int 7)) (ret []))))))) (setTup 5 (setCons (setD 5) (setCons (setD 6) (setCons (setD 7) (setCons (setD 8) (setCons (setD 9) setNil)))))))
    (mSeq (mForI (mItems (mLstD (mArg (ret (.str "src/a/b")) (mArg (ret (.str "src/a/b/c")) (mArg (ret (.str "src/ab")) (mArg (ret (.str "srcs/a")) (mArg (ret (.str "doc")) (mArg (ret (.str "doc/x")) (mArg (ret (.str "other")) (ret [])))))))))) (setD 10)
    m_law_b1)
    (mSeq (mForI (mRg rg1 (mArg (mCall F__law_roll (mArg (rd 1) (mArg (ret (.int 21)) (ret [])))) (ret []))) (setD 14)
    m_law_b3)
    (mSeq (mDrop (mMethO "Change" "state_to" F_Change__state_to (rd 6) (mArg (ret (.str "dropped")) (ret []))))
    (mSeq (mAsg (mLstC (mArg (mTold "ReviewError" "ReviewError" (mMethO "Change" "vote" F_Change__vote (rd 6) (mArg (ret (.str "ann")) (mArg (ret (.int 1)) (ret []))))) (ret []))) (setD 25))
    (mSeq (mDrop (mMeth mdAppend (rd 25) (mArg (mTold "ReviewError" "ReviewError" (mMethO "Change" "remark" F_Change__remark (rd 6) (mArg (ret (.str "ann")) (mArg (ret (.str "p")) (mArg (ret (.int 0)) (mArg (ret (.str "t")) (ret []))))))) (ret []))))
    (mSeq (mDrop (mMeth mdAppend (rd 25) (mArg (mTold "ReviewError" "ReviewError" (mMethO "Change" "move" F_Change__move (rd 6) (mArg (ret (.int 1)) (mArg (ret (.bl true)) (ret []))))) (ret []))))
    (mSeq (mDrop (mMeth mdAppend (rd 25) (mArg (mTold "ReviewError" "ReviewError" (mMethO "Change" "settle" F_Change__settle (rd 6) (mArg (ret (.int 0)) (ret [])))) (ret []))))
    (mSeq (mDrop (mMeth mdAppend (rd 25) (mArg (mTold "ReviewError" "ReviewError" (mMethO "Change" "state_to" F_Change__state_to (rd 6) (mArg (ret (.str "landed")) (ret [])))) (ret []))))
    (mIf (mTest (mOp dNe (rd 25) (mOp dMul (mLstD (mArg (ret (.str "ReviewError")) (ret []))) (ret (.int 5)))))
    (mRet (ret (.bl false)))
    mNext))))))))))))
noncomputable def m_law_ret : MS :=
  (mRet (mAndV (mOp dEq (mTold "ReviewError" "ReviewError" (mMake "Rules" F_Rules____init__ [.tup [], .bl false] (mArg (ret (.int 10)) (ret [])))) (ret (.str "ReviewError"))) (mOp dEq (mTold "ReviewError" "ReviewError" (mMake "Rules" F_Rules____init__ [.tup [], .bl false] (mArg (mUn dNeg (ret (.int 1))) (ret [])))) (ret (.str "ReviewError")))))
theorem ok_law {f : Addr} {fd : FuncData} (F : FunA b.K "law" "law" s_law f fd) (z_dict : mg "dict" = none) (z_int : mg "int" = none) (z_len : mg "len" = none) (z_list : mg "list" = none) (z_range : mg "range" = none) (z_sorted : mg "sorted" = none) (z_tuple : mg "tuple" = none) (fl_Change_head : Fld b "Change" "head") (fl_Change_votes : Fld b "Change" "votes") (X_ReviewError : ExcC b mg "ReviewError") {f__law_rounds : Addr} {fd__law_rounds : FuncData} (C__law_rounds : Cal P w b mg base "_law_rounds" 2 ["script", "most"] F__law_rounds f__law_rounds fd__law_rounds) {f__law_roll : Addr} {fd__law_roll : FuncData} (C__law_roll : Cal P w b mg base "_law_roll" 1 ["dice", "many"] F__law_roll f__law_roll fd__law_roll) {f_Rules__new0 : Addr} {fd_Rules__new0 : FuncData} {ds_Rules__new0 : List Value} {dvs_Rules__new0 : List V} (C_Rules__new0 : CalN P w b mg base "Rules" 1 ["self", "needed", "owners", "sticky"] F_Rules____init__ f_Rules__new0 fd_Rules__new0 ds_Rules__new0 dvs_Rules__new0 []) {f_Change__new0 : Addr} {fd_Change__new0 : FuncData} {ds_Change__new0 : List Value} {dvs_Change__new0 : List V} (C_Change__new0 : CalN P w b mg base "Change" 1 ["self", "number", "author", "branch", "head"] F_Change____init__ f_Change__new0 fd_Change__new0 ds_Change__new0 dvs_Change__new0 []) {f_Rules__owners_of : Addr} {fd_Rules__owners_of : FuncData} (C_Rules__owners_of : CalM P w b mg base "Rules" "owners_of" 2 ["self", "path"] F_Rules__owners_of f_Rules__owners_of fd_Rules__owners_of) {f_Change__vote : Addr} {fd_Change__vote : FuncData} (C_Change__vote : CalM P w b mg base "Change" "vote" 2 ["self", "name", "value"] F_Change__vote f_Change__vote fd_Change__vote) {f_Change__remark : Addr} {fd_Change__remark : FuncData} (C_Change__remark : CalM P w b mg base "Change" "remark" 2 ["self", "name", "path", "line", "text"] F_Change__remark f_Change__remark fd_Change__remark) {f_Change__settle : Addr} {fd_Change__settle : FuncData} (C_Change__settle : CalM P w b mg base "Change" "settle" 2 ["self", "place"] F_Change__settle f_Change__settle fd_Change__settle) {f_Change__move : Addr} {fd_Change__move : FuncData} (C_Change__move : CalM P w b mg base "Change" "move" 2 ["self", "head", "keep"] F_Change__move f_Change__move fd_Change__move) {f_lacks : Addr} {fd_lacks : FuncData} (C_lacks : Cal P w b mg base "lacks" 3 ["change", "rules", "paths"] F_lacks f_lacks fd_lacks) {f_Change__supporters : Addr} {fd_Change__supporters : FuncData} (C_Change__supporters : CalM P w b mg base "Change" "supporters" 1 ["self"] F_Change__supporters f_Change__supporters fd_Change__supporters) {f_Change__state_to : Addr} {fd_Change__state_to : FuncData} (C_Change__state_to : CalM P w b mg base "Change" "state_to" 2 ["self", "state"] F_Change__state_to f_Change__state_to fd_Change__state_to) {f_Rules__new2 : Addr} {fd_Rules__new2 : FuncData} {ds_Rules__new2 : List Value} {dvs_Rules__new2 : List V} (C_Rules__new2 : CalN P w b mg base "Rules" 1 ["self", "needed", "owners", "sticky"] F_Rules____init__ f_Rules__new2 fd_Rules__new2 ds_Rules__new2 dvs_Rules__new2 [.tup [], .bl false]) {cl PL : Addr} (kl : fd.code = .ref cl) (TBl : LamX.TabB base mg cl PL) (hPL : (PL, PD.lamQ "law") ∈ b.tb.LT) (hUL : ∀ p ∈ b.tb.LT, p.1 = PL → p.2 = PD.lamQ "law") (hGL : ∀ q ∈ b.tb.GT, q ≠ PL) {f_told : Addr} {fd_told : FuncData} (T_told : Fun b.K "_law_told" "_law_told" s_told f_told fd_told) (T_toldg : mg "_law_told" = some (.ref f_told)) (T_toldb : Binds b.K fd_told ["what"] []) :
    FnOk P w b.K mg base (L2.CX P w) 5 f fd ["script"] (spLawP b.K b.tb (GoodL N_law.length 1 m_law_call m_law_body m_law_ret)) := by
  refine fn_law (N := N_law) (k := 4) (i := 1) F sc_law (by decide) (by decide) fun cdv A outer s H E kcv hr => ?_
  have nd : (N_law).Nodup := sc_law.nd
  have tk : Takes (cxOf (L2.CX P w) P w b.K mg base N_law "law" (defScope s_law) f cdv A outer s H E) (wOf b.ca (ccOf b E).xw) := takesB (L2.takes_of rfl rfl rfl rfl)
  have hcode : (cxOf (L2.CX P w) P w b.K mg base N_law "law" (defScope s_law) f cdv A outer s H E).env.code = .ref cl := kcv.symm.trans kl
  exact ⟨_, _, _, (pss_cons (ps_for PassesOwn.leaving rfl (pi_seq (pe_callSD C__law_rounds.ok (hr.mono (by decide)) rfl C__law_rounds.g C__law_rounds.kp C__law_rounds.b .nil (fun σ => passAt tk σ) (pa_cons (pv 0) (pa_cons pe_int pa_nil)))) (pg_name (i := 1) nd rfl (by first | exact Or.inl rfl | exact Or.inr rfl))
    (pss_cons (ps_set (i := 2) nd rfl (by first | exact Or.inl rfl | exact Or.inr rfl) (pe_callTy (call_dictA rfl) (by rfl) z_dict (by decide +kernel) (pa_cons (pe_lc (own := [("k", 3)]) rfl nd (pi_range1 rfl z_range (pa_cons (pe_callSD C__law_roll.ok (hr.mono (by decide)) rfl C__law_roll.g C__law_roll.kp C__law_roll.b .nil (fun σ => passAt tk σ) (pa_cons (pv 1) (pa_cons pe_int pa_nil))) pa_nil)) (blkOk_by (N := N_law) (sc := defScope s_law) (by decide +kernel)) (fun _ _ _ _ _ => (pg_name (i := 3) nd rfl (by first | exact Or.inl rfl | exact Or.inr rfl))) (fun _ _ _ _ _ => pts_nil) (fun _ _ _ _ _ => (pe_tup (pa_cons (pe_ix ix_seq (pe_lst (pa_cons pe_str (pa_cons pe_str (pa_cons pe_str (pa_cons pe_str (pa_cons pe_str pa_nil)))))) (pe_callSD C__law_roll.ok (hr.mono (by decide)) rfl C__law_roll.g C__law_roll.kp C__law_roll.b .nil (fun σ => passAt takesQ σ) (pa_cons (pv 1) (pa_cons pe_int pa_nil))) (fun _ _ => rfl)) (pa_cons (pe_callTy call_tuple_of (by rfl) z_tuple (by decide +kernel) (pa_cons (pe_slice sl_all (pe_lst (pa_cons pe_str (pa_cons pe_str (pa_cons pe_str pa_nil)))) po_none (po_some (pe_op op_addAll pe_int (pe_callSD C__law_roll.ok (hr.mono (by decide)) rfl C__law_roll.g C__law_roll.kp C__law_roll.b .nil (fun σ => passAt takesQ σ) (pa_cons (pv 1) (pa_cons pe_int pa_nil)))))) pa_nil)) pa_nil))))) pa_nil)))
    (pss_cons (ps_set (i := 4) nd rfl (by first | exact Or.inl rfl | exact Or.inr rfl) (pe_callSD C__law_roll.ok (hr.mono (by decide)) rfl C__law_roll.g C__law_roll.kp C__law_roll.b .nil (fun σ => passAt tk σ) (pa_cons (pv 1) (pa_cons pe_int pa_nil))))
    (pss_cons (ps_asg (pe_tup (pa_cons (pe_makeSD C_Rules__new0.make C_Rules__new0.ok (hr.mono (by decide)) rfl C_Rules__new0.g C_Rules__new0.b C_Rules__new0.d (fun σ => passAt tk σ) (pa_cons (pv 4) (pa_cons (pv 2) (pa_cons (pe_cmpR (op_eqP hr.units) (pe_callSD C__law_roll.ok (hr.mono (by decide)) rfl C__law_roll.g C__law_roll.kp C__law_roll.b .nil (fun σ => passAt tk σ) (pa_cons (pv 1) (pa_cons pe_int pa_nil))) pe_int (nomark _)) pa_nil)))) (pa_cons (pe_makeSD C_Change__new0.make C_Change__new0.ok (hr.mono (by decide)) rfl C_Change__new0.g C_Change__new0.b C_Change__new0.d (fun σ => passAt tk σ) (pa_cons pe_int (pa_cons pe_str (pa_cons pe_str (pa_cons pe_int pa_nil))))) (pa_cons pe_dnewK (pa_cons (pe_lst pa_nil) (pa_cons pe_int pa_nil)))))) (pg_tup rfl (pgs_cons (pg_name (i := 5) nd rfl (by first | exact Or.inl rfl | exact Or.inr rfl)) (pgs_cons (pg_name (i := 6) nd rfl (by first | exact Or.inl rfl | exact Or.inr rfl)) (pgs_cons (pg_name (i := 7) nd rfl (by first | exact Or.inl rfl | exact Or.inr rfl)) (pgs_cons (pg_name (i := 8) nd rfl (by first | exact Or.inl rfl | exact Or.inr rfl)) (pgs_cons (pg_name (i := 9) nd rfl (by first | exact Or.inl rfl | exact Or.inr rfl)) pgs_nil)))))))
    (pss_cons (ps_for PassesOwn.leaving rfl (pi_seq (pe_lst (pa_cons pe_str (pa_cons pe_str (pa_cons pe_str (pa_cons pe_str (pa_cons pe_str (pa_cons pe_str (pa_cons pe_str pa_nil))))))))) (pg_name (i := 10) nd rfl (by first | exact Or.inl rfl | exact Or.inr rfl))
    (pss_cons (ps_lkS (ps_setLc (i := 11) (own := [("prefix", 12)]) rfl nd rfl rfl (sw_true rfl rfl rfl (by decide +kernel)) (pi_keys (pe_lk (pv 2))) (blkOk_by (N := N_law) (sc := defScope s_law) (by decide +kernel)) (fun _ _ _ _ _ => (pg_name (i := 12) nd rfl (by first | exact Or.inl rfl | exact Or.inr rfl))) (fun _ _ _ _ _ => (pts_one (PW.pt (pw_or (pt_cmpR (op_eqP hr.units) (pv 12) pe_str (nomark _)) (pw_or (pt_cmpR (op_eqP hr.units) (pv 10) (pv 12) (nomark _)) (pw_or1 (pt_cmpR (op_eqP hr.units) (pe_slice sl_all (pv 10) po_none (po_some (pe_op op_addAll (pe_callB call_lenA (by rfl) z_len PySem.boot_len (pa_cons (pv 12) pa_nil)) pe_int))) (pe_op op_addAll (pv 12) pe_str) (nomark _)))))))) (fun _ _ _ _ _ => (pv 12))))
    (pss_cons (ps_set (i := 13) nd rfl (by first | exact Or.inl rfl | exact Or.inr rfl) (pe_ifExp (pt_cmpR (op_neP hr.units) (pv 11) (pe_lst pa_nil) (nomark _)) (pe_dget (Nat.lt_of_le_of_lt (Nat.add_le_add_left (by decide : 1 ≤ 64) _) hr.units) (pv 2) (pe_ix ix_seq (pe_ix ix_seq (pe_callB PHS.cr_sortedPS (by rfl) z_sorted (by decide +kernel) (pa_cons (pe_lc (own := [("prefix", 12)]) rfl nd (pi_seq (pv 11)) (blkOk_by (N := N_law) (sc := defScope s_law) (by decide +kernel)) (fun _ _ _ _ _ => (pg_name (i := 12) nd rfl (by first | exact Or.inl rfl | exact Or.inr rfl))) (fun _ _ _ _ _ => pts_nil) (fun _ _ _ _ _ => (pe_tup (pa_cons (pe_callB call_lenA (by rfl) z_len PySem.boot_len (pa_cons (pv 12) pa_nil)) (pa_cons (pv 12) pa_nil))))) pa_nil)) (pe_op op_sub (pe_callB call_lenA (by rfl) z_len PySem.boot_len (pa_cons (pv 11) pa_nil)) pe_int) (fun _ _ => rfl)) pe_int (fun _ _ => rfl)) (fun _ _ => rfl)) (pe_tup pa_nil)))
    (pss_one (ps_if (pt_cmpR (op_neP hr.units) (pe_methSD (pv 5) C_Rules__owners_of.cl C_Rules__owners_of.me C_Rules__owners_of.ok (hr.mono (by decide)) C_Rules__owners_of.b .nil (fun σ => passAt tk σ) (pa_cons (pv 10) pa_nil)) (pv 13) (nomark _))
    (pss_one (ps_ret pe_bl))
    pss_nil)))))
    (pss_cons (ps_for PassesOwn.leaving rfl (pi_range1 rfl z_range (pa_cons (pe_callSD C__law_roll.ok (hr.mono (by decide)) rfl C__law_roll.g C__law_roll.kp C__law_roll.b .nil (fun σ => passAt tk σ) (pa_cons (pv 1) (pa_cons pe_int pa_nil))) pa_nil)) (pg_name (i := 14) nd rfl (by first | exact Or.inl rfl | exact Or.inr rfl))
    (pss_cons (ps_asg (pe_tup (pa_cons (pe_callSD C__law_roll.ok (hr.mono (by decide)) rfl C__law_roll.g C__law_roll.kp C__law_roll.b .nil (fun σ => passAt tk σ) (pa_cons (pv 1) (pa_cons pe_int pa_nil))) (pa_cons (pe_ix ix_seq (pe_lst (pa_cons pe_str (pa_cons pe_str (pa_cons pe_str (pa_cons pe_str (pa_cons pe_str pa_nil)))))) (pe_callSD C__law_roll.ok (hr.mono (by decide)) rfl C__law_roll.g C__law_roll.kp C__law_roll.b .nil (fun σ => passAt tk σ) (pa_cons (pv 1) (pa_cons pe_int pa_nil))) (fun _ _ => rfl)) (pa_cons (pe_op op_sub (pe_callSD C__law_roll.ok (hr.mono (by decide)) rfl C__law_roll.g C__law_roll.kp C__law_roll.b .nil (fun σ => passAt tk σ) (pa_cons (pv 1) (pa_cons pe_int pa_nil))) pe_int) pa_nil)))) (pg_tup rfl (pgs_cons (pg_name (i := 15) nd rfl (by first | exact Or.inl rfl | exact Or.inr rfl)) (pgs_cons (pg_name (i := 16) nd rfl (by first | exact Or.inl rfl | exact Or.inr rfl)) (pgs_cons (pg_name (i := 17) nd rfl (by first | exact Or.inl rfl | exact Or.inr rfl)) pgs_nil)))))
    (pss_cons (ps_if (pt_cmpR op_lt (pv 15) pe_int (nomark _))
    (pss_cons (ps_set (i := 18) nd rfl (by first | exact Or.inl rfl | exact Or.inr rfl) (pe_or (pe_cmpR op_gt (pv 17) pe_int (nomark _)) (pe_one (pe_cmpR (op_eqP hr.units) (pv 16) pe_str (nomark _)))))
    (pss_cons (ps_if (pt_cmpR (op_neP hr.units) (pe_cmpR (op_eqP hr.units) (PD.pe_told (ca := b.ca) (k := 2) T_told T_toldg T_toldb sc_told (by rfl) (by rfl) X_ReviewError.pd (by rfl) TBl hcode (hr.mono (by decide)) (LamX.lamS_by (sc := defScope s_law) (by decide +kernel)) (by rfl) (fun _ _ _ _ _ => rfl) (fun _ _ _ _ _ _ _ hr => (pe_methSD (pv 6) C_Change__vote.cl C_Change__vote.me C_Change__vote.ok (hr.mono (by decide)) C_Change__vote.b .nil (fun σ => passAt tk_lam σ) (pa_cons (pv 16) (pa_cons (pv 17) pa_nil)))) (Or.inl rfl) (by decide) (by decide) (by decide) (by decide)) pe_str (nomark _)) (pv 18) (nomark _))
    (pss_one (ps_ret pe_bl))
    pss_nil)
    (pss_one (ps_if (PW.pt (pw_and (pt_not (pt_truA (pv 18) (by intro _; rfl))) (pw_and1 (pt_cmpR (op_eqP hr.units) (pv 17) pe_int (nomark _)))))
    (pss_one (ps_expr (pe_dpop2 (pv 7) (pv 16) pe_non ⟨by rfl, by rfl, by rfl, by rfl⟩)))
    (pss_one (ps_if (pt_not (pt_truA (pv 18) (by intro _; rfl)))
    (pss_one (ps_dput (Nat.lt_of_le_of_lt (Nat.add_le_add_left (by decide : 1 ≤ 64) _) hr.units) (pv 7) (pv 16) (pv 17) (by rfl)))
    pss_nil))))))
    (pss_one (ps_if (pt_cmpR (op_eqP hr.units) (pv 15) pe_int (nomark _))
    (pss_cons (ps_if (pt_cmpR (op_neP hr.units) (pe_methSD (pv 6) C_Change__remark.cl C_Change__remark.me C_Change__remark.ok (hr.mono (by decide)) C_Change__remark.b .nil (fun σ => passAt tk σ) (pa_cons (pv 16) (pa_cons pe_str (pa_cons (pv 14) (pa_cons pe_str pa_nil))))) (pe_callB call_lenA (by rfl) z_len PySem.boot_len (pa_cons (pv 8) pa_nil)) (nomark _))
    (pss_one (ps_ret pe_bl))
    pss_nil)
    (pss_one (ps_expr (pe_bm PySem.F.plainAttrs_list PySem.F.slot_list_append PySem.F.type_list_append mt_append (pv 8) (pa_cons pe_bl pa_nil)))))
    (pss_one (ps_if (pt_cmpR (op_eqP hr.units) (pv 15) pe_int (nomark _))
    (pss_cons (ps_set (i := 19) nd rfl (by first | exact Or.inl rfl | exact Or.inr rfl) (pe_callSD C__law_roll.ok (hr.mono (by decide)) rfl C__law_roll.g C__law_roll.kp C__law_roll.b .nil (fun σ => passAt tk σ) (pa_cons (pv 1) (pa_cons (pe_op op_addAll (pe_callB call_lenA (by rfl) z_len PySem.boot_len (pa_cons (pv 8) pa_nil)) pe_int) pa_nil))))
    (pss_cons (ps_if (pt_cmpR (op_neP hr.units) (pe_cmpR (op_eqP hr.units) (PD.pe_told (ca := b.ca) (k := 2) T_told T_toldg T_toldb sc_told (by rfl) (by rfl) X_ReviewError.pd (by rfl) TBl hcode (hr.mono (by decide)) (LamX.lamS_by (sc := defScope s_law) (by decide +kernel)) (by rfl) (fun _ _ _ _ _ => rfl) (fun _ _ _ _ _ _ _ hr => (pe_methSD (pv 6) C_Change__settle.cl C_Change__settle.me C_Change__settle.ok (hr.mono (by decide)) C_Change__settle.b .nil (fun σ => passAt tk_lam σ) (pa_cons (pv 19) pa_nil))) (Or.inl rfl) (by decide) (by decide) (by decide) (by decide)) pe_str (nomark _)) (pe_cmpR (op_eqP hr.units) (pv 19) (pe_callB call_lenA (by rfl) z_len PySem.boot_len (pa_cons (pv 8) pa_nil)) (nomark _)) (nomark _))
    (pss_one (ps_ret pe_bl))
    pss_nil)
    (pss_one (ps_set (i := 8) nd rfl (by first | exact Or.inl rfl | exact Or.inr rfl) (pe_op op_addAll (pe_op op_addAll (pe_slice sl_all (pv 8) po_none (po_some (pv 19))) (pe_op op_mulAll (pe_lst (pa_cons pe_bl pa_nil)) (pe_callTy call_intAll (by rfl) z_int (by decide +kernel) (pa_cons (pe_cmpR op_lt (pv 19) (pe_callB call_lenA (by rfl) z_len PySem.boot_len (pa_cons (pv 8) pa_nil)) (nomark _)) pa_nil)))) (pe_slice sl_all (pv 8) (po_some (pe_op op_addAll (pv 19) pe_int)) po_none))))))
    (pss_cons (ps_par (i := 20) (j := 9) rfl nd rfl rfl (by decide) rfl rfl (pa_cons (pe_cmpR (op_eqP hr.units) (pe_callSD C__law_roll.ok (hr.mono (by decide)) rfl C__law_roll.g C__law_roll.kp C__law_roll.b .nil (fun σ => passAt tk σ) (pa_cons (pv 1) (pa_cons pe_int pa_nil))) pe_int (nomark _)) (pa_cons (pe_callSD C__law_roll.ok (hr.mono (by decide)) rfl C__law_roll.g C__law_roll.kp C__law_roll.b .nil (fun σ => passAt tk σ) (pa_cons (pv 1) (pa_cons pe_int pa_nil))) pa_nil)) (by rfl))
    (pss_cons (ps_expr (pe_methSD (pv 6) C_Change__move.cl C_Change__move.me C_Change__move.ok (hr.mono (by decide)) C_Change__move.b .nil (fun σ => passAt tk σ) (pa_cons (pv 9) (pa_cons (pv 20) pa_nil))))
    (pss_one (ps_set (i := 7) nd rfl (by first | exact Or.inl rfl | exact Or.inr rfl) (pe_ifExp (pt_truA (pv 20) (by intro _; rfl)) (pv 7) (pe_callTy (call_dictA rfl) (by rfl) z_dict (by decide +kernel) (pa_cons (pe_lkE (pe_lc (own := [("one", 21)]) rfl nd (pi_keys (pe_lk (pv 7))) (blkOk_by (N := N_law) (sc := defScope s_law) (by decide +kernel)) (fun _ _ _ _ _ => (pg_name (i := 21) nd rfl (by first | exact Or.inl rfl | exact Or.inr rfl))) (fun _ _ _ _ _ => (pts_one (pt_cmpR op_lt (pe_dget (Nat.lt_of_le_of_lt (Nat.add_le_add_left (by decide : 1 ≤ 64) _) hr.units) (pv 7) (pv 21) (fun _ _ => rfl)) pe_int (nomark _)))) (fun _ _ _ _ _ => (pe_tup (pa_cons (pv 21) (pa_cons (pe_dget (Nat.lt_of_le_of_lt (Nat.add_le_add_left (by decide : 1 ≤ 64) _) hr.units) (pv 7) (pv 21) (fun _ _ => rfl)) pa_nil)))))) pa_nil))))))))))))
    (pss_cons (ps_set (i := 22) nd rfl (by first | exact Or.inl rfl | exact Or.inr rfl) (pe_slice sl_all (pe_lst (pa_cons pe_str (pa_cons pe_str (pa_cons pe_str pa_nil)))) po_none (po_some (pe_callSD C__law_roll.ok (hr.mono (by decide)) rfl C__law_roll.g C__law_roll.kp C__law_roll.b .nil (fun σ => passAt tk σ) (pa_cons (pv 1) (pa_cons pe_int pa_nil))))))
    (pss_cons (ps_setLc (i := 23) (own := [("one", 21)]) rfl nd rfl rfl (sw_true rfl rfl rfl (by decide +kernel)) (pi_seq (pe_callB (call_sortedA rfl) (by rfl) z_sorted (by decide +kernel) (pa_cons (pv 7) pa_nil))) (blkOk_by (N := N_law) (sc := defScope s_law) (by decide +kernel)) (fun _ _ _ _ _ => (pg_name (i := 21) nd rfl (by first | exact Or.inl rfl | exact Or.inr rfl))) (fun _ _ _ _ _ => (pts_one (pt_cmpR (op_eqP hr.units) (pe_dget (Nat.lt_of_le_of_lt (Nat.add_le_add_left (by decide : 1 ≤ 64) _) hr.units) (pv 7) (pv 21) (fun _ _ => rfl)) pe_int (nomark _)))) (fun _ _ _ _ _ => (pv 21)))
    (pss_cons (ps_set (i := 13) nd rfl (by first | exact Or.inl rfl | exact Or.inr rfl) (pe_op op_addAll (pe_op op_addAll (pe_op op_mulAll (pe_lst (pa_cons pe_str pa_nil)) (pe_callTy call_intAll (by rfl) z_int (by decide +kernel) (pa_cons (pe_cmpR op_lt (pe_callB call_lenA (by rfl) z_len PySem.boot_len (pa_cons (pv 23) pa_nil)) (pv 4) (nomark _)) pa_nil))) (pe_op op_mulAll (pe_lst (pa_cons pe_str pa_nil)) (pe_callTy call_intAll (by rfl) z_int (by decide +kernel) (pa_cons (pe_cmp (pc_inVals rfl (pe_un un_neg pe_int) (pv 7))) pa_nil)))) (pe_op op_mulAll (pe_lst (pa_cons pe_str pa_nil)) (pe_callTy call_intAll (by rfl) z_int (by decide +kernel) (pa_cons (pe_cmpR op_in_seq pe_bl (pv 8) (by rfl)) pa_nil)))))
    (pss_cons (ps_for PassesOwn.leaving rfl (pi_seq (pv 22)) (pg_name (i := 10) nd rfl (by first | exact Or.inl rfl | exact Or.inr rfl))
    (pss_cons (ps_set (i := 24) nd rfl (by first | exact Or.inl rfl | exact Or.inr rfl) (pe_methSD (pv 5) C_Rules__owners_of.cl C_Rules__owners_of.me C_Rules__owners_of.ok (hr.mono (by decide)) C_Rules__owners_of.b .nil (fun σ => passAt tk σ) (pa_cons (pv 10) pa_nil)))
    (pss_one (ps_set (i := 13) nd rfl (by first | exact Or.inl rfl | exact Or.inr rfl) (pe_op op_addAll (pv 13) (pe_op op_mulAll (pe_lst (pa_cons (pe_op op_addAll pe_str (pv 10)) pa_nil)) (pe_callTy call_intAll (by rfl) z_int (by decide +kernel) (pa_cons (pe_and (pe_cmpR (op_neP hr.units) (pv 24) (pe_tup pa_nil) (nomark _)) (pe_and (pe_cmpR op_notIn_seq pe_str (pv 24) (by rfl)) (pe_one (pe_cmpR (op_eqP hr.units) (pe_lc (own := [("one", 21)]) rfl nd (pi_seq (pv 23)) (blkOk_by (N := N_law) (sc := defScope s_law) (by decide +kernel)) (fun _ _ _ _ _ => (pg_name (i := 21) nd rfl (by first | exact Or.inl rfl | exact Or.inr rfl))) (fun _ _ _ _ _ => (pts_one (pt_cmpR op_in_seq (pv 21) (pv 24) (by rfl)))) (fun _ _ _ _ _ => (pv 21))) (pe_lst pa_nil) (nomark _))))) pa_nil))))))))
    (pss_one (ps_if (PW.pt (pw_or (pt_cmpR (op_neP hr.units) (pe_callTy (call_listA rfl call_list_of) (by rfl) z_list (by decide +kernel) (pa_cons (pe_callSD C_lacks.ok (hr.mono (by decide)) rfl C_lacks.g C_lacks.kp C_lacks.b .nil (fun σ => passAt tk σ) (pa_cons (pv 6) (pa_cons (pv 5) (pa_cons (pv 22) pa_nil)))) pa_nil)) (pv 13) (nomark _)) (pw_or (pt_cmpR (op_ne_dictA (Nat.lt_of_le_of_lt (Nat.le_add_right _ 64) hr.units)) (pe_fld (pv 6) (by rfl)) (pv 7) (nomark _)) (pw_or (pt_cmpR (op_neP hr.units) (pe_fld (pv 6) (by rfl)) (pv 9) (nomark _)) (pw_or1 (pt_cmpR (op_neP hr.units) (pe_methSD0 (pv 6) C_Change__supporters.cl C_Change__supporters.me C_Change__supporters.ok (hr.mono (by decide)) C_Change__supporters.b .nil (fun σ => passAt tk σ)) (pv 23) (nomark _)))))))
    (pss_one (ps_ret pe_bl))
    pss_nil)))))))))
    (pss_cons (ps_expr (pe_methSD (pv 6) C_Change__state_to.cl C_Change__state_to.me C_Change__state_to.ok (hr.mono (by decide)) C_Change__state_to.b .nil (fun σ => passAt tk σ) (pa_cons pe_str pa_nil)))
    (pss_cons (ps_set (i := 25) nd rfl (by first | exact Or.inl rfl | exact Or.inr rfl) (pe_lst (pa_cons (PD.pe_told (ca := b.ca) (k := 2) T_told T_toldg T_toldb sc_told (by rfl) (by rfl) X_ReviewError.pd (by rfl) TBl hcode (hr.mono (by decide)) (LamX.lamS_by (sc := defScope s_law) (by decide +kernel)) (by rfl) (fun _ _ _ _ _ => rfl) (fun _ _ _ _ _ _ _ hr => (pe_methSD (pv 6) C_Change__vote.cl C_Change__vote.me C_Change__vote.ok (hr.mono (by decide)) C_Change__vote.b .nil (fun σ => passAt tk_lam σ) (pa_cons pe_str (pa_cons pe_int pa_nil)))) (Or.inl rfl) (by decide) (by decide) (by decide) (by decide)) pa_nil)))
    (pss_cons (ps_expr (pe_bm PySem.F.plainAttrs_list PySem.F.slot_list_append PySem.F.type_list_append mt_append (pv 25) (pa_cons (PD.pe_told (ca := b.ca) (k := 2) T_told T_toldg T_toldb sc_told (by rfl) (by rfl) X_ReviewError.pd (by rfl) TBl hcode (hr.mono (by decide)) (LamX.lamS_by (sc := defScope s_law) (by decide +kernel)) (by rfl) (fun _ _ _ _ _ => rfl) (fun _ _ _ _ _ _ _ hr => (pe_methSD (pv 6) C_Change__remark.cl C_Change__remark.me C_Change__remark.ok (hr.mono (by decide)) C_Change__remark.b .nil (fun σ => passAt tk_lam σ) (pa_cons pe_str (pa_cons pe_str (pa_cons pe_int (pa_cons pe_str pa_nil)))))) (Or.inl rfl) (by decide) (by decide) (by decide) (by decide)) pa_nil)))
    (pss_cons (ps_expr (pe_bm PySem.F.plainAttrs_list PySem.F.slot_list_append PySem.F.type_list_append mt_append (pv 25) (pa_cons (PD.pe_told (ca := b.ca) (k := 2) T_told T_toldg T_toldb sc_told (by rfl) (by rfl) X_ReviewError.pd (by rfl) TBl hcode (hr.mono (by decide)) (LamX.lamS_by (sc := defScope s_law) (by decide +kernel)) (by rfl) (fun _ _ _ _ _ => rfl) (fun _ _ _ _ _ _ _ hr => (pe_methSD (pv 6) C_Change__move.cl C_Change__move.me C_Change__move.ok (hr.mono (by decide)) C_Change__move.b .nil (fun σ => passAt tk_lam σ) (pa_cons pe_int (pa_cons pe_bl pa_nil)))) (Or.inl rfl) (by decide) (by decide) (by decide) (by decide)) pa_nil)))
    (pss_cons (ps_expr (pe_bm PySem.F.plainAttrs_list PySem.F.slot_list_append PySem.F.type_list_append mt_append (pv 25) (pa_cons (PD.pe_told (ca := b.ca) (k := 2) T_told T_toldg T_toldb sc_told (by rfl) (by rfl) X_ReviewError.pd (by rfl) TBl hcode (hr.mono (by decide)) (LamX.lamS_by (sc := defScope s_law) (by decide +kernel)) (by rfl) (fun _ _ _ _ _ => rfl) (fun _ _ _ _ _ _ _ hr => (pe_methSD (pv 6) C_Change__settle.cl C_Change__settle.me C_Change__settle.ok (hr.mono (by decide)) C_Change__settle.b .nil (fun σ => passAt tk_lam σ) (pa_cons pe_int pa_nil))) (Or.inl rfl) (by decide) (by decide) (by decide) (by decide)) pa_nil)))
    (pss_cons (ps_expr (pe_bm PySem.F.plainAttrs_list PySem.F.slot_list_append PySem.F.type_list_append mt_append (pv 25) (pa_cons (PD.pe_told (ca := b.ca) (k := 2) T_told T_toldg T_toldb sc_told (by rfl) (by rfl) X_ReviewError.pd (by rfl) TBl hcode (hr.mono (by decide)) (LamX.lamS_by (sc := defScope s_law) (by decide +kernel)) (by rfl) (fun _ _ _ _ _ => rfl) (fun _ _ _ _ _ _ _ hr => (pe_methSD (pv 6) C_Change__state_to.cl C_Change__state_to.me C_Change__state_to.ok (hr.mono (by decide)) C_Change__state_to.b .nil (fun σ => passAt tk_lam σ) (pa_cons pe_str pa_nil))) (Or.inl rfl) (by decide) (by decide) (by decide) (by decide)) pa_nil)))
    (pss_one (ps_if (pt_cmpR (op_neP hr.units) (pv 25) (pe_op op_mulAll (pe_lst (pa_cons pe_str pa_nil)) pe_int) (nomark _))
    (pss_one (ps_ret pe_bl))
    pss_nil))))))))))))))
    (pss_one (ps_ret (pe_and (pe_cmpR (op_eqP hr.units) (PD.pe_told (ca := b.ca) (k := 2) T_told T_toldg T_toldb sc_told (by rfl) (by rfl) X_ReviewError.pd (by rfl) TBl hcode (hr.mono (by decide)) (LamX.lamS_by (sc := defScope s_law) (by decide +kernel)) (by rfl) (fun _ _ _ _ _ => rfl) (fun _ _ _ _ _ _ _ hr => (pe_makeSD C_Rules__new2.make C_Rules__new2.ok (hr.mono (by decide)) rfl C_Rules__new2.g C_Rules__new2.b C_Rules__new2.d (fun σ => passAt tk_lam σ) (pa_cons pe_int pa_nil))) (Or.inl rfl) (by decide) (by decide) (by decide) (by decide)) pe_str (nomark _)) (pe_one (pe_cmpR (op_eqP hr.units) (PD.pe_told (ca := b.ca) (k := 2) T_told T_toldg T_toldb sc_told (by rfl) (by rfl) X_ReviewError.pd (by rfl) TBl hcode (hr.mono (by decide)) (LamX.lamS_by (sc := defScope s_law) (by decide +kernel)) (by rfl) (fun _ _ _ _ _ => rfl) (fun _ _ _ _ _ _ _ hr => (pe_makeSD C_Rules__new2.make C_Rules__new2.ok (hr.mono (by decide)) rfl C_Rules__new2.g C_Rules__new2.b C_Rules__new2.d (fun σ => passAt tk_lam σ) (pa_cons (pe_un un_neg pe_int) pa_nil))) (Or.inl rfl) (by decide) (by decide) (by decide) (by decide)) pe_str (nomark _))))))),
    (se_call (sa_cons (se_var (i := 0)) (sa_cons (se_c fun _ => .int _) sa_nil)) (ln_cons (ln_cons ln_nil))),
    (ss_seq (ss_asg (se_dict (sa_cons (se_lc (vs := [3]) (si_rg1 (sa_cons (se_call (sa_cons (se_var (i := 1)) (sa_cons (se_c fun _ => .int _) sa_nil)) (ln_cons (ln_cons ln_nil))) sa_nil)) (sg_name (i := 3)) (gw_name (by decide)) st_yes (se_tup (sa_cons (se_op rop_ix (se_lst (sa_cons (se_c fun _ => .str _) (sa_cons (se_c fun _ => .str _) (sa_cons (se_c fun _ => .str _) (sa_cons (se_c fun _ => .str _) (sa_cons (se_c fun _ => .str _) sa_nil)))))) (se_call (sa_cons (se_var (i := 1)) (sa_cons (se_c fun _ => .int _) sa_nil)) (ln_cons (ln_cons ln_nil)))) (sa_cons (se_cb rca_tuple (sa_cons (se_sl (se_lst (sa_cons (se_c fun _ => .str _) (sa_cons (se_c fun _ => .str _) (sa_cons (se_c fun _ => .str _) sa_nil)))) so_none (so_some (se_op rop_add (se_c fun _ => .int _) (se_call (sa_cons (se_var (i := 1)) (sa_cons (se_c fun _ => .int _) sa_nil)) (ln_cons (ln_cons ln_nil)))))) sa_nil)) sa_nil)))) sa_nil)) (sg_name (i := 2)))
    (ss_seq (ss_asg (se_call (sa_cons (se_var (i := 1)) (sa_cons (se_c fun _ => .int _) sa_nil)) (ln_cons (ln_cons ln_nil))) (sg_name (i := 4)))
    (ss_seq (ss_asg (se_tup (sa_cons (se_make (n := 3) (m := 0) (sa_cons (se_var (i := 4)) (sa_cons (se_var (i := 2)) (sa_cons (se_op rop_eq (se_call (sa_cons (se_var (i := 1)) (sa_cons (se_c fun _ => .int _) sa_nil)) (ln_cons (ln_cons ln_nil))) (se_c fun _ => .int _)) sa_nil))) (ln_cons (ln_cons (ln_cons ln_nil))) (C_Rules__new0.rd ⟨fun _ => none, []⟩).length C_Rules__new0.rd) (sa_cons (se_make (n := 4) (m := 0) (sa_cons (se_c fun _ => .int _) (sa_cons (se_c fun _ => .str _) (sa_cons (se_c fun _ => .str _) (sa_cons (se_c fun _ => .int _) sa_nil)))) (ln_cons (ln_cons (ln_cons (ln_cons ln_nil)))) (C_Change__new0.rd ⟨fun _ => none, []⟩).length C_Change__new0.rd) (sa_cons se_dnew (sa_cons (se_lstC sa_nil) (sa_cons (se_c fun _ => .int _) sa_nil)))))) (sg_tup (n := 5) (sgs_cons (sg_name (i := 5)) (sgs_cons (sg_name (i := 6)) (sgs_cons (sg_name (i := 7)) (sgs_cons (sg_name (i := 8)) (sgs_cons (sg_name (i := 9)) sgs_nil)))))))
    (ss_seq (ss_forI (si_items (se_lst (sa_cons (se_c fun _ => .str _) (sa_cons (se_c fun _ => .str _) (sa_cons (se_c fun _ => .str _) (sa_cons (se_c fun _ => .str _) (sa_cons (se_c fun _ => .str _) (sa_cons (se_c fun _ => .str _) (sa_cons (se_c fun _ => .str _) sa_nil))))))))) (sg_name (i := 10))
    (ss_seq (ss_lkS (pk := (pkV 2)) (ss_asg (se_lc (vs := [12]) (si_keys (se_var (i := 2))) (sg_name (i := 12)) (gw_name (by decide)) (st_or (st_test (se_op rop_eq (se_var (i := 12)) (se_c fun _ => .str _))) (st_or (st_test (se_op rop_eq (se_var (i := 10)) (se_var (i := 12)))) (st_test (se_op rop_eq (se_sl (se_var (i := 10)) so_none (so_some (se_op rop_add (se_cb rca_lenA (sa_cons (se_var (i := 12)) sa_nil)) (se_c fun _ => .int _)))) (se_op rop_add (se_var (i := 12)) (se_c fun _ => .str _)))))) (se_var (i := 12))) (sg_name (i := 11))))
    (ss_seq (ss_asg (se_if (st_test (se_op rop_ne (se_var (i := 11)) (se_lst sa_nil))) (se_dget (se_var (i := 2)) (se_op rop_ix (se_op rop_ix (se_cb rca_sortIS (sa_cons (se_lc (vs := [12]) (si_items (se_var (i := 11))) (sg_name (i := 12)) (gw_name (by decide)) st_yes (se_tup (sa_cons (se_cb rca_lenA (sa_cons (se_var (i := 12)) sa_nil)) (sa_cons (se_var (i := 12)) sa_nil)))) sa_nil)) (se_op rop_sub (se_cb rca_lenA (sa_cons (se_var (i := 11)) sa_nil)) (se_c fun _ => .int _))) (se_c fun _ => .int _))) (se_tup sa_nil)) (sg_name (i := 13)))
    (ss_if (st_test (se_op rop_ne (se_methO (n := 1) (se_var (i := 5)) (sa_cons (se_var (i := 10)) sa_nil) (ln_cons ln_nil)) (se_var (i := 13))))
    (ss_ret (se_c fun _ => .bl _))
    ss_next))))
    (ss_seq (ss_forI (si_rg1 (sa_cons (se_call (sa_cons (se_var (i := 1)) (sa_cons (se_c fun _ => .int _) sa_nil)) (ln_cons (ln_cons ln_nil))) sa_nil)) (sg_name (i := 14))
    (ss_seq (ss_asg (se_tup (sa_cons (se_call (sa_cons (se_var (i := 1)) (sa_cons (se_c fun _ => .int _) sa_nil)) (ln_cons (ln_cons ln_nil))) (sa_cons (se_op rop_ix (se_lst (sa_cons (se_c fun _ => .str _) (sa_cons (se_c fun _ => .str _) (sa_cons (se_c fun _ => .str _) (sa_cons (se_c fun _ => .str _) (sa_cons (se_c fun _ => .str _) sa_nil)))))) (se_call (sa_cons (se_var (i := 1)) (sa_cons (se_c fun _ => .int _) sa_nil)) (ln_cons (ln_cons ln_nil)))) (sa_cons (se_op rop_sub (se_call (sa_cons (se_var (i := 1)) (sa_cons (se_c fun _ => .int _) sa_nil)) (ln_cons (ln_cons ln_nil))) (se_c fun _ => .int _)) sa_nil)))) (sg_tup (n := 3) (sgs_cons (sg_name (i := 15)) (sgs_cons (sg_name (i := 16)) (sgs_cons (sg_name (i := 17)) sgs_nil)))))
    (ss_seq (ss_if (st_test (se_op rop_lt (se_var (i := 15)) (se_c fun _ => .int _)))
    (ss_seq (ss_asg (se_or (se_op rop_gt (se_var (i := 17)) (se_c fun _ => .int _)) (se_op rop_eq (se_var (i := 16)) (se_c fun _ => .str _))) (sg_name (i := 18)))
    (ss_seq (ss_if (st_test (se_op rop_ne (se_op rop_eq (se_told hPL hUL hGL X_ReviewError.xm fun _ => (se_methO (n := 2) (se_var (i := 6)) (sa_cons (se_var (i := 16)) (sa_cons (se_var (i := 17)) sa_nil)) (ln_cons (ln_cons ln_nil)))) (se_c fun _ => .str _)) (se_var (i := 18))))
    (ss_ret (se_c fun _ => .bl _))
    ss_next)
    (ss_if (st_and (st_not (st_truA (se_var (i := 18)))) (st_test (se_op rop_eq (se_var (i := 17)) (se_c fun _ => .int _))))
    (ss_drop (se_dpop2 (se_var (i := 7)) (se_var (i := 16)) (se_c fun _ => .non)))
    (ss_if (st_not (st_truA (se_var (i := 18))))
    (ss_dput (se_var (i := 7)) (se_var (i := 16)) (se_var (i := 17)))
    ss_next))))
    (ss_if (st_test (se_op rop_eq (se_var (i := 15)) (se_c fun _ => .int _)))
    (ss_seq (ss_if (st_test (se_op rop_ne (se_methO (n := 4) (se_var (i := 6)) (sa_cons (se_var (i := 16)) (sa_cons (se_c fun _ => .str _) (sa_cons (se_var (i := 14)) (sa_cons (se_c fun _ => .str _) sa_nil)))) (ln_cons (ln_cons (ln_cons (ln_cons ln_nil))))) (se_cb rca_lenA (sa_cons (se_var (i := 8)) sa_nil))))
    (ss_ret (se_c fun _ => .bl _))
    ss_next)
    (ss_drop (se_meth rme_append (se_var (i := 8)) (sa_cons (se_c fun _ => .bl _) sa_nil))))
    (ss_if (st_test (se_op rop_eq (se_var (i := 15)) (se_c fun _ => .int _)))
    (ss_seq (ss_asg (se_call (sa_cons (se_var (i := 1)) (sa_cons (se_op rop_add (se_cb rca_lenA (sa_cons (se_var (i := 8)) sa_nil)) (se_c fun _ => .int _)) sa_nil)) (ln_cons (ln_cons ln_nil))) (sg_name (i := 19)))
    (ss_seq (ss_if (st_test (se_op rop_ne (se_op rop_eq (se_told hPL hUL hGL X_ReviewError.xm fun _ => (se_methO (n := 1) (se_var (i := 6)) (sa_cons (se_var (i := 19)) sa_nil) (ln_cons ln_nil))) (se_c fun _ => .str _)) (se_op rop_eq (se_var (i := 19)) (se_cb rca_lenA (sa_cons (se_var (i := 8)) sa_nil)))))
    (ss_ret (se_c fun _ => .bl _))
    ss_next)
    (ss_asg (se_op2C own_cat (se_op rop_add (se_sl (se_var (i := 8)) so_none (so_some (se_var (i := 19)))) (se_op rop_mul (se_lst (sa_cons (se_c fun _ => .bl _) sa_nil)) (se_cb rca_int (sa_cons (se_op rop_lt (se_var (i := 19)) (se_cb rca_lenA (sa_cons (se_var (i := 8)) sa_nil))) sa_nil)))) (se_sl (se_var (i := 8)) (so_some (se_op rop_add (se_var (i := 19)) (se_c fun _ => .int _))) so_none)) (sg_name (i := 8)))))
    (ss_seq (ss_par (i := 20) (j := 9) (sa_cons (se_op rop_eq (se_call (sa_cons (se_var (i := 1)) (sa_cons (se_c fun _ => .int _) sa_nil)) (ln_cons (ln_cons ln_nil))) (se_c fun _ => .int _)) (sa_cons (se_call (sa_cons (se_var (i := 1)) (sa_cons (se_c fun _ => .int _) sa_nil)) (ln_cons (ln_cons ln_nil))) sa_nil)))
    (ss_seq (ss_drop (se_methO (n := 2) (se_var (i := 6)) (sa_cons (se_var (i := 9)) (sa_cons (se_var (i := 20)) sa_nil)) (ln_cons (ln_cons ln_nil))))
    (ss_asg (se_if (st_truA (se_var (i := 20))) (se_var (i := 7)) (se_dict (sa_cons (se_lkE (pk := (pkV 7)) (se_lc (vs := [21]) (si_keys (se_var (i := 7))) (sg_name (i := 21)) (gw_name (by decide)) (st_test (se_op rop_lt (se_dget (se_var (i := 7)) (se_var (i := 21))) (se_c fun _ => .int _))) (se_tup (sa_cons (se_var (i := 21)) (sa_cons (se_dget (se_var (i := 7)) (se_var (i := 21))) sa_nil))))) sa_nil))) (sg_name (i := 7))))))))
    (ss_seq (ss_asg (se_sl (se_lst (sa_cons (se_c fun _ => .str _) (sa_cons (se_c fun _ => .str _) (sa_cons (se_c fun _ => .str _) sa_nil)))) so_none (so_some (se_call (sa_cons (se_var (i := 1)) (sa_cons (se_c fun _ => .int _) sa_nil)) (ln_cons (ln_cons ln_nil))))) (sg_name (i := 22)))
    (ss_seq (ss_asg (se_lc (vs := [21]) (si_items (se_ownD own_sorted (sa_cons (se_var (i := 7)) sa_nil))) (sg_name (i := 21)) (gw_name (by decide)) (st_test (se_op rop_eq (se_dget (se_var (i := 7)) (se_var (i := 21))) (se_c fun _ => .int _))) (se_var (i := 21))) (sg_name (i := 23)))
    (ss_seq (ss_asg (se_op rop_add (se_op rop_add (se_op rop_mul (se_lst (sa_cons (se_c fun _ => .str _) sa_nil)) (se_cb rca_int (sa_cons (se_op rop_lt (se_cb rca_lenA (sa_cons (se_var (i := 23)) sa_nil)) (se_var (i := 4))) sa_nil))) (se_op rop_mul (se_lst (sa_cons (se_c fun _ => .str _) sa_nil)) (se_cb rca_int (sa_cons (se_inVals (se_un run_neg (se_c fun _ => .int _)) (se_var (i := 7))) sa_nil)))) (se_op rop_mul (se_lst (sa_cons (se_c fun _ => .str _) sa_nil)) (se_cb rca_int (sa_cons (se_op rop_in (se_c fun _ => .bl _) (se_var (i := 8))) sa_nil)))) (sg_name (i := 13)))
    (ss_seq (ss_forI (si_items (se_var (i := 22))) (sg_name (i := 10))
    (ss_seq (ss_asg (se_methO (n := 1) (se_var (i := 5)) (sa_cons (se_var (i := 10)) sa_nil) (ln_cons ln_nil)) (sg_name (i := 24)))
    (ss_asg (se_op rop_add (se_var (i := 13)) (se_op rop_mul (se_lst (sa_cons (se_op rop_add (se_c fun _ => .str _) (se_var (i := 10))) sa_nil)) (se_cb rca_int (sa_cons (se_and (se_op rop_ne (se_var (i := 24)) (se_tup sa_nil)) (se_and (se_op rop_nin (se_c fun _ => .str _) (se_var (i := 24))) (se_op rop_eq (se_lc (vs := [21]) (si_items (se_var (i := 23))) (sg_name (i := 21)) (gw_name (by decide)) (st_test (se_op rop_in (se_var (i := 21)) (se_var (i := 24)))) (se_var (i := 21))) (se_lst sa_nil)))) sa_nil)))) (sg_name (i := 13)))))
    (ss_if (st_or (st_test (se_op rop_ne (se_ownD own_listA (sa_cons (se_call (sa_cons (se_var (i := 6)) (sa_cons (se_var (i := 5)) (sa_cons (se_var (i := 22)) sa_nil))) (ln_cons (ln_cons (ln_cons ln_nil)))) sa_nil)) (se_var (i := 13)))) (st_or (st_test (se_opK rk_neD (se_fld fl_Change_votes (se_var (i := 6))) (se_var (i := 7)))) (st_or (st_test (se_op rop_ne (se_fld fl_Change_head (se_var (i := 6))) (se_var (i := 9)))) (st_test (se_op rop_ne (se_methO (n := 0) (se_var (i := 6)) sa_nil ln_nil) (se_var (i := 23)))))))
    (ss_ret (se_c fun _ => .bl _))
    ss_next))))))))
    (ss_seq (ss_drop (se_methO (n := 1) (se_var (i := 6)) (sa_cons (se_c fun _ => .str _) sa_nil) (ln_cons ln_nil)))
    (ss_seq (ss_asg (se_lstC (sa_cons (se_told hPL hUL hGL X_ReviewError.xm fun _ => (se_methO (n := 2) (se_var (i := 6)) (sa_cons (se_c fun _ => .str _) (sa_cons (se_c fun _ => .int _) sa_nil)) (ln_cons (ln_cons ln_nil)))) sa_nil)) (sg_name (i := 25)))
    (ss_seq (ss_drop (se_meth rme_append (se_var (i := 25)) (sa_cons (se_told hPL hUL hGL X_ReviewError.xm fun _ => (se_methO (n := 4) (se_var (i := 6)) (sa_cons (se_c fun _ => .str _) (sa_cons (se_c fun _ => .str _) (sa_cons (se_c fun _ => .int _) (sa_cons (se_c fun _ => .str _) sa_nil)))) (ln_cons (ln_cons (ln_cons (ln_cons ln_nil)))))) sa_nil)))
    (ss_seq (ss_drop (se_meth rme_append (se_var (i := 25)) (sa_cons (se_told hPL hUL hGL X_ReviewError.xm fun _ => (se_methO (n := 2) (se_var (i := 6)) (sa_cons (se_c fun _ => .int _) (sa_cons (se_c fun _ => .bl _) sa_nil)) (ln_cons (ln_cons ln_nil)))) sa_nil)))
    (ss_seq (ss_drop (se_meth rme_append (se_var (i := 25)) (sa_cons (se_told hPL hUL hGL X_ReviewError.xm fun _ => (se_methO (n := 1) (se_var (i := 6)) (sa_cons (se_c fun _ => .int _) sa_nil) (ln_cons ln_nil))) sa_nil)))
    (ss_seq (ss_drop (se_meth rme_append (se_var (i := 25)) (sa_cons (se_told hPL hUL hGL X_ReviewError.xm fun _ => (se_methO (n := 1) (se_var (i := 6)) (sa_cons (se_c fun _ => .str _) sa_nil) (ln_cons ln_nil))) sa_nil)))
    (ss_if (st_test (se_op rop_ne (se_var (i := 25)) (se_op rop_mul (se_lst (sa_cons (se_c fun _ => .str _) sa_nil)) (se_c fun _ => .int _))))
    (ss_ret (se_c fun _ => .bl _))
    ss_next)))))))))))),
    (ss_ret (se_and (se_op rop_eq (se_told hPL hUL hGL X_ReviewError.xm fun _ => (se_make (n := 1) (m := 2) (sa_cons (se_c fun _ => .int _) sa_nil) (ln_cons ln_nil) (C_Rules__new2.rd ⟨fun _ => none, []⟩).length C_Rules__new2.rd)) (se_c fun _ => .str _)) (se_op rop_eq (se_told hPL hUL hGL X_ReviewError.xm fun _ => (se_make (n := 1) (m := 2) (sa_cons (se_un run_neg (se_c fun _ => .int _)) sa_nil) (ln_cons ln_nil) (C_Rules__new2.rd ⟨fun _ => none, []⟩).length C_Rules__new2.rd)) (se_c fun _ => .str _))))⟩
end
end K08
end
section
set_option maxHeartbeats 0
namespace PH
open PySem PySem.Spec PyProof.Rows L2
/-! walks of what nobody changes, in a form that can be run -/
def compN (g : D → St → Option St) (t : MM Bool) (e : MM D) (ew : List Loc) : List D → List D → List Cell → Option (List D × List Cell)
  | [], acc, κ => some (acc, κ)
  | d :: ds, acc, κ => match g d ⟨ew, κ⟩ with
    | none => none
    | some ρ1 => match t ρ1 with
      | some (.ok true ρ2) => match e ρ2 with
        | some (.ok y ρ3) => if acc.length < cap then compN g t e ew ds (acc ++ [y]) ρ3.c else none
        | _ => none
      | some (.ok false ρ2) => compN g t e ew ds acc ρ2.c
      | _ => none
theorem compK_none {g : D → St → Option St} {t : MM Bool} {e : MM D} {ew : List Loc} : ∀ (ds acc : List D) (κ : List Cell), compK none g t e ew ds acc κ = compN g t e ew ds acc κ
  | [], acc, κ => compK_nil trivial
  | d :: ds, acc, κ => by
    rw [compK, if_pos (show kOk none κ from trivial), compN]
    cases g d ⟨ew, κ⟩ with
    | none => rfl
    | some ρ1 =>
      dsimp only
      cases t ρ1 with
      | none => rfl
      | some r =>
        cases r with
        | er x ρ2 => rfl
        | ok q ρ2 =>
          cases q with
          | false => exact compK_none _ _ _
          | true =>
            dsimp only
            cases e ρ2 with
            | none => rfl
            | some r3 =>
              cases r3 with
              | er x ρ3 => rfl
              | ok y ρ3 =>
                dsimp only
                by_cases hc : acc.length < cap
                · rw [if_pos hc, if_pos hc]; exact compK_none _ _ _
                · rw [if_neg hc, if_neg hc]
noncomputable def compX (k : KC) (g : D → St → Option St) (t : MM Bool) (e : MM D) (ew : List Loc) (ds acc : List D) (κ : List Cell) : Option (List D × List Cell) := match k with
  | none => compN g t e ew ds acc κ
  | some x => compK (some x) g t e ew ds acc κ
theorem compK_X : @compK = @compX := by
  funext k g t e ew ds acc κ
  cases k with
  | none => exact compK_none _ _ _
  | some x => rfl
noncomputable def mLcX (m : MM (List D × KC)) (vs : List Nat) (g : D → St → Option St) (t : MM Bool) (e : MM D) : MM (List D) := bnd m fun p ρ => match compX p.2 g t e (wipeL ρ.e vs) p.1 [] ρ.c with
  | some (ys, κ) => some (.ok ys ⟨ρ.e, κ⟩)
  | none => none
theorem mLc_X : @mLc = @mLcX := by
  funext m vs g t e
  unfold mLc mLcX
  rw [compK_X]
  try rfl
noncomputable def mLcDX (m : MM (List D × KC)) (vs : List Nat) (g : D → St → Option St) (t : MM Bool) (e : MM D) : MM D := bnd (mLcX m vs g t e) fun ys => ret (.lst ys)
noncomputable def mLcCX (m : MM (List D × KC)) (vs : List Nat) (g : D → St → Option St) (t : MM Bool) (e : MM D) : MM D := bnd (mLcX m vs g t e) fun ys => newC (.lst ys)
theorem mLcD_X : @mLcD = @mLcDX := by
  funext m vs g t e
  unfold mLcD mLcDX
  rw [mLc_X]
theorem mLcC_X : @mLcC = @mLcCX := by
  funext m vs g t e
  unfold mLcC mLcCX
  rw [mLc_X]
def loopN (g : D → St → Option St) (b : MS) : List D → MS
  | [], ρ => some (.nx ρ)
  | d :: ds, ρ => match g d ρ with
    | none => none
    | some ρ1 => match b ρ1 with
      | some (.nx ρ2) => loopN g b ds ρ2
      | some (.ct ρ2) => loopN g b ds ρ2
      | some (.bk ρ2) => some (.nx ρ2)
      | some (.rt d ρ2) => some (.rt d ρ2)
      | some (.er x ρ2) => some (.er x ρ2)
      | none => none
theorem loopK_none {g : D → St → Option St} {b : MS} : ∀ (ds : List D) (ρ : St), loopK none g b ds ρ = loopN g b ds ρ
  | [], ρ => loopK_nil trivial
  | d :: ds, ρ => by
    rw [loopK, if_pos (show kOk none ρ.c from trivial), loopN]
    cases g d ρ with
    | none => rfl
    | some ρ1 =>
      dsimp only
      cases b ρ1 with
      | none => rfl
      | some o => cases o with
        | nx ρ2 => exact loopK_none _ _
        | ct ρ2 => exact loopK_none _ _
        | bk ρ2 => rfl
        | rt d ρ2 => rfl
        | er x ρ2 => rfl
noncomputable def loopX (k : KC) (g : D → St → Option St) (b : MS) (ds : List D) (ρ : St) : Option Out := match k with
  | none => loopN g b ds ρ
  | some x => loopK (some x) g b ds ρ
theorem loopK_X : @loopK = @loopX := by
  funext k g b ds ρ
  cases k with
  | none => exact loopK_none _ _
  | some x => rfl
noncomputable def mForX (m : MM (List D × KC)) (g : D → St → Option St) (b : MS) : MS := mE m fun p => loopX p.2 g b p.1
theorem mForI_X : @mForI = @mForX := by
  funext m g b
  unfold mForI mForX
  rw [loopK_X]
section
variable {α : Type} {le : α → α → Bool}
def insG (le : α → α → Bool) (x : α) : List α → List α
  | [] => [x]
  | y :: ys => match le x y with
    | true => x :: y :: ys
    | false => y :: insG le x ys
def isG (le : α → α → Bool) : List α → List α
  | [] => []
  | x :: xs => insG le x (isG le xs)
theorem insG_perm (x : α) : ∀ l : List α, (insG le x l).Perm (x :: l)
  | [] => .refl _
  | y :: ys => by
    unfold insG
    split
    · exact .refl _
    · exact ((insG_perm x ys).cons y).trans (.swap x y ys)
theorem isG_perm : ∀ l : List α, (isG le l).Perm l
  | [] => .refl _
  | x :: xs => (insG_perm x _).trans ((isG_perm xs).cons x)
theorem insG_pw (tr : ∀ a b d, le a b = true → le b d = true → le a d = true) (to : ∀ a b, (le a b || le b a) = true) (x : α) : ∀ l : List α, l.Pairwise (fun a b => le a b = true) → (insG le x l).Pairwise (fun a b => le a b = true)
  | [], _ => .cons (fun _ h => by cases h) .nil
  | y :: ys, h => by
    unfold insG
    have hy := List.pairwise_cons.mp h
    split
    · rename_i e
      refine .cons (fun z hz => ?_) h
      rcases List.mem_cons.mp hz with rfl | hz
      · exact e
      · exact tr _ _ _ e (hy.1 z hz)
    · rename_i e
      refine .cons (fun z hz => ?_) (insG_pw tr to x ys hy.2)
      rcases List.mem_cons.mp ((insG_perm x ys).subset hz) with rfl | hz
      · have := to z y; rw [e] at this; exact this
      · exact hy.1 z hz
theorem isG_pw (tr : ∀ a b d, le a b = true → le b d = true → le a d = true) (to : ∀ a b, (le a b || le b a) = true) : ∀ l : List α, (isG le l).Pairwise (fun a b => le a b = true)
  | [] => .nil
  | x :: xs => insG_pw tr to x _ (isG_pw tr to xs)
theorem mergeSort_isG (tr : ∀ a b d, le a b = true → le b d = true → le a d = true) (to : ∀ a b, (le a b || le b a) = true) (an : ∀ a b, le a b = true → le b a = true → a = b) (l : List α) : l.mergeSort le = isG le l :=
  List.Perm.eq_of_pairwise (le := fun a b => le a b = true) (fun a b _ _ => an a b) (List.pairwise_mergeSort tr to l) (isG_pw tr to l) ((List.mergeSort_perm l le).trans (isG_perm l).symm)
end
def dSortISX : List D → Option (List D)
  | [.lst ds] => (keysIS ds).map fun ks => (isG PHS.leIS ks).map fun p => .tup [.int p.1, .str p.2]
  | _ => none
theorem dSortIS_X : dSortIS = dSortISX := by
  funext as
  unfold dSortIS dSortISX PHS.sortIS
  rw [show (fun ks : List (Int × Str) => (ks.mergeSort PHS.leIS).map fun p => D.tup [.int p.1, .str p.2]) = fun ks => (isG PHS.leIS ks).map fun p => .tup [.int p.1, .str p.2] from funext fun ks => by rw [mergeSort_isG PHS.leIS_trans PHS.leIS_total (fun a b => PHS.leIS_anti)]]
  try rfl
end PH
end
section
set_option maxHeartbeats 0
namespace K08
open PySem PySem.Spec PyProof.Rows L2 PH
/-! the law's first round: the owners of seven paths -/
noncomputable def mAB : MS := (mSeq (mLkS (pkV 2) (mAsg (mLcD (mWalkD (fun p => kD p.1) (rd 2)) [12] (setD 12) m_law_c1 m_law_e2) (setD 11)))
    (mAsg (mIfE (mTest (mOp dNe (rd 11) (mLstD (ret [])))) (mOpK dDGet (rd 2) (mOp dIx (mOp dIx (mCb (fun as => (dSortIS as).map .lst) (mArg (mLcD (mItems (rd 11)) [12] (setD 12) (ret true) m_law_e3) (ret []))) (mOp dSub (mCb dLenA (mArg (rd 11) (ret []))) (ret (.int 1)))) (ret (.int 1)))) (mTupD (ret []))) (setD 13)))
/-- the slots while the first round goes on: all but 10 to 13 are fixed -/
def e1 (n : Int) (p f z d : PH.Loc) : List PH.Loc := [.non, .dat (.ref 0), .dat (.ref 1), .non, .dat (.int n), .dat (.ref 2), .dat (.ref 4), .dat (.ref 7), .dat (.ref 8), .dat (.int 7), p, f, z, d] ++ List.replicate 12 .non
def dc3 (l : List (Str × D)) : List (Key × D) := mergeKd [] (l.map fun p => (.inr p.1, p.2))
def KS : List Str := ["", "src", "src/a", "doc", "src/a/b"]
theorem all5 {P : Str → Prop} (a : P "") (b : P "src") (c : P "src/a") (d : P "doc") (e : P "src/a/b") : ∀ z ∈ KS, P z := by
  intro z h
  simp only [KS, List.mem_cons, List.not_mem_nil, or_false] at h
  rcases h with rfl | rfl | rfl | rfl | rfl <;> assumption
/-- the beginnings of the seven paths, the longest first -/
def BP : List (Str × List Str) := [("src/a/b", ["src/a/b", "src/a", "src", ""]), ("src/a/b/c", ["src/a/b/c", "src/a/b", "src/a", "src", ""]), ("src/ab", ["src/ab", "src", ""]), ("srcs/a", ["srcs/a", "srcs", ""]), ("doc", ["doc", ""]), ("doc/x", ["doc/x", "doc", ""]), ("other", ["other", ""])]
def fitK : Key → Str → Bool
  | .inr z, p => z.cps.toList.isEmpty || z == p || (z.cps.toList ++ [47]).isPrefixOf p.cps.toList
  | _, _ => false
def fitsD (kd : List (Key × D)) (p : Str) : List D := (kd.filter fun q => fitK q.1 p).map fun q => kD q.1
noncomputable def mABX : MS := (mSeq (mLkS (pkV 2) (mAsg (mLcDX (mWalkD (fun p => kD p.1) (rd 2)) [12] (setD 12) m_law_c1 m_law_e2) (setD 11)))
    (mAsg (mIfE (mTest (mOp dNe (rd 11) (mLstD (ret [])))) (mOpK dDGet (rd 2) (mOp dIx (mOp dIx (mCb (fun as => (dSortISX as).map .lst) (mArg (mLcDX (mItems (rd 11)) [12] (setD 12) (ret true) m_law_e3) (ret []))) (mOp dSub (mCb dLenA (mArg (rd 11) (ret []))) (ret (.int 1)))) (ret (.int 1)))) (mTupD (ret []))) (setD 13)))
theorem mAB_X : mAB = mABX := by
  unfold mAB mABX
  rw [mLcD_X, dSortIS_X]
def Due1 (kd : List (Key × D)) (p : Str) (bs : List Str) : Prop := ∀ (n : Int) (f z d : PH.Loc) (c0 : Cell) (rest : List Cell), mABX ⟨e1 n (.dat (.str p)) f z d, c0 :: .dct kd :: rest⟩ = some (.nx ⟨e1 n (.dat (.str p)) (.dat (.lst (fitsD kd p))) z (.dat (firstOwn kd bs)), c0 :: .dct kd :: rest⟩)
def Due (kd : List (Key × D)) : Prop := ∀ pb ∈ BP, Due1 kd pb.1 pb.2
theorem all7 {P : Str × List Str → Prop} (a : P ("src/a/b", ["src/a/b", "src/a", "src", ""])) (b : P ("src/a/b/c", ["src/a/b/c", "src/a/b", "src/a", "src", ""])) (c : P ("src/ab", ["src/ab", "src", ""])) (d : P ("srcs/a", ["srcs/a", "srcs", ""])) (e : P ("doc", ["doc", ""])) (f : P ("doc/x", ["doc/x", "doc", ""])) (g : P ("other", ["other", ""])) : ∀ pb ∈ BP, P pb := by
  intro pb h
  simp only [BP, List.mem_cons, List.not_mem_nil, or_false] at h
  rcases h with rfl | rfl | rfl | rfl | rfl | rfl | rfl <;> assumption
theorem due0 : Due (dc3 []) := by
  refine all7 ?_ ?_ ?_ ?_ ?_ ?_ ?_ <;> exact fun n f z d c0 rest => by kernel_rfl
theorem due1 (v : D) : ∀ z ∈ KS, Due (dc3 [(z, v)]) := by
  refine all5 ?_ ?_ ?_ ?_ ?_ <;> refine all7 ?_ ?_ ?_ ?_ ?_ ?_ ?_ <;> exact fun n f z d c0 rest => by kernel_rfl
theorem due2 (v w : D) : ∀ z ∈ KS, ∀ y ∈ KS, Due (dc3 [(z, v), (y, w)]) := by
  refine all5 ?_ ?_ ?_ ?_ ?_ <;> refine all5 ?_ ?_ ?_ ?_ ?_ <;> refine all7 ?_ ?_ ?_ ?_ ?_ ?_ ?_ <;> exact fun n f z d c0 rest => by kernel_rfl
end K08
end
section
set_option maxHeartbeats 0
namespace K08
open PySem PySem.Spec PyProof.Rows L2 PH
/-! folders of the paths that the law asks about -/
def FO (p : Str) (fs : List Str) : Prop := ∀ κ : List Cell, F_folders_of [.str p] κ = some (.ok (.tup (fs.map .str)) κ)
theorem fo_of {p : Str} {fs : List Str} (h : ∀ κ : List Cell, ∃ e, m_folders_of ⟨[.dat (.str p), .non], κ⟩ = some (.rt (.tup (fs.map .str)) ⟨e, κ⟩)) : FO p fs := fun κ => by
  obtain ⟨e, h⟩ := h κ
  exact runF_pure (N := 2) (ds := [.str p]) h (frz_strs fs)
def sp (l : List Str) : PH.Loc := .dat (.lst (l.map .str))
theorem fo_a : FO "src/a/b" ["src", "src/a"] := fo_of fun κ => ⟨[.dat (.str "src/a/b"), sp ["src", "a", "b"]], by kernel_rfl⟩
theorem fo_b : FO "src/a/b/c" ["src", "src/a", "src/a/b"] := fo_of fun κ => ⟨[.dat (.str "src/a/b/c"), sp ["src", "a", "b", "c"]], by kernel_rfl⟩
theorem fo_c : FO "src/ab" ["src"] := fo_of fun κ => ⟨[.dat (.str "src/ab"), sp ["src", "ab"]], by kernel_rfl⟩
theorem fo_d : FO "srcs/a" ["srcs"] := fo_of fun κ => ⟨[.dat (.str "srcs/a"), sp ["srcs", "a"]], by kernel_rfl⟩
theorem fo_e : FO "doc" [] := fo_of fun κ => ⟨[.dat (.str "doc"), sp ["doc"]], by kernel_rfl⟩
theorem fo_f : FO "doc/x" ["doc"] := fo_of fun κ => ⟨[.dat (.str "doc/x"), sp ["doc", "x"]], by kernel_rfl⟩
theorem fo_g : FO "other" [] := fo_of fun κ => ⟨[.dat (.str "other"), sp ["other"]], by kernel_rfl⟩
theorem fo_h : FO "src/a/x" ["src", "src/a"] := fo_of fun κ => ⟨[.dat (.str "src/a/x"), sp ["src", "a", "x"]], by kernel_rfl⟩
theorem fo_i : FO "q" [] := fo_of fun κ => ⟨[.dat (.str "q"), sp ["q"]], by kernel_rfl⟩
/-- the cell of the rules -/
def rul (n : Int) (st : Bool) : Cell := .obj "Rules" [("needed", .int n), ("owners", .ref 3), ("sticky", .bl st)]
/-- the owners of a path, by the rules in cell 2 -/
theorem own_at {kd : List (Key × D)} {p : Str} {fs : List Str} (ht : TupVals kd) (hf : FO p fs) (hl : fs.length ≤ 1000) (n : Int) (st : Bool) (c0 c1 : Cell) (rest : List Cell) : F_Rules__owners_of [.ref 2, .str p] (c0 :: c1 :: rul n st :: .dct kd :: rest) = some (.ok (firstOwn kd (p :: (fs.reverse ++ [emp]))) (c0 :: c1 :: rul n st :: .dct kd :: rest)) :=
  owners_of (o := 3) (hf _) hl rfl rfl ht
theorem own_str {kd : List (Key × D)} (ht : TupVals kd) : ∀ bs : List Str, ∃ ss : List Str, firstOwn kd bs = .tup (ss.map .str)
  | [] => ⟨[], rfl⟩
  | z :: zs => by
    unfold firstOwn
    cases hv : valD kd (.inr z) with
    | none => exact own_str ht zs
    | some d => exact ht _ _ hv
theorem flat_strs (ss : List Str) : flat 2 (.tup (ss.map .str)) = true := by
  show flats 1 (ss.map .str) = true
  rw [flats_all, List.all_map]
  exact List.all_eq_true.mpr fun _ _ => rfl
theorem mSeq3 {A B C : MS} {ρ ρ' : PH.St} (h : mSeq A B ρ = some (.nx ρ')) : mSeq A (mSeq B C) ρ = C ρ' := by
  unfold mSeq at *
  cases hA : A ρ with
  | none => rw [hA] at h; cases h
  | some o =>
    rw [hA] at h
    cases o with
    | nx ρ1 =>
      dsimp only at h ⊢
      cases hB : B ρ1 with
      | none => rw [hB] at h; cases h
      | some o2 => rw [hB] at h; cases o2 <;> first | (cases h; rfl) | cases h
    | _ => cases h
def frR (e : List PH.Loc) : FR → Res D
  | .ok d κ => .ok d ⟨e, κ⟩
  | .er y κ => .er y ⟨e, κ⟩
theorem methO_at {x m : Str} {F : FF} {mo : MM D} {ma : MM (List D)} {ρ ρ1 ρ2 : PH.St} {n : Nat} {fs : List (Str × D)} {as : List D} {r : FR} (h : mo ρ = some (.ok (.ref n) ρ1)) (hc : ρ1.c[n]? = some (.obj x fs)) (hl : (fs.lookup m).isNone = true) (ha : ma ρ1 = some (.ok as ρ2)) (hF : F (.ref n :: as) ρ2.c = some r) :
    mMethO x m F mo ma ρ = some (frR ρ2.e r) := by
  unfold mMethO bnd
  rw [h]
  dsimp only
  rw [hc]
  dsimp only
  rw [if_pos ⟨rfl, hl⟩, ha]
  dsimp only
  rw [hF]
  cases r <;> rfl
theorem mOp_at {op : D → D → Option D} {a b : MM D} {ρ ρ1 ρ2 : PH.St} {x y d : D} (h : a ρ = some (.ok x ρ1)) (k : b ρ1 = some (.ok y ρ2)) (ho : op (see1 ρ2.c x) (see1 ρ2.c y) = some d) : mOp op a b ρ = some (.ok d ρ2) := by
  unfold mOp bnd
  rw [h]
  dsimp only
  rw [k]
  dsimp only
  unfold lftK lft
  dsimp only
  rw [ho]
theorem mTest_at {a : MM D} {ρ ρ1 : PH.St} {b : Bool} (h : a ρ = some (.ok (.bl b) ρ1)) : mTest a ρ = some (.ok b ρ1) := by
  unfold mTest bnd
  rw [h]
  rfl
/-- one path of the first round -/
theorem path_ok {kd : List (Key × D)} {p : Str} {fs : List Str} (ht : TupVals kd) (hf : FO p fs) (hl : fs.length ≤ 1000) (hd : Due1 kd p (p :: (fs.reverse ++ [emp]))) (n : Int) (st : Bool) (f z d : PH.Loc) (c0 : Cell) (rest : List Cell) :
    ∃ f' d', m_law_b1 ⟨e1 n (.dat (.str p)) f z d, c0 :: .dct kd :: rul n st :: .dct kd :: rest⟩ = some (.nx ⟨e1 n (.dat (.str p)) f' z d', c0 :: .dct kd :: rul n st :: .dct kd :: rest⟩) := by
  refine ⟨.dat (.lst (fitsD kd p)), .dat (firstOwn kd (p :: (fs.reverse ++ [emp]))), ?_⟩
  have h1 := hd n f z d c0 (rul n st :: .dct kd :: rest)
  rw [← mAB_X] at h1
  refine (mSeq3 h1).trans ?_
  obtain ⟨ss, e⟩ := own_str ht (p :: (fs.reverse ++ [emp]))
  have ho := own_at ht hf hl n st c0 (.dct kd) rest
  rw [e] at ho ⊢
  have hq : eqD (.tup (ss.map .str)) (.tup (ss.map .str)) = some true := eqD_refl (flat_strs ss) (by decide)
  have hm : mMethO "Rules" "owners_of" F_Rules__owners_of (rd 5) (mArg (rd 10) (ret [])) ⟨e1 n (.dat (.str p)) (.dat (.lst (fitsD kd p))) z (.dat (.tup (ss.map .str))), c0 :: .dct kd :: rul n st :: .dct kd :: rest⟩ = some (.ok (.tup (ss.map .str)) ⟨e1 n (.dat (.str p)) (.dat (.lst (fitsD kd p))) z (.dat (.tup (ss.map .str))), c0 :: .dct kd :: rul n st :: .dct kd :: rest⟩) :=
    (methO_at (n := 2) (as := [.str p]) (ρ1 := ⟨e1 n (.dat (.str p)) (.dat (.lst (fitsD kd p))) z (.dat (.tup (ss.map .str))), c0 :: .dct kd :: rul n st :: .dct kd :: rest⟩) (ρ2 := ⟨e1 n (.dat (.str p)) (.dat (.lst (fitsD kd p))) z (.dat (.tup (ss.map .str))), c0 :: .dct kd :: rul n st :: .dct kd :: rest⟩) (r := .ok (.tup (ss.map .str)) (c0 :: .dct kd :: rul n st :: .dct kd :: rest)) (x := "Rules") (m := "owners_of") rfl rfl rfl rfl ho).trans rfl
  refine mIf_f ?_
  exact mTest_at (mOp_at hm (y := .tup (ss.map .str)) (ρ2 := ⟨e1 n (.dat (.str p)) (.dat (.lst (fitsD kd p))) z (.dat (.tup (ss.map .str))), c0 :: .dct kd :: rul n st :: .dct kd :: rest⟩) rfl (by
    show dNe (.tup (ss.map .str)) (.tup (ss.map .str)) = some (.bl false)
    unfold dNe
    rw [hq]
    rfl))
theorem e1_set (n : Int) (p f z d : PH.Loc) (q : D) (κ : List Cell) : setD 10 q ⟨e1 n p f z d, κ⟩ = some ⟨e1 n (.dat q) f z d, κ⟩ := rfl
/-- the first round -/
theorem paths_ok {kd : List (Key × D)} (ht : TupVals kd) (hd : Due kd) (n : Int) (st : Bool) (c0 : Cell) (rest : List Cell) : ∀ (l : List (Str × List Str)), (∀ pb ∈ l, pb ∈ BP ∧ ∃ fs, FO pb.1 fs ∧ fs.length ≤ 1000 ∧ pb.2 = pb.1 :: (fs.reverse ++ [emp])) → ∀ p f z d, ∃ p' f' d', loopK none (setD 10) m_law_b1 (l.map fun pb => .str pb.1) ⟨e1 n p f z d, c0 :: .dct kd :: rul n st :: .dct kd :: rest⟩ = some (.nx ⟨e1 n p' f' z d', c0 :: .dct kd :: rul n st :: .dct kd :: rest⟩)
  | [], _, p, f, z, d => ⟨p, f, d, loopK_nil trivial⟩
  | pb :: l, h, p, f, z, d => by
    obtain ⟨hb, fs, hf, hl, e⟩ := h pb List.mem_cons_self
    have hd1 := hd pb hb
    rw [e] at hd1
    obtain ⟨f1, d1, h1⟩ := path_ok ht hf hl hd1 n st f z d c0 rest
    obtain ⟨p', f', d', h2⟩ := paths_ok ht hd n st c0 rest l (fun q hq => h q (List.mem_cons_of_mem _ hq)) (.dat (.str pb.1)) f1 z d1
    refine ⟨p', f', d', ?_⟩
    exact (loopK_nx (k := none) (ρ := ⟨e1 n p f z d, _⟩) trivial (e1_set n p f z d (.str pb.1) _) h1).trans h2
theorem round1 {kd : List (Key × D)} (ht : TupVals kd) (hd : Due kd) (n : Int) (st : Bool) (c0 : Cell) (rest : List Cell) (p f z d : PH.Loc) : ∃ p' f' d', loopK none (setD 10) m_law_b1 (BP.map fun pb => .str pb.1) ⟨e1 n p f z d, c0 :: .dct kd :: rul n st :: .dct kd :: rest⟩ = some (.nx ⟨e1 n p' f' z d', c0 :: .dct kd :: rul n st :: .dct kd :: rest⟩) :=
  paths_ok ht hd n st c0 rest BP (fun pb h => ⟨h, all7 (P := fun pb => ∃ fs, FO pb.1 fs ∧ fs.length ≤ 1000 ∧ pb.2 = pb.1 :: (fs.reverse ++ [emp])) ⟨_, fo_a, by decide, rfl⟩ ⟨_, fo_b, by decide, rfl⟩ ⟨_, fo_c, by decide, rfl⟩ ⟨_, fo_d, by decide, rfl⟩ ⟨_, fo_e, by decide, rfl⟩ ⟨_, fo_f, by decide, rfl⟩ ⟨_, fo_g, by decide, rfl⟩ pb h⟩) p f z d
end K08
end
section
set_option maxHeartbeats 0
namespace K08
open PySem PySem.Spec PyProof.Rows L2 PH
theorem due3 (v w x : D) : ∀ z ∈ KS, ∀ y ∈ KS, ∀ u ∈ KS, Due (dc3 [(z, v), (y, w), (u, x)]) := by
  refine all5 ?_ ?_ ?_ ?_ ?_ <;> refine all5 ?_ ?_ ?_ ?_ ?_ <;> refine all5 ?_ ?_ ?_ ?_ ?_ <;> refine all7 ?_ ?_ ?_ ?_ ?_ ?_ ?_ <;> exact fun n f z d c0 rest => by kernel_rfl
end K08
end
section
set_option maxHeartbeats 0
namespace K08
open PySem PySem.Spec PyProof.Rows L2 PH
/-! the drawn owners -/
theorem c3 {r : Int} (h : 0 ≤ r) (k : r < 3) : r = 0 ∨ r = 1 ∨ r = 2 := by omega
theorem c4 {r : Int} (h : 0 ≤ r) (k : r < 4) : r = 0 ∨ r = 1 ∨ r = 2 ∨ r = 3 := by omega
theorem c5 {r : Int} (h : 0 ≤ r) (k : r < 5) : r = 0 ∨ r = 1 ∨ r = 2 ∨ r = 3 ∨ r = 4 := by omega
/-- the slots at the start: all but 3 are fixed -/
def e0 (x : PH.Loc) : List PH.Loc := [.non, .dat (.ref 0), .non, x] ++ List.replicate 22 .non
def entD (q : Str × List Str) : D := .tup [.str q.1, .tup (q.2.map .str)]
theorem ent_ok (x : PH.Loc) (a b s : Int) : ∃ (q : Str × List Str) (a' b' s' : Int), q.1 ∈ KS ∧ m_law_e1 ⟨e0 x, [dc a b s]⟩ = some (.ok (entD q) ⟨e0 x, [dc a' b' s']⟩) := by
  obtain ⟨r, a1, b1, s1, r0, r5, h5⟩ := roll (many := 5) (by decide) (by decide) a b s []
  obtain ⟨t, a2, b2, s2, t0, t3, h3⟩ := roll (many := 3) (by decide) (by decide) a1 b1 s1 []
  have hz : ∃ z, z ∈ KS ∧ atI [D.str "", .str "src", .str "src/a", .str "doc", .str "src/a/b"] r = some (.str z) := by
    rcases c5 r0 r5 with rfl | rfl | rfl | rfl | rfl
    · exact ⟨"", by decide, rfl⟩
    · exact ⟨"src", by decide, rfl⟩
    · exact ⟨"src/a", by decide, rfl⟩
    · exact ⟨"doc", by decide, rfl⟩
    · exact ⟨"src/a/b", by decide, rfl⟩
  obtain ⟨z, hk, hz⟩ := hz
  rcases c3 t0 t3 with rfl | rfl | rfl
  · refine ⟨(z, ["ann"]), a2, b2, s2, hk, ?_⟩
    simp only [m_law_e1, mSeq, mE, mIf, mRet, mAsg, mDrop, mAug, mPar, mPar3, mNext, mBreak, mCont, setD, setCons, setTup, setNil, St.put, St.setc, St.add, newC, mOp, mOpK, mUn, mUnK, mCb, mCbK, mCbD, mCbC, mArg, mTest, mTru, mTruA, mAnd, mOr, mNot, mIfE, mChain, mTupD, mLstD, mLstC, mOpC, mPart, mSl, mSlC, mAndV, mOrV, mNotV, bnd, PH.ret, lft, lftK, rd, see1, asB, asI, mSetAt, setC, mMeth, mCall, runF, exitF, mTup, mLst, mRaiseE, mRaise, mTold, truA, truD, dInt, dInt2, dSub, dMod, dDiv, dLt, dLe, dGt, dGe, dNeg, dIpAdd, dLenA, dLen, dIntOf, dAbs, dMax2, dTuple, dListA, dList, dIsN, dFmt, mFmt, dStrI, dIx, dMul, dAdd, dPow, dEq, dNe, eqD_int, eqD_str, List.getElem?_cons_zero, List.getElem?_cons_succ, List.set_cons_zero, List.set_cons_succ, List.length_cons, List.length_nil, List.cons_append, List.nil_append, List.map_cons, List.map_nil, List.replicate_succ, List.replicate_zero, List.take_succ_cons, List.take_zero, if_true, if_false, ite_true, ite_false, Bool.and_true, Bool.true_and, Bool.false_eq_true, reduceIte, Option.map_some, Option.map_none, Option.bind_some, Nat.reduceAdd, Nat.reduceSub, Nat.reduceLT, Nat.reduceLeDiff, decide_true, decide_false, Bool.not_true, Bool.not_false, Bool.or_true, Bool.or_false, Bool.false_or, Bool.true_or, Int.reduceEq, eq_self, atI_0, atI_1, atI_2, mulOk_a, mulOk_b, cap, ixN30, ixN31, ixN32, e0, h5, h3, hz]
    rfl
  · refine ⟨(z, ["ann", "bob"]), a2, b2, s2, hk, ?_⟩
    simp only [m_law_e1, mSeq, mE, mIf, mRet, mAsg, mDrop, mAug, mPar, mPar3, mNext, mBreak, mCont, setD, setCons, setTup, setNil, St.put, St.setc, St.add, newC, mOp, mOpK, mUn, mUnK, mCb, mCbK, mCbD, mCbC, mArg, mTest, mTru, mTruA, mAnd, mOr, mNot, mIfE, mChain, mTupD, mLstD, mLstC, mOpC, mPart, mSl, mSlC, mAndV, mOrV, mNotV, bnd, PH.ret, lft, lftK, rd, see1, asB, asI, mSetAt, setC, mMeth, mCall, runF, exitF, mTup, mLst, mRaiseE, mRaise, mTold, truA, truD, dInt, dInt2, dSub, dMod, dDiv, dLt, dLe, dGt, dGe, dNeg, dIpAdd, dLenA, dLen, dIntOf, dAbs, dMax2, dTuple, dListA, dList, dIsN, dFmt, mFmt, dStrI, dIx, dMul, dAdd, dPow, dEq, dNe, eqD_int, eqD_str, List.getElem?_cons_zero, List.getElem?_cons_succ, List.set_cons_zero, List.set_cons_succ, List.length_cons, List.length_nil, List.cons_append, List.nil_append, List.map_cons, List.map_nil, List.replicate_succ, List.replicate_zero, List.take_succ_cons, List.take_zero, if_true, if_false, ite_true, ite_false, Bool.and_true, Bool.true_and, Bool.false_eq_true, reduceIte, Option.map_some, Option.map_none, Option.bind_some, Nat.reduceAdd, Nat.reduceSub, Nat.reduceLT, Nat.reduceLeDiff, decide_true, decide_false, Bool.not_true, Bool.not_false, Bool.or_true, Bool.or_false, Bool.false_or, Bool.true_or, Int.reduceEq, eq_self, atI_0, atI_1, atI_2, mulOk_a, mulOk_b, cap, ixN30, ixN31, ixN32, e0, h5, h3, hz]
    rfl
  · refine ⟨(z, ["ann", "bob", "cy"]), a2, b2, s2, hk, ?_⟩
    simp only [m_law_e1, mSeq, mE, mIf, mRet, mAsg, mDrop, mAug, mPar, mPar3, mNext, mBreak, mCont, setD, setCons, setTup, setNil, St.put, St.setc, St.add, newC, mOp, mOpK, mUn, mUnK, mCb, mCbK, mCbD, mCbC, mArg, mTest, mTru, mTruA, mAnd, mOr, mNot, mIfE, mChain, mTupD, mLstD, mLstC, mOpC, mPart, mSl, mSlC, mAndV, mOrV, mNotV, bnd, PH.ret, lft, lftK, rd, see1, asB, asI, mSetAt, setC, mMeth, mCall, runF, exitF, mTup, mLst, mRaiseE, mRaise, mTold, truA, truD, dInt, dInt2, dSub, dMod, dDiv, dLt, dLe, dGt, dGe, dNeg, dIpAdd, dLenA, dLen, dIntOf, dAbs, dMax2, dTuple, dListA, dList, dIsN, dFmt, mFmt, dStrI, dIx, dMul, dAdd, dPow, dEq, dNe, eqD_int, eqD_str, List.getElem?_cons_zero, List.getElem?_cons_succ, List.set_cons_zero, List.set_cons_succ, List.length_cons, List.length_nil, List.cons_append, List.nil_append, List.map_cons, List.map_nil, List.replicate_succ, List.replicate_zero, List.take_succ_cons, List.take_zero, if_true, if_false, ite_true, ite_false, Bool.and_true, Bool.true_and, Bool.false_eq_true, reduceIte, Option.map_some, Option.map_none, Option.bind_some, Nat.reduceAdd, Nat.reduceSub, Nat.reduceLT, Nat.reduceLeDiff, decide_true, decide_false, Bool.not_true, Bool.not_false, Bool.or_true, Bool.or_false, Bool.false_or, Bool.true_or, Int.reduceEq, eq_self, atI_0, atI_1, atI_2, mulOk_a, mulOk_b, cap, ixN30, ixN31, ixN32, e0, h5, h3, hz]
    rfl
theorem ents_ok : ∀ (ks acc : List D) (a b s : Int), acc.length + ks.length ≤ 1000 → ∃ (qs : List (Str × List Str)) (a' b' s' : Int), qs.length = ks.length ∧ (∀ q ∈ qs, q.1 ∈ KS) ∧ compK none (setD 3) (ret true) m_law_e1 (e0 .non) ks acc [dc a b s] = some (acc ++ qs.map entD, [dc a' b' s'])
  | [], acc, a, b, s, _ => ⟨[], a, b, s, rfl, List.forall_mem_nil _, (compK_nil (k := none) trivial).trans (by rw [List.map_nil, List.append_nil])⟩
  | k :: ks, acc, a, b, s, hl => by
    have hl : acc.length + (ks.length + 1) ≤ 1000 := hl
    obtain ⟨q, a1, b1, s1, hq, h1⟩ := ent_ok (.dat k) a b s
    obtain ⟨qs, a2, b2, s2, hn, hqs, h2⟩ := ents_ok ks (acc ++ [entD q]) a1 b1 s1 (by rw [List.length_append]; show acc.length + 1 + ks.length ≤ 1000; omega)
    refine ⟨q :: qs, a2, b2, s2, by rw [List.length_cons, hn, List.length_cons], ?_, ?_⟩
    · intro r hr
      rcases List.mem_cons.mp hr with rfl | hr
      · exact hq
      · exact hqs r hr
    · refine (compK_yes (k := none) (ρ1 := ⟨e0 (.dat k), [dc a b s]⟩) (ρ2 := ⟨e0 (.dat k), [dc a b s]⟩) (ρ3 := ⟨e0 (.dat k), [dc a1 b1 s1]⟩) trivial rfl rfl h1 (show acc.length < 100000 by omega)).trans (h2.trans ?_)
      rw [List.map_cons, List.append_assoc]
      rfl
def kv (q : Str × List Str) : Str × D := (q.1, .tup (q.2.map .str))
theorem pairs_ent : ∀ qs : List (Str × List Str), pairsD (qs.map entD) = some (qs.map fun q => (.inr q.1, .tup (q.2.map .str)))
  | [] => rfl
  | q :: qs => by
    rw [List.map_cons, List.map_cons]
    have ih := pairs_ent qs
    simp only [pairsD, entD, keyOf] at ih ⊢
    rw [ih]
    rfl
theorem dict_ent (qs : List (Str × List Str)) : dDict [.lst (qs.map entD)] = some (dc3 (qs.map kv)) := by
  show (pairsD (qs.map entD)).map (mergeKd []) = _
  rw [pairs_ent, dc3, List.map_map]
  rfl
def AllT (kd : List (Key × D)) : Prop := ∀ p ∈ kd, ∃ ss : List Str, p.2 = .tup (ss.map .str)
theorem allT_put {k : Key} {ss : List Str} {kd : List (Key × D)} (h : AllT kd) : AllT (putKd kd k (.tup (ss.map .str))) := by
  intro p hp
  unfold putKd at hp
  split at hp
  · obtain ⟨q, hq, e⟩ := List.mem_map.mp hp
    subst e
    by_cases c : q.1 = k
    · rw [if_pos c]; exact ⟨ss, rfl⟩
    · rw [if_neg c]; exact h q hq
  · rcases List.mem_append.mp hp with hp | hp
    · exact h p hp
    · rcases List.mem_singleton.mp hp with rfl
      exact ⟨ss, rfl⟩
theorem allT_merge : ∀ (qs : List (Str × List Str)) {kd : List (Key × D)}, AllT kd → AllT (mergeKd kd (qs.map fun q => (.inr q.1, .tup (q.2.map .str))))
  | [], _, h => h
  | q :: qs, kd, h => allT_merge qs (kd := putKd kd (.inr q.1) (.tup (q.2.map .str))) (allT_put h)
theorem allT_dc3 (qs : List (Str × List Str)) : AllT (dc3 (qs.map kv)) := by
  unfold dc3
  rw [List.map_map]
  exact allT_merge qs (List.forall_mem_nil _)
theorem val_mem : ∀ {kd : List (Key × D)} {k : Key} {d : D}, valD kd k = some d → ∃ p ∈ kd, p.2 = d
  | [], _, _, h => by cases h
  | p :: r, k, d, h => by
    unfold valD at h
    split at h
    · cases h; exact ⟨p, List.mem_cons_self, rfl⟩
    · obtain ⟨q, hq, e⟩ := val_mem h
      exact ⟨q, List.mem_cons_of_mem _ hq, e⟩
theorem tv_of {kd : List (Key × D)} (h : AllT kd) : TupVals kd := fun k d e => by
  obtain ⟨p, hp, rfl⟩ := val_mem e
  exact h p hp
theorem due_of : ∀ qs : List (Str × List Str), qs.length ≤ 3 → (∀ q ∈ qs, q.1 ∈ KS) → Due (dc3 (qs.map kv))
  | [], _, _ => due0
  | [q], _, h => due1 _ _ (h q (by simp))
  | [q, r], _, h => due2 _ _ _ (h q (by simp)) _ (h r (by simp))
  | [q, r, t], _, h => due3 _ _ _ _ (h q (by simp)) _ (h r (by simp)) _ (h t (by simp))
  | _ :: _ :: _ :: _ :: _, h, _ => by simp at h
end K08
end
section
set_option maxHeartbeats 0
namespace PH
open PySem PySem.Spec PyProof.Rows L2
theorem mLcD_at {m : MM (List D × KC)} {vs : List Nat} {g : D → St → Option St} {t : MM Bool} {e : MM D} {ρ ρ1 : St} {ds ys : List D} {κ : List Cell} (h : m ρ = some (.ok (ds, none) ρ1)) (k : compK none g t e (wipeL ρ1.e vs) ds [] ρ1.c = some (ys, κ)) : mLcD m vs g t e ρ = some (.ok (.lst ys) ⟨ρ1.e, κ⟩) := by
  unfold mLcD mLc bnd
  rw [h]
  dsimp only
  rw [k]
  rfl
theorem mArg_at {m : MM D} {ms : MM (List D)} {ρ ρ1 ρ2 : St} {d : D} {ds : List D} (h : m ρ = some (.ok d ρ1)) (k : ms ρ1 = some (.ok ds ρ2)) : mArg m ms ρ = some (.ok (d :: ds) ρ2) := by
  unfold mArg bnd
  rw [h]
  dsimp only
  rw [k]
  rfl
theorem mDict_at {ma : MM (List D)} {ρ ρ1 : St} {as : List D} {kd : List (Key × D)} (h : ma ρ = some (.ok as ρ1)) (k : dDict (as.map (see1 ρ1.c)) = some kd) : mDict ma ρ = some (.ok (.ref ρ1.c.length) ⟨ρ1.e, ρ1.c ++ [.dct kd]⟩) := by
  unfold mDict bnd
  rw [h]
  dsimp only
  unfold lftK lft
  dsimp only
  rw [k]
  rfl
theorem mAsg_at {m : MM D} {g : D → St → Option St} {ρ ρ1 ρ2 : St} {d : D} (h : m ρ = some (.ok d ρ1)) (k : g d ρ1 = some ρ2) : mAsg m g ρ = some (.nx ρ2) := by
  unfold mAsg mE
  rw [h]
  dsimp only
  rw [k]
  rfl
theorem mRg_at {rg : List D → Option (List D)} {m : MM (List D)} {ρ ρ1 : St} {ds l : List D} (h : m ρ = some (.ok ds ρ1)) (k : rg ds = some l) : mRg rg m ρ = some (.ok (l, none) ρ1) := by
  unfold mRg bnd
  rw [h]
  dsimp only
  rw [k]
  rfl
theorem mCall_at {F : FF} {ma : MM (List D)} {ρ ρ1 : St} {as : List D} {d : D} {κ : List Cell} (h : ma ρ = some (.ok as ρ1)) (k : F as ρ1.c = some (.ok d κ)) : mCall F ma ρ = some (.ok d ⟨ρ1.e, κ⟩) := by
  unfold mCall bnd
  rw [h]
  dsimp only
  rw [k]
theorem mForI_at {m : MM (List D × KC)} {g : D → St → Option St} {b : MS} {ρ ρ1 : St} {ds : List D} {k : KC} {o : Option Out} (h : m ρ = some (.ok (ds, k) ρ1)) (e : loopK k g b ds ρ1 = o) : mForI m g b ρ = o := by
  unfold mForI mE
  rw [h]
  exact e
end PH
namespace K08
open PySem PySem.Spec PyProof.Rows L2 PH
/-- a roll, at slot 1 -/
theorem rollAt {k : Int} (h : 0 < k) (h2 : k ≤ 1000) {e : List PH.Loc} (he : e[1]? = some (.dat (.ref 0))) (a b s : Int) (κ : List Cell) : ∃ r a' b' s', 0 ≤ r ∧ r < k ∧ mCall F__law_roll (mArg (rd 1) (mArg (ret (.int k)) (ret []))) ⟨e, dc a b s :: κ⟩ = some (.ok (.int r) ⟨e, dc a' b' s' :: κ⟩) := by
  obtain ⟨r, a1, b1, s1, r0, r1, hr⟩ := roll h h2 a b s κ
  refine ⟨r, a1, b1, s1, r0, r1, mCall_at (ρ1 := ⟨e, dc a b s :: κ⟩) (as := [.ref 0, .int k]) ?_ hr⟩
  refine mArg_at (ρ1 := ⟨e, dc a b s :: κ⟩) ?_ rfl
  unfold rd
  show (match e[1]? with | some (.dat d) => some (Res.ok d _) | _ => none) = _
  rw [he]
def e2 : List PH.Loc := [.non, .dat (.ref 0), .dat (.ref 1)] ++ List.replicate 23 .non
theorem own_drawn (a b s : Int) : ∃ kd a' b' s', TupVals kd ∧ Due kd ∧ (mAsg (mDict (mArg (mLcD (mRg rg1 (mArg (mCall F__law_roll (mArg (rd 1) (mArg (ret (.int 4)) (ret [])))) (ret []))) [3] (setD 3) (ret true) m_law_e1) (ret []))) (setD 2)) ⟨e0 .non, [dc a b s]⟩ = some (.nx ⟨e2, [dc a' b' s', .dct kd]⟩) := by
  obtain ⟨r, a1, b1, s1, r0, r4, h1⟩ := rollAt (k := 4) (by decide) (by decide) (e := e0 .non) rfl a b s []
  have hn : (rangeD 0 r.toNat).length = r.toNat := by unfold rangeD; rw [List.length_map, List.length_range]
  have h3 : rg1 [.int r] = some (rangeD 0 r.toNat) := by
    show (if rgOk r = true then some (rangeD 0 r.toNat) else none) = _
    rcases c4 r0 r4 with rfl | rfl | rfl | rfl <;> exact if_pos (by decide)
  obtain ⟨qs, a2, b2, s2, hl, hq, h2⟩ := ents_ok (rangeD 0 r.toNat) [] a1 b1 s1 (by rw [hn]; show 0 + _ ≤ 1000; omega)
  refine ⟨dc3 (qs.map kv), a2, b2, s2, tv_of (allT_dc3 qs), due_of qs (by omega) hq, ?_⟩
  refine mAsg_at (mDict_at (mArg_at (mLcD_at (mRg_at (mArg_at h1 rfl) h3) h2) rfl) (dict_ent qs)) ?_
  rfl
end K08
end
section
set_option maxHeartbeats 0
namespace PH
open PySem PySem.Spec PyProof.Rows L2
theorem mMake_at {x : Str} {F : FF} {ds as : List D} {ma : MM (List D)} {ρ ρ1 : St} (h : ma ρ = some (.ok as ρ1)) : mMake x F ds ma ρ = mMake x F ds (ret as) ρ1 := by
  unfold mMake bnd
  rw [h]
  rfl
theorem mTupD_at {m : MM (List D)} {ρ ρ1 : St} {ds : List D} (h : m ρ = some (.ok ds ρ1)) (k : ds.length ≤ cap) : mTupD m ρ = some (.ok (.tup ds) ρ1) := by
  unfold mTupD bnd
  rw [h]
  dsimp only
  unfold lft mTup
  rw [if_pos k]
end PH
namespace K08
open PySem PySem.Spec PyProof.Rows L2 PH
/-- the cell of the change -/
def chg (head : Int) (state : Str) (vr : Nat) : Cell := .obj "Change" [("number", .int 3), ("author", .str "dan"), ("branch", .str "main"), ("head", .int head), ("state", .str state), ("votes", .ref vr), ("remarks", .ref 6)]
def e3 (n : Int) : List PH.Loc := [.non, .dat (.ref 0), .dat (.ref 1), .non, .dat (.int n)] ++ List.replicate 21 .non
def κ1 (a b s n : Int) (st : Bool) (kd : List (Key × D)) : List Cell := [dc a b s, .dct kd, rul n st, .dct kd, chg 7 "open" 5, .dct [], .lst [], .dct [], .lst []]
theorem made (a b s n : Int) (hn : n = 0 ∨ n = 1 ∨ n = 2 ∨ n = 3) (kd : List (Key × D)) : ∃ a' b' s' st, (mAsg (mTupD (mArg (mMake "Rules" F_Rules____init__ [] (mArg (rd 4) (mArg (rd 2) (mArg (mOp dEq (mCall F__law_roll (mArg (rd 1) (mArg (ret (.int 2)) (ret [])))) (ret (.int 0))) (ret []))))) (mArg (mMake "Change" F_Change____init__ [] (mArg (ret (.int 3)) (mArg (ret (.str "dan")) (mArg (ret (.str "main")) (mArg (ret (.int 7)) (ret [])))))) (mArg (newC (.dct [])) (mArg (mLstC (ret [])) (mArg (ret (.int 7)) (ret []))))))) (setTup 5 (setCons (setD 5) (setCons (setD 6) (setCons (setD 7) (setCons (setD 8) (setCons (setD 9) setNil))))))) ⟨e3 n, [dc a b s, .dct kd]⟩ = some (.nx ⟨e1 n .non .non .non .non, κ1 a' b' s' n st kd⟩) := by
  obtain ⟨r, a1, b1, s1, r0, r2, h1⟩ := rollAt (k := 2) (by decide) (by decide) (e := e3 n) rfl a b s [.dct kd]
  refine ⟨a1, b1, s1, decide (r = 0), ?_⟩
  have h2 : mOp dEq (mCall F__law_roll (mArg (rd 1) (mArg (ret (.int 2)) (ret [])))) (ret (.int 0)) ⟨e3 n, [dc a b s, .dct kd]⟩ = some (.ok (.bl (decide (r = 0))) ⟨e3 n, [dc a1 b1 s1, .dct kd]⟩) :=
    mOp_at h1 rfl (by
      show dEq (.int r) (.int 0) = _
      unfold dEq
      rw [eqD_int]
      rfl)
  have h3 : mArg (rd 4) (mArg (rd 2) (mArg (mOp dEq (mCall F__law_roll (mArg (rd 1) (mArg (ret (.int 2)) (ret [])))) (ret (.int 0))) (ret []))) ⟨e3 n, [dc a b s, .dct kd]⟩ = some (.ok [.int n, .ref 1, .bl (decide (r = 0))] ⟨e3 n, [dc a1 b1 s1, .dct kd]⟩) :=
    mArg_at rfl (mArg_at rfl (mArg_at h2 rfl))
  generalize decide (r = 0) = st at h3
  have h4 : mMake "Rules" F_Rules____init__ [] (mArg (rd 4) (mArg (rd 2) (mArg (mOp dEq (mCall F__law_roll (mArg (rd 1) (mArg (ret (.int 2)) (ret [])))) (ret (.int 0))) (ret [])))) ⟨e3 n, [dc a b s, .dct kd]⟩ = some (.ok (.ref 2) ⟨e3 n, [dc a1 b1 s1, .dct kd, rul n st, .dct kd]⟩) := by
    rw [mMake_at h3]
    rcases hn with rfl | rfl | rfl | rfl <;> kernel_rfl
  have h5 : mArg (mMake "Change" F_Change____init__ [] (mArg (ret (.int 3)) (mArg (ret (.str "dan")) (mArg (ret (.str "main")) (mArg (ret (.int 7)) (ret [])))))) (mArg (newC (.dct [])) (mArg (mLstC (ret [])) (mArg (ret (.int 7)) (ret [])))) ⟨e3 n, [dc a1 b1 s1, .dct kd, rul n st, .dct kd]⟩ = some (.ok [.ref 4, .ref 7, .ref 8, .int 7] ⟨e3 n, κ1 a1 b1 s1 n st kd⟩) := by
    kernel_rfl
  exact mAsg_at (mTupD_at (mArg_at h4 h5) (by decide)) rfl
theorem started (a b s : Int) : ∃ kd a' b' s' n st p f z d, TupVals kd ∧ (n = 0 ∨ n = 1 ∨ n = 2 ∨ n = 3) ∧ ∀ M : MS, (mSeq (mAsg (mDict (mArg (mLcD (mRg rg1 (mArg (mCall F__law_roll (mArg (rd 1) (mArg (ret (.int 4)) (ret [])))) (ret []))) [3] (setD 3) (ret true) m_law_e1) (ret []))) (setD 2))
    (mSeq (mAsg (mCall F__law_roll (mArg (rd 1) (mArg (ret (.int 4)) (ret [])))) (setD 4))
    (mSeq (mAsg (mTupD (mArg (mMake "Rules" F_Rules____init__ [] (mArg (rd 4) (mArg (rd 2) (mArg (mOp dEq (mCall F__law_roll (mArg (rd 1) (mArg (ret (.int 2)) (ret [])))) (ret (.int 0))) (ret []))))) (mArg (mMake "Change" F_Change____init__ [] (mArg (ret (.int 3)) (mArg (ret (.str "dan")) (mArg (ret (.str "main")) (mArg (ret (.int 7)) (ret [])))))) (mArg (newC (.dct [])) (mArg (mLstC (ret [])) (mArg (ret (.int 7)) (ret []))))))) (setTup 5 (setCons (setD 5) (setCons (setD 6) (setCons (setD 7) (setCons (setD 8) (setCons (setD 9) setNil)))))))
    (mSeq (mForI (mItems (mLstD (mArg (ret (.str "src/a/b")) (mArg (ret (.str "src/a/b/c")) (mArg (ret (.str "src/ab")) (mArg (ret (.str "srcs/a")) (mArg (ret (.str "doc")) (mArg (ret (.str "doc/x")) (mArg (ret (.str "other")) (ret [])))))))))) (setD 10)
    m_law_b1) M)))) ⟨e0 .non, [dc a b s]⟩ = M ⟨e1 n p f z d, κ1 a' b' s' n st kd⟩ := by
  obtain ⟨kd, a1, b1, s1, ht, hd, h1⟩ := own_drawn a b s
  obtain ⟨n, a2, b2, s2, n0, n4, h2⟩ := rollAt (k := 4) (by decide) (by decide) (e := e2) rfl a1 b1 s1 [.dct kd]
  have hn := c4 n0 n4
  obtain ⟨a3, b3, s3, st, h3⟩ := made a2 b2 s2 n hn kd
  obtain ⟨p, f, d, h4⟩ := round1 ht hd n st (dc a3 b3 s3) [chg 7 "open" 5, .dct [], .lst [], .dct [], .lst []] .non .non .non .non
  refine ⟨kd, a3, b3, s3, n, st, p, f, .non, d, ht, hn, fun M => ?_⟩
  have g2 : mAsg (mCall F__law_roll (mArg (rd 1) (mArg (ret (.int 4)) (ret [])))) (setD 4) ⟨e2, [dc a1 b1 s1, .dct kd]⟩ = some (.nx ⟨e3 n, [dc a2 b2 s2, .dct kd]⟩) := mAsg_at h2 rfl
  refine (mSeq_nx h1).trans ((mSeq_nx g2).trans ((mSeq_nx h3).trans (mSeq_nx ?_)))
  exact mForI_at (ρ1 := ⟨e1 n .non .non .non .non, κ1 a3 b3 s3 n st kd⟩) (k := none) (ds := BP.map fun pb => .str pb.1) (by kernel_rfl) h4
end K08
end
section
set_option maxHeartbeats 0
namespace K08
open PySem PySem.Spec PyProof.Rows L2 PH
theorem ret_ok (e : List PH.Loc) (κ : List Cell) : ∃ ρ, m_law_ret ⟨e, κ⟩ = some (.rt (.bl true) ρ) := ⟨⟨e, (κ ++ [.obj "Rules" []]) ++ [.obj "Rules" []]⟩, by kernel_rfl⟩
theorem dice_ok (c : Int) : ∃ a b s : Int, ∀ κ, F__law_dice [.int c] κ = some (.ok (.lst [.int a, .int b, .int s]) κ) := by
  have hp : (decide ((0 : Int) ≤ 18) && decide ((18 : Int) ≤ 1000000) && decide (Int.natAbs 10 < 2 ^ 64)) = true := by decide
  have hz : ((1009 : Int) != 0) = true := by decide
  by_cases h1 : 0 - 10 < c
  · have d1 : decide (0 - 10 < c) = true := decide_eq_true h1
    by_cases h2 : c < 10
    · have d2 : decide (c < 10) = true := decide_eq_true h2
      refine ⟨if c < 0 then -c else c, 0, 2, fun κ => ?_⟩
      refine runF_pure (N := 1) (ds := [.int c]) (e := [.dat (.int c)]) (d := .lst [.int (if c < 0 then -c else c), .int 0, .int 2]) ?_ rfl
      simp only [m__law_dice, mSeq, mE, mIf, mRet, mAsg, mDrop, mAug, mPar, mPar3, mNext, mBreak, mCont, setD, setCons, setTup, setNil, St.put, St.setc, St.add, newC, mOp, mOpK, mUn, mUnK, mCb, mCbK, mCbD, mCbC, mArg, mTest, mTru, mTruA, mAnd, mOr, mNot, mIfE, mChain, mTupD, mLstD, mLstC, mOpC, mPart, mSl, mSlC, mAndV, mOrV, mNotV, bnd, PH.ret, lft, lftK, rd, see1, asB, asI, mSetAt, setC, mMeth, mCall, runF, exitF, mTup, mLst, mRaiseE, mRaise, mTold, truA, truD, dInt, dInt2, dSub, dMod, dDiv, dLt, dLe, dGt, dGe, dNeg, dIpAdd, dLenA, dLen, dIntOf, dAbs, dMax2, dTuple, dListA, dList, dIsN, dFmt, mFmt, dStrI, dIx, dMul, dAdd, dPow, dEq, dNe, eqD_int, eqD_str, List.getElem?_cons_zero, List.getElem?_cons_succ, List.set_cons_zero, List.set_cons_succ, List.length_cons, List.length_nil, List.cons_append, List.nil_append, List.map_cons, List.map_nil, List.replicate_succ, List.replicate_zero, List.take_succ_cons, List.take_zero, if_true, if_false, ite_true, ite_false, Bool.and_true, Bool.true_and, Bool.false_eq_true, reduceIte, Option.map_some, Option.map_none, Option.bind_some, Nat.reduceAdd, Nat.reduceSub, Nat.reduceLT, Nat.reduceLeDiff, decide_true, decide_false, Bool.not_true, Bool.not_false, Bool.or_true, Bool.or_false, Bool.false_or, Bool.true_or, Int.reduceEq, eq_self, atI_0, atI_1, atI_2, mulOk_a, mulOk_b, cap, ixN30, ixN31, ixN32, d1, d2]
    · have d2 : decide (c < 10) = false := decide_eq_false h2
      refine ⟨c, 1 + c.fmod 1009, if decide ((10 : Int) ^ Int.toNat 18 ≤ c) = true then 1 else 0, fun κ => ?_⟩
      refine runF_pure (N := 1) (ds := [.int c]) (e := [.dat (.int c)]) (d := .lst [.int c, .int (1 + c.fmod 1009), .int (if decide ((10 : Int) ^ Int.toNat 18 ≤ c) = true then 1 else 0)]) ?_ rfl
      simp only [m__law_dice, mSeq, mE, mIf, mRet, mAsg, mDrop, mAug, mPar, mPar3, mNext, mBreak, mCont, setD, setCons, setTup, setNil, St.put, St.setc, St.add, newC, mOp, mOpK, mUn, mUnK, mCb, mCbK, mCbD, mCbC, mArg, mTest, mTru, mTruA, mAnd, mOr, mNot, mIfE, mChain, mTupD, mLstD, mLstC, mOpC, mPart, mSl, mSlC, mAndV, mOrV, mNotV, bnd, PH.ret, lft, lftK, rd, see1, asB, asI, mSetAt, setC, mMeth, mCall, runF, exitF, mTup, mLst, mRaiseE, mRaise, mTold, truA, truD, dInt, dInt2, dSub, dMod, dDiv, dLt, dLe, dGt, dGe, dNeg, dIpAdd, dLenA, dLen, dIntOf, dAbs, dMax2, dTuple, dListA, dList, dIsN, dFmt, mFmt, dStrI, dIx, dMul, dAdd, dPow, dEq, dNe, eqD_int, eqD_str, List.getElem?_cons_zero, List.getElem?_cons_succ, List.set_cons_zero, List.set_cons_succ, List.length_cons, List.length_nil, List.cons_append, List.nil_append, List.map_cons, List.map_nil, List.replicate_succ, List.replicate_zero, List.take_succ_cons, List.take_zero, if_true, if_false, ite_true, ite_false, Bool.and_true, Bool.true_and, Bool.false_eq_true, reduceIte, Option.map_some, Option.map_none, Option.bind_some, Nat.reduceAdd, Nat.reduceSub, Nat.reduceLT, Nat.reduceLeDiff, decide_true, decide_false, Bool.not_true, Bool.not_false, Bool.or_true, Bool.or_false, Bool.false_or, Bool.true_or, Int.reduceEq, eq_self, atI_0, atI_1, atI_2, mulOk_a, mulOk_b, cap, ixN30, ixN31, ixN32, d1, d2, hp, hz]
  · have d1 : decide (0 - 10 < c) = false := decide_eq_false h1
    refine ⟨c, 1 + c.fmod 1009, if decide ((10 : Int) ^ Int.toNat 18 ≤ c) = true then 1 else 0, fun κ => ?_⟩
    refine runF_pure (N := 1) (ds := [.int c]) (e := [.dat (.int c)]) (d := .lst [.int c, .int (1 + c.fmod 1009), .int (if decide ((10 : Int) ^ Int.toNat 18 ≤ c) = true then 1 else 0)]) ?_ rfl
    simp only [m__law_dice, mSeq, mE, mIf, mRet, mAsg, mDrop, mAug, mPar, mPar3, mNext, mBreak, mCont, setD, setCons, setTup, setNil, St.put, St.setc, St.add, newC, mOp, mOpK, mUn, mUnK, mCb, mCbK, mCbD, mCbC, mArg, mTest, mTru, mTruA, mAnd, mOr, mNot, mIfE, mChain, mTupD, mLstD, mLstC, mOpC, mPart, mSl, mSlC, mAndV, mOrV, mNotV, bnd, PH.ret, lft, lftK, rd, see1, asB, asI, mSetAt, setC, mMeth, mCall, runF, exitF, mTup, mLst, mRaiseE, mRaise, mTold, truA, truD, dInt, dInt2, dSub, dMod, dDiv, dLt, dLe, dGt, dGe, dNeg, dIpAdd, dLenA, dLen, dIntOf, dAbs, dMax2, dTuple, dListA, dList, dIsN, dFmt, mFmt, dStrI, dIx, dMul, dAdd, dPow, dEq, dNe, eqD_int, eqD_str, List.getElem?_cons_zero, List.getElem?_cons_succ, List.set_cons_zero, List.set_cons_succ, List.length_cons, List.length_nil, List.cons_append, List.nil_append, List.map_cons, List.map_nil, List.replicate_succ, List.replicate_zero, List.take_succ_cons, List.take_zero, if_true, if_false, ite_true, ite_false, Bool.and_true, Bool.true_and, Bool.false_eq_true, reduceIte, Option.map_some, Option.map_none, Option.bind_some, Nat.reduceAdd, Nat.reduceSub, Nat.reduceLT, Nat.reduceLeDiff, decide_true, decide_false, Bool.not_true, Bool.not_false, Bool.or_true, Bool.or_false, Bool.false_or, Bool.true_or, Int.reduceEq, eq_self, atI_0, atI_1, atI_2, mulOk_a, mulOk_b, cap, ixN30, ixN31, ixN32, d1, hp, hz]
theorem cut1 (d : D) (ds : List D) : PH.cutD (d :: ds) none (some 1) = [d] := by
  have e : HT.sIx (d :: ds).length (d :: ds).length (some 1) = 1 := by
    rw [show (1 : Int) = ((1 : Nat) : Int) from rfl, HT.sIx_nat]
    show min 1 (ds.length + 1) = 1
    omega
  unfold PH.cutD
  rw [e]
  rfl
def r4 (x y : PH.Loc) (ns : List Int) : List PH.Loc := [.dat (.frz (intsOf ns)), .dat (.int 1), x, y]
theorem rounds_end (c : Int) (ns : List Int) : ∃ a b s : Int, (mRet (mLcD (mItems (rd 2)) [3] (setD 3) (ret true) m__law_rounds_e1)) ⟨r4 (.dat (.lst [.int c])) .non ns, []⟩ = some (.rt (.lst [.lst [.int a, .int b, .int s]]) ⟨r4 (.dat (.lst [.int c])) .non ns, []⟩) := by
  obtain ⟨a, b, s, h⟩ := dice_ok c
  refine ⟨a, b, s, ?_⟩
  have h1 : m__law_rounds_e1 ⟨r4 (.dat (.lst [.int c])) (.dat (.int c)) ns, []⟩ = some (.ok (.lst [.int a, .int b, .int s]) ⟨r4 (.dat (.lst [.int c])) (.dat (.int c)) ns, []⟩) :=
    mCall_at (ρ1 := ⟨r4 (.dat (.lst [.int c])) (.dat (.int c)) ns, []⟩) (as := [.int c]) rfl (h [])
  have h2 : compK none (setD 3) (ret true) m__law_rounds_e1 (r4 (.dat (.lst [.int c])) .non ns) [.int c] [] [] = some ([.lst [.int a, .int b, .int s]], []) :=
    (compK_yes (k := none) (ρ1 := ⟨r4 (.dat (.lst [.int c])) (.dat (.int c)) ns, []⟩) (ρ2 := ⟨r4 (.dat (.lst [.int c])) (.dat (.int c)) ns, []⟩) (ρ3 := ⟨r4 (.dat (.lst [.int c])) (.dat (.int c)) ns, []⟩) trivial rfl rfl h1 (by decide)).trans (compK_nil (k := none) trivial)
  have h3 : mLcD (mItems (rd 2)) [3] (setD 3) (ret true) m__law_rounds_e1 ⟨r4 (.dat (.lst [.int c])) .non ns, []⟩ = some (.ok (.lst [.lst [.int a, .int b, .int s]]) ⟨r4 (.dat (.lst [.int c])) .non ns, []⟩) :=
    mLcD_at (ρ1 := ⟨r4 (.dat (.lst [.int c])) .non ns, []⟩) (ds := [.int c]) rfl h2
  unfold mRet mE
  rw [h3]
theorem rounds_ok (ns : List Int) : ∃ a b s : Int, F__law_rounds [.frz (intsOf ns), .int 1] [] = some (.ok (.lst [.lst [.int a, .int b, .int s]]) []) := by
  cases ns with
  | nil =>
    obtain ⟨a, b, s, h⟩ := rounds_end 0 []
    exact ⟨a, b, s, runF_pure (N := 4) (ds := [.frz [], .int 1]) (e := r4 (.dat (.lst [.int 0])) .non []) (d := .lst [.lst [.int a, .int b, .int s]]) ((mSeq_nx (ρ' := ⟨r4 (.dat (.lst [])) .non [], []⟩) (by kernel_rfl)).trans ((mSeq_nx (ρ' := ⟨r4 (.dat (.lst [.int 0])) .non [], []⟩) (by kernel_rfl)).trans h)) rfl⟩
  | cons c ns =>
    obtain ⟨a, b, s, h⟩ := rounds_end c (c :: ns)
    refine ⟨a, b, s, runF_pure (N := 4) (ds := [.frz (intsOf (c :: ns)), .int 1]) (e := r4 (.dat (.lst [.int c])) .non (c :: ns)) (d := .lst [.lst [.int a, .int b, .int s]]) ((mSeq_nx (ρ' := ⟨r4 (.dat (.lst [.int c])) .non (c :: ns), []⟩) ?_).trans ((mSeq_nx (ρ' := ⟨r4 (.dat (.lst [.int c])) .non (c :: ns), []⟩) (by kernel_rfl)).trans h)) rfl⟩
    refine mAsg_at (d := .lst [.int c]) (ρ1 := ⟨r4 .non .non (c :: ns), []⟩) ?_ rfl
    show (match dSl (.frz (.int c :: intsOf ns)) none (some 1) with | some a => some (Res.ok a _) | none => none) = _
    show some (Res.ok (D.lst (PH.cutD (.int c :: intsOf ns) none (some 1))) _) = _
    rw [cut1]
    rfl
theorem call_ok (ns : List Int) : ∃ (dice : List Int) (a b s : Int) (ρ1 : PH.St), dice = [a, b, s] ∧ m_law_call (st0 N_law.length ns) = some (.ok (.lst [.lst (intsOf dice)]) ρ1) := by
  obtain ⟨a, b, s, h⟩ := rounds_ok ns
  exact ⟨[a, b, s], a, b, s, _, rfl, mCall_at (ρ1 := st0 N_law.length ns) (as := [.frz (intsOf ns), .int 1]) rfl h⟩
end K08
end
section
set_option maxHeartbeats 0
namespace K08
open PySem PySem.Spec PyProof.Rows L2 PH
/-! the change that takes nothing any more -/
theorem runF_nx {N : Nat} {m : MS} {ds : List D} {κ : List Cell} {e : List PH.Loc} (h : m ⟨ds.map .dat ++ List.replicate (N - ds.length) .non, κ⟩ = some (.nx ⟨e, κ⟩)) : runF .pure N m ds κ = some (.ok .non κ) := by
  unfold runF
  rw [h]
  have e : exitF .pure κ κ .non = some (.non, κ) := by
    unfold exitF
    exact if_pos List.take_length
  show (exitF .pure κ κ .non).map (fun p => FR.ok p.1 p.2) = _
  rw [e]
  rfl
theorem runF_er {N : Nat} {m : MS} {ds : List D} {κ : List Cell} {x : Str} {e : List PH.Loc} (h : m ⟨ds.map .dat ++ List.replicate (N - ds.length) .non, κ⟩ = some (.er x ⟨e, κ⟩)) : runF .pure N m ds κ = some (.er x κ) := by
  unfold runF
  rw [h]
  have e : exitF .pure κ κ .non = some (.non, κ) := by
    unfold exitF
    exact if_pos List.take_length
  show (exitF .pure κ κ .non).map (fun p => FR.er x p.2) = _
  rw [e]
  rfl
theorem runK_nx {N : Nat} {m : MS} {ds : List D} {κ κ' : List Cell} {e : List PH.Loc} (h : m ⟨ds.map .dat ++ List.replicate (N - ds.length) .non, κ⟩ = some (.nx ⟨e, κ'⟩)) : runF .keep N m ds κ = some (.ok .non κ') := by
  unfold runF
  rw [h]
  rfl
theorem runK_rt {N : Nat} {m : MS} {ds : List D} {κ κ' : List Cell} {d : D} {e : List PH.Loc} (h : m ⟨ds.map .dat ++ List.replicate (N - ds.length) .non, κ⟩ = some (.rt d ⟨e, κ'⟩)) : runF .keep N m ds κ = some (.ok d κ') := by
  unfold runF
  rw [h]
  rfl
theorem runK_er {N : Nat} {m : MS} {ds : List D} {κ κ' : List Cell} {x : Str} {e : List PH.Loc} (h : m ⟨ds.map .dat ++ List.replicate (N - ds.length) .non, κ⟩ = some (.er x ⟨e, κ'⟩)) : runF .keep N m ds κ = some (.er x κ') := by
  unfold runF
  rw [h]
  rfl
section
variable {c0 c1 c2 c3 : Cell} {h : Int} {vr : Nat} {t : List Cell}
theorem co_open : F_Change__check_open [.ref 4] (c0 :: c1 :: c2 :: c3 :: chg h "open" vr :: t) = some (.ok .non (c0 :: c1 :: c2 :: c3 :: chg h "open" vr :: t)) :=
  runF_nx (N := 1) (ds := [.ref 4]) (e := [.dat (.ref 4)]) (by kernel_rfl)
theorem co_shut : F_Change__check_open [.ref 4] (c0 :: c1 :: c2 :: c3 :: chg h "dropped" vr :: t) = some (.er "ReviewError" (c0 :: c1 :: c2 :: c3 :: chg h "dropped" vr :: t)) :=
  runF_er (N := 1) (ds := [.ref 4]) (e := [.dat (.ref 4)]) (by kernel_rfl)
theorem open_go {n : MS} {es : List PH.Loc} : mSeq (mDrop (mMethO "Change" "check_open" F_Change__check_open (rd 0) (ret []))) n ⟨.dat (.ref 4) :: es, c0 :: c1 :: c2 :: c3 :: chg h "open" vr :: t⟩ = n ⟨.dat (.ref 4) :: es, c0 :: c1 :: c2 :: c3 :: chg h "open" vr :: t⟩ := by
  have h1 : mMethO "Change" "check_open" F_Change__check_open (rd 0) (ret []) ⟨.dat (.ref 4) :: es, c0 :: c1 :: c2 :: c3 :: chg h "open" vr :: t⟩ = some (.ok .non ⟨.dat (.ref 4) :: es, c0 :: c1 :: c2 :: c3 :: chg h "open" vr :: t⟩) :=
    (methO_at (n := 4) (as := []) (ρ1 := ⟨.dat (.ref 4) :: es, c0 :: c1 :: c2 :: c3 :: chg h "open" vr :: t⟩) (ρ2 := ⟨.dat (.ref 4) :: es, c0 :: c1 :: c2 :: c3 :: chg h "open" vr :: t⟩) (x := "Change") (m := "check_open") rfl rfl rfl rfl co_open).trans rfl
  refine mSeq_nx ?_
  unfold mDrop mE
  rw [h1]
theorem shut {n : MS} {es : List PH.Loc} : mSeq (mDrop (mMethO "Change" "check_open" F_Change__check_open (rd 0) (ret []))) n ⟨.dat (.ref 4) :: es, c0 :: c1 :: c2 :: c3 :: chg h "dropped" vr :: t⟩ = some (.er "ReviewError" ⟨.dat (.ref 4) :: es, c0 :: c1 :: c2 :: c3 :: chg h "dropped" vr :: t⟩) := by
  have h1 : mMethO "Change" "check_open" F_Change__check_open (rd 0) (ret []) ⟨.dat (.ref 4) :: es, c0 :: c1 :: c2 :: c3 :: chg h "dropped" vr :: t⟩ = some (.er "ReviewError" ⟨.dat (.ref 4) :: es, c0 :: c1 :: c2 :: c3 :: chg h "dropped" vr :: t⟩) :=
    (methO_at (n := 4) (as := []) (ρ1 := ⟨.dat (.ref 4) :: es, c0 :: c1 :: c2 :: c3 :: chg h "dropped" vr :: t⟩) (ρ2 := ⟨.dat (.ref 4) :: es, c0 :: c1 :: c2 :: c3 :: chg h "dropped" vr :: t⟩) (x := "Change") (m := "check_open") rfl rfl rfl rfl co_shut).trans rfl
  unfold mSeq mDrop mE
  rw [h1]
theorem shut_vote {x y : D} : F_Change__vote [.ref 4, x, y] (c0 :: c1 :: c2 :: c3 :: chg h "dropped" vr :: t) = some (.er "ReviewError" (c0 :: c1 :: c2 :: c3 :: chg h "dropped" vr :: t)) := runK_er (N := 3) (ds := [.ref 4, x, y]) shut
theorem shut_remark {x y z w : D} : F_Change__remark [.ref 4, x, y, z, w] (c0 :: c1 :: c2 :: c3 :: chg h "dropped" vr :: t) = some (.er "ReviewError" (c0 :: c1 :: c2 :: c3 :: chg h "dropped" vr :: t)) := runK_er (N := 5) (ds := [.ref 4, x, y, z, w]) shut
theorem shut_move {x y : D} : F_Change__move [.ref 4, x, y] (c0 :: c1 :: c2 :: c3 :: chg h "dropped" vr :: t) = some (.er "ReviewError" (c0 :: c1 :: c2 :: c3 :: chg h "dropped" vr :: t)) := runK_er (N := 5) (ds := [.ref 4, x, y]) shut
theorem shut_settle {x : D} : F_Change__settle [.ref 4, x] (c0 :: c1 :: c2 :: c3 :: chg h "dropped" vr :: t) = some (.er "ReviewError" (c0 :: c1 :: c2 :: c3 :: chg h "dropped" vr :: t)) := runK_er (N := 7) (ds := [.ref 4, x]) shut
theorem shut_state {x : D} : F_Change__state_to [.ref 4, x] (c0 :: c1 :: c2 :: c3 :: chg h "dropped" vr :: t) = some (.er "ReviewError" (c0 :: c1 :: c2 :: c3 :: chg h "dropped" vr :: t)) := runK_er (N := 2) (ds := [.ref 4, x]) shut
theorem drop_ok : F_Change__state_to [.ref 4, .str "dropped"] (c0 :: c1 :: c2 :: c3 :: chg h "open" vr :: t) = some (.ok .non (c0 :: c1 :: c2 :: c3 :: chg h "dropped" vr :: t)) :=
  runK_nx (N := 2) (ds := [.ref 4, .str "dropped"]) (e := [.dat (.ref 4), .dat (.str "dropped")]) (open_go.trans (by kernel_rfl))
end
end K08
end
section
set_option maxHeartbeats 0
namespace PH
open PySem PySem.Spec PyProof.Rows L2
theorem rd_at {i : Nat} {e : List Loc} {κ : List Cell} {d : D} (h : e[i]? = some (.dat d)) : rd i ⟨e, κ⟩ = some (.ok d ⟨e, κ⟩) := by
  unfold rd
  show (match e[i]? with | some (.dat d) => some (Res.ok d _) | _ => none) = _
  rw [h]
theorem app_at {i : Nat} {e : List Loc} {κ : List Cell} {ds : List D} {d : D} {ma : MM (List D)} (h : e[i]? = some (.dat (.ref κ.length))) (ha : ma ⟨e, κ ++ [.lst ds]⟩ = some (.ok [d] ⟨e, κ ++ [.lst ds]⟩)) (hl : ds.length < cap) : mDrop (mMeth mdAppend (rd i) ma) ⟨e, κ ++ [.lst ds]⟩ = some (.nx ⟨e, κ ++ [.lst (ds ++ [d])]⟩) := by
  have hg : (κ ++ [Cell.lst ds])[κ.length]? = some (.lst ds) := List.getElem?_concat_length
  have h1 : mMeth mdAppend (rd i) ma ⟨e, κ ++ [.lst ds]⟩ = some (.ok .non ⟨e, κ ++ [.lst (ds ++ [d])]⟩) := by
    unfold mMeth bnd
    rw [rd_at h]
    dsimp only
    rw [hg]
    dsimp only
    rw [ha]
    dsimp only
    rw [hg]
    dsimp only
    unfold mdAppend
    dsimp only
    rw [if_pos hl]
    show some (Res.ok D.non ⟨e, (κ ++ [Cell.lst ds]).set κ.length (.lst (ds ++ [d]))⟩) = _
    rw [List.set_append_right _ _ (Nat.le_refl _), Nat.sub_self]
    rfl
  unfold mDrop mE
  rw [h1]
end PH
namespace K08
open PySem PySem.Spec PyProof.Rows L2 PH
section
variable {c0 c1 c2 c3 : Cell} {h : Int} {vr : Nat} {t : List Cell} {e : List PH.Loc}
def RE : D := .str "ReviewError"
theorem told {m : Str} {F : FF} {ma : MM (List D)} {as : List D} (he : e[6]? = some (.dat (.ref 4))) (hm : (List.lookup m [("number", D.int 3), ("author", .str "dan"), ("branch", .str "main"), ("head", .int h), ("state", .str "dropped"), ("votes", .ref vr), ("remarks", .ref 6)]).isNone = true)
    (ha : ma ⟨e, c0 :: c1 :: c2 :: c3 :: chg h "dropped" vr :: t⟩ = some (.ok as ⟨e, c0 :: c1 :: c2 :: c3 :: chg h "dropped" vr :: t⟩)) (hF : F (.ref 4 :: as) (c0 :: c1 :: c2 :: c3 :: chg h "dropped" vr :: t) = some (.er "ReviewError" (c0 :: c1 :: c2 :: c3 :: chg h "dropped" vr :: t))) :
    mArg (mTold "ReviewError" "ReviewError" (mMethO "Change" m F (rd 6) ma)) (ret []) ⟨e, c0 :: c1 :: c2 :: c3 :: chg h "dropped" vr :: t⟩ = some (.ok [RE] ⟨e, c0 :: c1 :: c2 :: c3 :: chg h "dropped" vr :: t⟩) := by
  have h1 := methO_at (m := m) (mo := rd 6) (F := F) (n := 4) (x := "Change") (rd_at he) rfl hm ha hF
  refine mArg_at (ρ1 := ⟨e, c0 :: c1 :: c2 :: c3 :: chg h "dropped" vr :: t⟩) ?_ rfl
  unfold mTold
  rw [h1]
  rfl
noncomputable def mEnd : MS := (mSeq (mDrop (mMethO "Change" "state_to" F_Change__state_to (rd 6) (mArg (ret (.str "dropped")) (ret []))))
    (mSeq (mAsg (mLstC (mArg (mTold "ReviewError" "ReviewError" (mMethO "Change" "vote" F_Change__vote (rd 6) (mArg (ret (.str "ann")) (mArg (ret (.int 1)) (ret []))))) (ret []))) (setD 25))
    (mSeq (mDrop (mMeth mdAppend (rd 25) (mArg (mTold "ReviewError" "ReviewError" (mMethO "Change" "remark" F_Change__remark (rd 6) (mArg (ret (.str "ann")) (mArg (ret (.str "p")) (mArg (ret (.int 0)) (mArg (ret (.str "t")) (ret []))))))) (ret []))))
    (mSeq (mDrop (mMeth mdAppend (rd 25) (mArg (mTold "ReviewError" "ReviewError" (mMethO "Change" "move" F_Change__move (rd 6) (mArg (ret (.int 1)) (mArg (ret (.bl true)) (ret []))))) (ret []))))
    (mSeq (mDrop (mMeth mdAppend (rd 25) (mArg (mTold "ReviewError" "ReviewError" (mMethO "Change" "settle" F_Change__settle (rd 6) (mArg (ret (.int 0)) (ret [])))) (ret []))))
    (mSeq (mDrop (mMeth mdAppend (rd 25) (mArg (mTold "ReviewError" "ReviewError" (mMethO "Change" "state_to" F_Change__state_to (rd 6) (mArg (ret (.str "landed")) (ret [])))) (ret []))))
    (mIf (mTest (mOp dNe (rd 25) (mOp dMul (mLstD (mArg (ret (.str "ReviewError")) (ret []))) (ret (.int 5)))))
    (mRet (ret (.bl false)))
    mNext)))))))
theorem end_ok (hl : e.length = 26) (he : e[6]? = some (.dat (.ref 4))) : ∃ ρ, mEnd ⟨e, c0 :: c1 :: c2 :: c3 :: chg h "open" vr :: t⟩ = some (.nx ρ) := by
  have g1 : mDrop (mMethO "Change" "state_to" F_Change__state_to (rd 6) (mArg (ret (.str "dropped")) (ret []))) ⟨e, c0 :: c1 :: c2 :: c3 :: chg h "open" vr :: t⟩ = some (.nx ⟨e, c0 :: c1 :: c2 :: c3 :: chg h "dropped" vr :: t⟩) := by
    have := methO_at (m := "state_to") (mo := rd 6) (ma := mArg (ret (.str "dropped")) (ret [])) (F := F_Change__state_to) (n := 4) (x := "Change") (as := [.str "dropped"]) (ρ2 := ⟨e, c0 :: c1 :: c2 :: c3 :: chg h "open" vr :: t⟩) (rd_at (κ := c0 :: c1 :: c2 :: c3 :: chg h "open" vr :: t) he) rfl rfl rfl drop_ok
    unfold mDrop mE
    rw [this]
    rfl
  generalize hκ : c0 :: c1 :: c2 :: c3 :: chg h "dropped" vr :: t = κ at g1
  have he' : (e.set 25 (.dat (.ref κ.length)))[6]? = some (.dat (.ref 4)) := by rw [List.getElem?_set_ne (by decide)]; exact he
  have h25 : (e.set 25 (.dat (.ref κ.length)))[25]? = some (.dat (.ref κ.length)) := List.getElem?_set_self (by omega)
  have g2 : mAsg (mLstC (mArg (mTold "ReviewError" "ReviewError" (mMethO "Change" "vote" F_Change__vote (rd 6) (mArg (ret (.str "ann")) (mArg (ret (.int 1)) (ret []))))) (ret []))) (setD 25) ⟨e, κ⟩ = some (.nx ⟨e.set 25 (.dat (.ref κ.length)), κ ++ [.lst [RE]]⟩) := by
    have h1 : mLstC (mArg (mTold "ReviewError" "ReviewError" (mMethO "Change" "vote" F_Change__vote (rd 6) (mArg (ret (.str "ann")) (mArg (ret (.int 1)) (ret []))))) (ret [])) ⟨e, κ⟩ = some (.ok (.ref κ.length) ⟨e, κ ++ [.lst [RE]]⟩) := by
      subst hκ
      unfold mLstC bnd
      rw [told he rfl rfl shut_vote]
      rfl
    refine mAsg_at h1 ?_
    unfold setD
    rw [if_pos (show 25 < e.length by omega)]
    rfl
  refine ⟨⟨e.set 25 (.dat (.ref κ.length)), κ ++ [.lst [RE, RE, RE, RE, RE]]⟩, ?_⟩
  refine (mSeq_nx g1).trans ((mSeq_nx g2).trans ?_)
  have ts : ∀ ds : List D, κ ++ [Cell.lst ds] = c0 :: c1 :: c2 :: c3 :: chg h "dropped" vr :: (t ++ [.lst ds]) := fun ds => by rw [← hκ]; rfl
  refine (mSeq_nx (app_at (d := RE) h25 (by rw [ts]; exact told he' rfl rfl shut_remark) (by decide))).trans ?_
  refine (mSeq_nx (app_at (d := RE) h25 (by rw [ts]; exact told he' rfl rfl shut_move) (by decide))).trans ?_
  refine (mSeq_nx (app_at (d := RE) h25 (by rw [ts]; exact told he' rfl rfl shut_settle) (by decide))).trans ?_
  refine (mSeq_nx (app_at (d := RE) h25 (by rw [ts]; exact told he' rfl rfl shut_state) (by decide))).trans ?_
  refine mIf_f (mTest_at (mOp_at (rd_at h25) (y := .lst [RE, RE, RE, RE, RE]) rfl ?_))
  have hs : see1 (κ ++ [Cell.lst [RE, RE, RE, RE, RE]]) (.ref κ.length) = .lst [RE, RE, RE, RE, RE] := by
    unfold see1
    dsimp only
    rw [List.getElem?_concat_length]
  show dNe (see1 (κ ++ [Cell.lst [RE, RE, RE, RE, RE]]) (.ref κ.length)) (.lst [RE, RE, RE, RE, RE]) = _
  rw [hs]
  rfl
end
end K08
end
section
set_option maxHeartbeats 0
namespace PH
open PySem PySem.Spec PyProof.Rows L2
theorem put_at {md my mv : MM D} {ρ : St} {n : Nat} {kd : List (Key × D)} {k : Key} {y v : D} (h1 : mv ρ = some (.ok v ρ)) (h2 : md ρ = some (.ok (.ref n) ρ)) (h3 : my ρ = some (.ok y ρ)) (hc : ρ.c[n]? = some (.dct kd)) (hk : keyOf y = some k) (hl : kd.length < cap) : mDPut md my mv ρ = some (.nx (ρ.setc n (.dct (putKd kd k v)))) := by
  unfold mDPut mE
  rw [h1]
  dsimp only
  rw [h2]
  dsimp only
  rw [h3]
  dsimp only
  unfold putDK
  dsimp only
  rw [hc]
  dsimp only
  rw [hk]
  dsimp only
  rw [if_pos hl]
theorem drop_none : ∀ {kd : List (Key × D)} {k : Key}, valD kd k = none → dropKd kd k = kd
  | [], _, _ => rfl
  | p :: r, k, h => by
    unfold valD at h
    split at h
    · cases h
    · rename_i hne
      have ih := drop_none h
      unfold dropKd at ih ⊢
      rw [List.filter_cons, if_pos (by simpa using hne), ih]
theorem set_same {α : Type} {l : List α} {n : Nat} {a : α} (h : l[n]? = some a) : l.set n a = l := by
  apply List.ext_getElem?
  intro i
  by_cases e : i = n
  · subst e
    rw [h, List.getElem?_set_self ((List.getElem?_eq_some_iff.mp h).1)]
  · rw [List.getElem?_set_ne (fun c => e c.symm)]
theorem pop_at {md my mx : MM D} {ρ : St} {n : Nat} {kd : List (Key × D)} {k : Key} {y z : D} (h1 : md ρ = some (.ok (.ref n) ρ)) (h2 : my ρ = some (.ok y ρ)) (h3 : mx ρ = some (.ok z ρ)) (hc : ρ.c[n]? = some (.dct kd)) (hk : keyOf y = some k) : mDrop (mDPop2 md my mx) ρ = some (.nx (ρ.setc n (.dct (dropKd kd k)))) := by
  have hs : seeD ρ.c (.ref n) = some kd := by unfold seeD; dsimp only; rw [hc]
  have h4 : ∃ d, mDPop2 md my mx ρ = some (.ok d (ρ.setc n (.dct (dropKd kd k)))) := by
    unfold mDPop2 bnd
    rw [h1]
    dsimp only
    unfold lftK lft
    dsimp only
    rw [hs]
    dsimp only
    rw [h2]
    dsimp only
    rw [h3]
    dsimp only
    rw [hc]
    dsimp only
    rw [hk]
    dsimp only
    cases hv : valD kd k with
    | some d => exact ⟨d, rfl⟩
    | none =>
      refine ⟨z, ?_⟩
      rw [drop_none hv]
      show some (Res.ok z ρ) = some (Res.ok z ⟨ρ.e, ρ.c.set n (.dct kd)⟩)
      rw [set_same hc]
  obtain ⟨d, h4⟩ := h4
  unfold mDrop mE
  rw [h4]
end PH
namespace K08
open PySem PySem.Spec PyProof.Rows L2 PH
section
variable {c0 c1 c2 c3 : Cell} {h : Int} {vr : Nat} {t : List Cell} {V : List (Key × D)}
def names : List Str := ["ann", "bob", "cy", "dan", "eve"]
def voters : List Str := ["ann", "bob", "cy", "eve"]
theorem all4 {P : Str → Prop} (a : P "ann") (b : P "bob") (c : P "cy") (e : P "eve") : ∀ z ∈ voters, P z := by
  intro z h
  simp only [voters, List.mem_cons, List.not_mem_nil, or_false] at h
  rcases h with rfl | rfl | rfl | rfl <;> assumption
/-- a vote that may not be -/
theorem vote_bad {x : Str} {v : Int} (hx : x ∈ names) (hv : v = -1 ∨ v = 0 ∨ v = 1 ∨ v = 2) (hb : x = "dan" ∨ v = 2) : F_Change__vote [.ref 4, .str x, .int v] (c0 :: c1 :: c2 :: c3 :: chg h "open" vr :: t) = some (.er "ReviewError" (c0 :: c1 :: c2 :: c3 :: chg h "open" vr :: t)) := by
  refine runK_er (N := 3) (ds := [.ref 4, .str x, .int v]) (e := [.dat (.ref 4), .dat (.str x), .dat (.int v)]) (open_go.trans ?_)
  rcases hb with rfl | rfl
  · rcases hv with rfl | rfl | rfl | rfl <;> kernel_rfl
  · simp only [names, List.mem_cons, List.not_mem_nil, or_false] at hx
    rcases hx with rfl | rfl | rfl | rfl | rfl <;> kernel_rfl
/-- a vote that is set -/
theorem vote_set {v : Int} (hv : v = -1 ∨ v = 1) (hc : (c0 :: c1 :: c2 :: c3 :: chg h "open" vr :: t)[vr]? = some (.dct V)) (hl : V.length < cap) : ∀ x ∈ voters, F_Change__vote [.ref 4, .str x, .int v] (c0 :: c1 :: c2 :: c3 :: chg h "open" vr :: t) = some (.ok .non ((c0 :: c1 :: c2 :: c3 :: chg h "open" vr :: t).set vr (.dct (putKd V (.inr x) (.int v))))) := by
  have go : ∀ x : Str, (mIf (mOr (mTest (mOp (inD true) (rd 2) (mTupD (mArg (ret (.int 1)) (mArg (ret (.int 0)) (mArg (mUn dNeg (ret (.int 1))) (ret []))))))) (mTest (mOp dEq (rd 1) (mUnK (fldOf "Change" "author") (rd 0))))) (mRaiseE "ReviewError" (joinM [(ret (.str "no vote of ")), (mFmt (rd 1)), (ret (.str ": ")), (mFmt (rd 2))] Str.empty)) mNext) ⟨[.dat (.ref 4), .dat (.str x), .dat (.int v)], c0 :: c1 :: c2 :: c3 :: chg h "open" vr :: t⟩ = some (.nx ⟨[.dat (.ref 4), .dat (.str x), .dat (.int v)], c0 :: c1 :: c2 :: c3 :: chg h "open" vr :: t⟩) → (mTest (mOp dEq (rd 2) (ret (.int 0)))) ⟨[.dat (.ref 4), .dat (.str x), .dat (.int v)], c0 :: c1 :: c2 :: c3 :: chg h "open" vr :: t⟩ = some (.ok false ⟨[.dat (.ref 4), .dat (.str x), .dat (.int v)], c0 :: c1 :: c2 :: c3 :: chg h "open" vr :: t⟩) → F_Change__vote [.ref 4, .str x, .int v] (c0 :: c1 :: c2 :: c3 :: chg h "open" vr :: t) = some (.ok .non ((c0 :: c1 :: c2 :: c3 :: chg h "open" vr :: t).set vr (.dct (putKd V (.inr x) (.int v))))) := fun x g1 g2 =>
    runK_nx (N := 3) (ds := [.ref 4, .str x, .int v]) (e := [.dat (.ref 4), .dat (.str x), .dat (.int v)]) (open_go.trans ((mSeq_nx g1).trans ((mIf_f g2).trans (put_at (n := vr) (k := .inr x) rfl rfl rfl hc rfl hl))))
  rcases hv with rfl | rfl <;> refine all4 ?_ ?_ ?_ ?_ <;> exact go _ (by kernel_rfl) (by kernel_rfl)
/-- a vote that is taken back -/
theorem vote_zero (hc : (c0 :: c1 :: c2 :: c3 :: chg h "open" vr :: t)[vr]? = some (.dct V)) : ∀ x ∈ voters, F_Change__vote [.ref 4, .str x, .int 0] (c0 :: c1 :: c2 :: c3 :: chg h "open" vr :: t) = some (.ok .non ((c0 :: c1 :: c2 :: c3 :: chg h "open" vr :: t).set vr (.dct (dropKd V (.inr x))))) := by
  have go : ∀ x : Str, (mIf (mOr (mTest (mOp (inD true) (rd 2) (mTupD (mArg (ret (.int 1)) (mArg (ret (.int 0)) (mArg (mUn dNeg (ret (.int 1))) (ret []))))))) (mTest (mOp dEq (rd 1) (mUnK (fldOf "Change" "author") (rd 0))))) (mRaiseE "ReviewError" (joinM [(ret (.str "no vote of ")), (mFmt (rd 1)), (ret (.str ": ")), (mFmt (rd 2))] Str.empty)) mNext) ⟨[.dat (.ref 4), .dat (.str x), .dat (.int 0)], c0 :: c1 :: c2 :: c3 :: chg h "open" vr :: t⟩ = some (.nx ⟨[.dat (.ref 4), .dat (.str x), .dat (.int 0)], c0 :: c1 :: c2 :: c3 :: chg h "open" vr :: t⟩) → (mTest (mOp dEq (rd 2) (ret (.int 0)))) ⟨[.dat (.ref 4), .dat (.str x), .dat (.int 0)], c0 :: c1 :: c2 :: c3 :: chg h "open" vr :: t⟩ = some (.ok true ⟨[.dat (.ref 4), .dat (.str x), .dat (.int 0)], c0 :: c1 :: c2 :: c3 :: chg h "open" vr :: t⟩) → F_Change__vote [.ref 4, .str x, .int 0] (c0 :: c1 :: c2 :: c3 :: chg h "open" vr :: t) = some (.ok .non ((c0 :: c1 :: c2 :: c3 :: chg h "open" vr :: t).set vr (.dct (dropKd V (.inr x))))) := fun x g1 g2 =>
    runK_nx (N := 3) (ds := [.ref 4, .str x, .int 0]) (e := [.dat (.ref 4), .dat (.str x), .dat (.int 0)]) (open_go.trans ((mSeq_nx g1).trans ((mIf_t g2).trans (pop_at (n := vr) (k := .inr x) rfl rfl rfl hc rfl))))
  refine all4 ?_ ?_ ?_ ?_ <;> exact go _ (by kernel_rfl) (by kernel_rfl)
end
end K08
end
section
set_option maxHeartbeats 0
namespace PH
open PySem PySem.Spec PyProof.Rows L2
theorem appM {mo : MM D} {ma : MM (List D)} {ρ : St} {n : Nat} {ds : List D} {d : D} (h1 : mo ρ = some (.ok (.ref n) ρ)) (hc : ρ.c[n]? = some (.lst ds)) (h2 : ma ρ = some (.ok [d] ρ)) (hl : ds.length < cap) : mDrop (mMeth mdAppend mo ma) ρ = some (.nx (ρ.setc n (.lst (ds ++ [d])))) := by
  have h4 : mMeth mdAppend mo ma ρ = some (.ok .non (ρ.setc n (.lst (ds ++ [d])))) := by
    unfold mMeth bnd
    rw [h1]
    dsimp only
    rw [hc]
    dsimp only
    rw [h2]
    dsimp only
    rw [hc]
    dsimp only
    unfold mdAppend
    dsimp only
    rw [if_pos hl]
  unfold mDrop mE
  rw [h4]
theorem mChain_at {op op' : D → D → Option D} {a b d : MM D} {ρ : St} {x y w r : D} (h1 : a ρ = some (.ok x ρ)) (h2 : b ρ = some (.ok y ρ)) (h3 : op (see1 ρ.c x) (see1 ρ.c y) = some (.bl true)) (h4 : d ρ = some (.ok w ρ)) (h5 : op' (see1 ρ.c y) (see1 ρ.c w) = some r) : mChain op op' a b d ρ = some (.ok r ρ) := by
  unfold mChain bnd
  rw [h1]
  dsimp only
  rw [h2]
  dsimp only
  unfold lftK lft
  dsimp only
  rw [h3]
  dsimp only [asB]
  rw [if_pos rfl, h4]
  dsimp only
  rw [h5]
end PH
namespace K08
open PySem PySem.Spec PyProof.Rows L2 PH
section
variable {c0 c1 c2 c3 c5 : Cell} {h : Int} {vr : Nat} {t : List Cell} {R : List D}
/-- a remark -/
def rem (x : Str) (i : Int) (b : Bool) : D := .tup [.str x, .str "p", .int i, .str "text", .bl b]
theorem remark_ok {x : Str} {i : Int} (hl : R.length < cap) : F_Change__remark [.ref 4, .str x, .str "p", .int i, .str "text"] (c0 :: c1 :: c2 :: c3 :: chg h "open" vr :: c5 :: .lst R :: t) = some (.ok (.int R.length) (c0 :: c1 :: c2 :: c3 :: chg h "open" vr :: c5 :: .lst (R ++ [rem x i true]) :: t)) := by
  have e : ((R ++ [rem x i true]).length : Int) - 1 = R.length := by rw [List.length_append]; show ((R.length + 1 : Nat) : Int) - 1 = _; omega
  refine runK_rt (N := 5) (ds := [.ref 4, .str x, .str "p", .int i, .str "text"]) (e := [.dat (.ref 4), .dat (.str x), .dat (.str "p"), .dat (.int i), .dat (.str "text")]) (open_go.trans ((mSeq_nx (appM (n := 6) (d := rem x i true) rfl rfl rfl hl)).trans ?_))
  rw [← e]
  kernel_rfl
theorem le20 {k : Nat} (h : k ≤ 20) : k = 0 ∨ k = 1 ∨ k = 2 ∨ k = 3 ∨ k = 4 ∨ k = 5 ∨ k = 6 ∨ k = 7 ∨ k = 8 ∨ k = 9 ∨ k = 10 ∨ k = 11 ∨ k = 12 ∨ k = 13 ∨ k = 14 ∨ k = 15 ∨ k = 16 ∨ k = 17 ∨ k = 18 ∨ k = 19 ∨ k = 20 := by omega
theorem fixed_says {k : Nat} (h : k ≤ 20) {es : List PH.Loc} {κ : List Cell} : (mRaiseE "ReviewError" (joinM [(ret (.str "no remark has the number ")), (mFmt (rd 1))] Str.empty)) ⟨.dat (.ref 4) :: .dat (.int k) :: es, κ⟩ = some (.er "ReviewError" ⟨.dat (.ref 4) :: .dat (.int k) :: es, κ⟩) := by
  rcases le20 h with rfl | rfl | rfl | rfl | rfl | rfl | rfl | rfl | rfl | rfl | rfl | rfl | rfl | rfl | rfl | rfl | rfl | rfl | rfl | rfl | rfl <;> kernel_rfl
theorem fits {k : Nat} {b : Bool} (hb : decide ((k : Int) < (R.length : Int)) = b) {es : List PH.Loc} : (mNot (mTest (mChain dLe dLt (ret (.int 0)) (rd 1) (mCb dLenA (mArg (mUnK (fldOf "Change" "remarks") (rd 0)) (ret [])))))) ⟨.dat (.ref 4) :: .dat (.int k) :: es, c0 :: c1 :: c2 :: c3 :: chg h "open" vr :: c5 :: .lst R :: t⟩ = some (.ok (!b) ⟨.dat (.ref 4) :: .dat (.int k) :: es, c0 :: c1 :: c2 :: c3 :: chg h "open" vr :: c5 :: .lst R :: t⟩) := by
  have d1 : decide ((0 : Int) ≤ (k : Int)) = true := decide_eq_true (by omega)
  have h1 : mChain dLe dLt (ret (.int 0)) (rd 1) (mCb dLenA (mArg (mUnK (fldOf "Change" "remarks") (rd 0)) (ret []))) ⟨.dat (.ref 4) :: .dat (.int k) :: es, c0 :: c1 :: c2 :: c3 :: chg h "open" vr :: c5 :: .lst R :: t⟩ = some (.ok (.bl b) ⟨.dat (.ref 4) :: .dat (.int k) :: es, c0 :: c1 :: c2 :: c3 :: chg h "open" vr :: c5 :: .lst R :: t⟩) := by
    have e1 : dLe (.int 0) (.int k) = some (.bl true) := by show some (D.bl (decide ((0 : Int) ≤ k))) = _; rw [d1]
    have e2 : dLt (.int k) (.int (R.length : Int)) = some (.bl b) := by show some (D.bl (decide ((k : Int) < R.length))) = _; rw [hb]
    have e3 : mCb dLenA (mArg (mUnK (fldOf "Change" "remarks") (rd 0)) (ret [])) ⟨.dat (.ref 4) :: .dat (.int k) :: es, c0 :: c1 :: c2 :: c3 :: chg h "open" vr :: c5 :: .lst R :: t⟩ = some (.ok (.int R.length) ⟨.dat (.ref 4) :: .dat (.int k) :: es, c0 :: c1 :: c2 :: c3 :: chg h "open" vr :: c5 :: .lst R :: t⟩) := by kernel_rfl
    exact mChain_at (x := .int 0) (y := .int k) (w := .int R.length) rfl rfl e1 e3 e2
  unfold mNot mTest bnd
  rw [h1]
  rfl
theorem settle_bad {k : Nat} (hk : k = R.length) (hb : k ≤ 20) : F_Change__settle [.ref 4, .int k] (c0 :: c1 :: c2 :: c3 :: chg h "open" vr :: c5 :: .lst R :: t) = some (.er "ReviewError" (c0 :: c1 :: c2 :: c3 :: chg h "open" vr :: c5 :: .lst R :: t)) := by
  refine runK_er (N := 7) (ds := [.ref 4, .int k]) (e := [.dat (.ref 4), .dat (.int k), .non, .non, .non, .non, .non]) (open_go.trans ?_)
  have d2 : decide ((k : Int) < (R.length : Int)) = false := decide_eq_false (by omega)
  have g : mIf (mNot (mTest (mChain dLe dLt (ret (.int 0)) (rd 1) (mCb dLenA (mArg (mUnK (fldOf "Change" "remarks") (rd 0)) (ret [])))))) (mRaiseE "ReviewError" (joinM [(ret (.str "no remark has the number ")), (mFmt (rd 1))] Str.empty)) mNext ⟨[.dat (.ref 4), .dat (.int k), .non, .non, .non, .non, .non], c0 :: c1 :: c2 :: c3 :: chg h "open" vr :: c5 :: .lst R :: t⟩ = some (.er "ReviewError" ⟨[.dat (.ref 4), .dat (.int k), .non, .non, .non, .non, .non], c0 :: c1 :: c2 :: c3 :: chg h "open" vr :: c5 :: .lst R :: t⟩) :=
    (mIf_t (fits d2)).trans (fixed_says hb)
  show mSeq _ _ _ = _
  unfold mSeq
  show (match mIf (mNot (mTest (mChain dLe dLt (ret (.int 0)) (rd 1) (mCb dLenA (mArg (mUnK (fldOf "Change" "remarks") (rd 0)) (ret [])))))) (mRaiseE "ReviewError" (joinM [(ret (.str "no remark has the number ")), (mFmt (rd 1))] Str.empty)) mNext ⟨[.dat (.ref 4), .dat (.int k), .non, .non, .non, .non, .non], c0 :: c1 :: c2 :: c3 :: chg h "open" vr :: c5 :: .lst R :: t⟩ with | some (.nx ρ') => _ | o => o) = _
  rw [g]
end
end K08
end
section
set_option maxHeartbeats 0
namespace PH
open PySem PySem.Spec PyProof.Rows L2
theorem setAt_at {mv mo mk : MM D} {ρ : St} {n j : Nat} {i : Int} {ds : List D} {v : D} (h1 : mv ρ = some (.ok v ρ)) (h2 : mo ρ = some (.ok (.ref n) ρ)) (h3 : mk ρ = some (.ok (.int i) ρ)) (hc : ρ.c[n]? = some (.lst ds)) (hj : ixN ds.length i = some j) : mSetAt mv mo mk ρ = some (.nx (ρ.setc n (.lst (ds.set j v)))) := by
  unfold mSetAt mE
  rw [h1]
  dsimp only
  rw [h2]
  dsimp only
  rw [h3]
  dsimp only
  unfold setC
  dsimp only
  rw [hc]
  dsimp only
  rw [hj]
/-- a comprehension that takes what fits, as it is -/
theorem compK_filter {g : D → St → Option St} {t : MM Bool} {e : MM D} {ew : List Loc} {κ : List Cell} {f : D → Bool} : ∀ (ds acc : List D), (∀ d ∈ ds, ∃ ρ1, g d ⟨ew, κ⟩ = some ρ1 ∧ ρ1.c = κ ∧ t ρ1 = some (.ok (f d) ρ1) ∧ e ρ1 = some (.ok d ρ1)) → acc.length + ds.length ≤ 1000 → compK none g t e ew ds acc κ = some (acc ++ ds.filter f, κ)
  | [], acc, _, _ => (compK_nil (k := none) trivial).trans (by rw [List.filter_nil, List.append_nil])
  | d :: ds, acc, h, hl => by
    have hl : acc.length + (ds.length + 1) ≤ 1000 := hl
    obtain ⟨ρ1, h1, h2, h3, h4⟩ := h d List.mem_cons_self
    have hr : ∀ d ∈ ds, ∃ ρ1, g d ⟨ew, κ⟩ = some ρ1 ∧ ρ1.c = κ ∧ t ρ1 = some (.ok (f d) ρ1) ∧ e ρ1 = some (.ok d ρ1) := fun d hd => h d (List.mem_cons_of_mem _ hd)
    cases hf : f d with
    | true =>
      rw [hf] at h3
      rw [compK_yes (k := none) trivial h1 h3 h4 (show acc.length < 100000 by omega), h2, compK_filter ds (acc ++ [d]) hr (by rw [List.length_append]; show acc.length + 1 + ds.length ≤ 1000; omega), List.filter_cons, if_pos hf, List.append_assoc]
      rfl
    | false =>
      rw [hf] at h3
      rw [compK_no (k := none) trivial h1 h3, h2, compK_filter ds acc hr (by omega), List.filter_cons, if_neg (by rw [hf]; decide)]
end PH
namespace K08
open PySem PySem.Spec PyProof.Rows L2 PH
section
variable {c0 c1 c2 c3 c5 : Cell} {h : Int} {vr : Nat} {t : List Cell} {R : List D} {V : List (Key × D)}
theorem settle_ok {k : Nat} {x : Str} {i : Int} {b : Bool} (hk : k < R.length) (hr : R[k]? = some (rem x i b)) : F_Change__settle [.ref 4, .int k] (c0 :: c1 :: c2 :: c3 :: chg h "open" vr :: c5 :: .lst R :: t) = some (.ok .non (c0 :: c1 :: c2 :: c3 :: chg h "open" vr :: c5 :: .lst (R.set k (rem x i false)) :: t)) := by
  have d2 : decide ((k : Int) < (R.length : Int)) = true := decide_eq_true (by omega)
  refine runK_nx (N := 7) (ds := [.ref 4, .int k]) (e := [.dat (.ref 4), .dat (.int k), .dat (.str x), .dat (.str "p"), .dat (.int i), .dat (.str "text"), .dat (.bl b)]) (open_go.trans ((mSeq_nx (mIf_f (fits d2))).trans ((mSeq_nx (mAsg_at (mOp_at (x := .ref 6) (y := .int k) (d := rem x i b) rfl rfl ?_) rfl)).trans (setAt_at (n := 6) (i := k) (ds := R) (v := rem x i false) rfl rfl rfl rfl (ixN_k hk)))))
  show atI R (k : Int) = _
  rw [atI_n, hr]
end
end K08
end
section
set_option maxHeartbeats 0
namespace PH
open PySem PySem.Spec PyProof.Rows L2
theorem mOpK_at {op : List Cell → D → D → Option D} {a b : MM D} {ρ ρ1 ρ2 : St} {x y d : D} (h : a ρ = some (.ok x ρ1)) (k : b ρ1 = some (.ok y ρ2)) (ho : op ρ2.c x y = some d) : mOpK op a b ρ = some (.ok d ρ2) := by
  unfold mOpK bnd
  rw [h]
  dsimp only
  rw [k]
  dsimp only
  unfold lftK lft
  dsimp only
  rw [ho]
theorem dget_at {κ : List Cell} {n : Nat} {kd : List (Key × D)} {y d : D} {k : Key} (hc : κ[n]? = some (.dct kd)) (hk : keyOf y = some k) (hv : valD kd k = some d) : dDGet κ (.ref n) y = some d := by
  have hs : seeD κ (.ref n) = some kd := by unfold seeD; dsimp only; rw [hc]
  show ((seeD κ (.ref n)).bind fun kd => (keyOf y).map fun k => valD kd k).bind id = _
  rw [hs, hk]
  exact hv
theorem mRet_at {m : MM D} {ρ ρ1 : St} {d : D} (h : m ρ = some (.ok d ρ1)) : mRet m ρ = some (.rt d ρ1) := by
  unfold mRet mE
  rw [h]
end PH
namespace K08
open PySem PySem.Spec PyProof.Rows L2 PH
section
variable {c0 c1 c2 c3 : Cell} {h : Int} {vr : Nat} {t : List Cell} {V : List (Key × D)}
def fan (V : List (Key × D)) : D → Bool
  | .str z => match valD V (.inr z) with
    | some (.int i) => decide (i = 1)
    | _ => false
  | _ => false
theorem fan_test {e : List PH.Loc} {κ : List Cell} {md mk : MM D} {z : Str} {v : Int} (hd : md ⟨e, κ⟩ = some (.ok (.ref vr) ⟨e, κ⟩)) (hk : mk ⟨e, κ⟩ = some (.ok (.str z) ⟨e, κ⟩)) (hc : κ[vr]? = some (.dct V)) (hv : valD V (.inr z) = some (.int v)) : mTest (mOp dEq (mOpK dDGet md mk) (ret (.int 1))) ⟨e, κ⟩ = some (.ok (fan V (.str z)) ⟨e, κ⟩) := by
  have h1 : mOpK dDGet md mk ⟨e, κ⟩ = some (.ok (.int v) ⟨e, κ⟩) := mOpK_at hd hk (dget_at hc rfl hv)
  refine mTest_at (mOp_at (y := .int 1) h1 rfl ?_)
  show dEq (.int v) (.int 1) = _
  unfold dEq
  rw [eqD_int]
  unfold fan
  dsimp only
  rw [hv]
  rfl
theorem frz_strl {κ : List Cell} {n f : Nat} (ss : List Str) : frz κ n (f + 1) (.lst (ss.map .str)) = some (.lst (ss.map .str)) := by
  show (optAll (frz κ n f) (ss.map .str)).map D.lst = _
  rw [optAll_strs]
  rfl
theorem fan_strs (ss : List Str) : (ss.map D.str).filter (fan V) = (ss.filter fun z => fan V (.str z)).map .str := by
  rw [List.filter_map]
  rfl
theorem supp_ok {ss : List Str} (hc : (c0 :: c1 :: c2 :: c3 :: chg h "open" vr :: t)[vr]? = some (.dct V)) (hs : dSorted [.dct V] = some (ss.map .str)) (hl : ss.length ≤ 1000) (hv : ∀ z ∈ ss, ∃ v : Int, valD V (.inr z) = some (.int v)) :
    F_Change__supporters [.ref 4] (c0 :: c1 :: c2 :: c3 :: chg h "open" vr :: t) = some (.ok (.lst ((ss.map .str).filter (fan V))) (c0 :: c1 :: c2 :: c3 :: chg h "open" vr :: t)) := by
  have h1 : mItems (mCbD dSorted (mArg (mUnK (fldOf "Change" "votes") (rd 0)) (ret []))) ⟨[.dat (.ref 4), .non], c0 :: c1 :: c2 :: c3 :: chg h "open" vr :: t⟩ = some (.ok (ss.map .str, none) ⟨[.dat (.ref 4), .non], c0 :: c1 :: c2 :: c3 :: chg h "open" vr :: t⟩) := by
    have h0 : mArg (mUnK (fldOf "Change" "votes") (rd 0)) (ret []) ⟨[.dat (.ref 4), .non], c0 :: c1 :: c2 :: c3 :: chg h "open" vr :: t⟩ = some (.ok [.ref vr] ⟨[.dat (.ref 4), .non], c0 :: c1 :: c2 :: c3 :: chg h "open" vr :: t⟩) := by kernel_rfl
    have hsee : see1 (c0 :: c1 :: c2 :: c3 :: chg h "open" vr :: t) (.ref vr) = .dct V := by unfold see1; dsimp only; rw [hc]
    unfold mItems mCbD bnd
    rw [h0]
    dsimp only
    unfold lftK lft
    have hm : List.map (see1 (c0 :: c1 :: c2 :: c3 :: chg h "open" vr :: t)) [D.ref vr] = [.dct V] := by rw [List.map_cons, hsee]; rfl
    dsimp only
    rw [hm, hs]
    rfl
  have h2 : compK none (setD 1) m_Change__supporters_c1 m_Change__supporters_e1 (wipeL [.dat (.ref 4), .non] [1]) (ss.map .str) [] (c0 :: c1 :: c2 :: c3 :: chg h "open" vr :: t) = some ((ss.map .str).filter (fan V), c0 :: c1 :: c2 :: c3 :: chg h "open" vr :: t) := by
    refine (compK_filter (f := fan V) (ss.map .str) [] (fun d hd => ?_) (by rw [List.length_map]; show 0 + _ ≤ 1000; omega)).trans rfl
    obtain ⟨z, hz, rfl⟩ := List.mem_map.mp hd
    obtain ⟨v, hv⟩ := hv z hz
    exact ⟨⟨[.dat (.ref 4), .dat (.str z)], c0 :: c1 :: c2 :: c3 :: chg h "open" vr :: t⟩, rfl, rfl, fan_test rfl rfl hc hv, rfl⟩
  have h3 := mLcD_at (m := mItems (mCbD dSorted (mArg (mUnK (fldOf "Change" "votes") (rd 0)) (ret [])))) h1 h2
  refine runF_pure (N := 2) (ds := [.ref 4]) (e := [.dat (.ref 4), .non]) (d := .lst ((ss.map .str).filter (fan V))) ?_ (by rw [fan_strs]; exact frz_strl _)
  exact mRet_at h3
end
end K08
end
section
set_option maxHeartbeats 0
namespace PH
open PySem PySem.Spec PyProof.Rows L2
theorem compD_nil {g : D → St → Option St} {t : MM Bool} {ek e : MM D} {ew : List Loc} {acc : List (Key × D)} {κ : List Cell} : compD none g t ek e ew [] acc κ = some (acc, κ) := by
  unfold compD
  exact if_pos (show kOk none κ from trivial)
theorem compD_yes {g : D → St → Option St} {t : MM Bool} {ek e : MM D} {ew : List Loc} {d y z : D} {k : Key} {ds : List D} {acc : List (Key × D)} {κ : List Cell} {ρ1 ρ2 ρ3 ρ4 : St} (h1 : g d ⟨ew, κ⟩ = some ρ1) (h2 : t ρ1 = some (.ok true ρ2)) (h3 : ek ρ2 = some (.ok y ρ3)) (hk : keyOf y = some k) (h4 : e ρ3 = some (.ok z ρ4)) (hl : acc.length < cap) :
    compD none g t ek e ew (d :: ds) acc κ = compD none g t ek e ew ds (putKd acc k z) ρ4.c := by
  rw [compD, if_pos (show kOk none κ from trivial), h1]
  dsimp only
  rw [h2]
  dsimp only
  rw [h3]
  dsimp only
  rw [hk]
  dsimp only
  rw [h4]
  dsimp only
  rw [if_pos hl]
theorem compD_no {g : D → St → Option St} {t : MM Bool} {ek e : MM D} {ew : List Loc} {d : D} {ds : List D} {acc : List (Key × D)} {κ : List Cell} {ρ1 ρ2 : St} (h1 : g d ⟨ew, κ⟩ = some ρ1) (h2 : t ρ1 = some (.ok false ρ2)) :
    compD none g t ek e ew (d :: ds) acc κ = compD none g t ek e ew ds acc ρ2.c := by
  rw [compD, if_pos (show kOk none κ from trivial), h1]
  dsimp only
  rw [h2]
theorem putKd_len (kd : List (Key × D)) (k : Key) (d : D) : (putKd kd k d).length ≤ kd.length + 1 := by
  unfold putKd
  split
  · rw [List.length_map]; omega
  · rw [List.length_append]; exact Nat.le_refl _
theorem keyOf_kD (k : Key) : keyOf (kD k) = some k := by cases k <;> rfl
def prD (p : Key × D) : D := .tup [kD p.1, p.2]
/-- a dict comprehension that takes the pairs that fit -/
theorem compD_filter {g : D → St → Option St} {t : MM Bool} {ek e : MM D} {ew : List Loc} {κ : List Cell} {f : Key × D → Bool} : ∀ (ps acc : List (Key × D)), (∀ p ∈ ps, ∃ ρ1, g (prD p) ⟨ew, κ⟩ = some ρ1 ∧ ρ1.c = κ ∧ t ρ1 = some (.ok (f p) ρ1) ∧ ek ρ1 = some (.ok (kD p.1) ρ1) ∧ e ρ1 = some (.ok p.2 ρ1)) → acc.length + ps.length ≤ 1000 → compD none g t ek e ew (ps.map prD) acc κ = some (mergeKd acc (ps.filter f), κ)
  | [], acc, _, _ => compD_nil
  | p :: ps, acc, h, hl => by
    have hl : acc.length + (ps.length + 1) ≤ 1000 := hl
    obtain ⟨ρ1, h1, h2, h3, h4, h5⟩ := h p List.mem_cons_self
    have hr : ∀ p ∈ ps, ∃ ρ1, g (prD p) ⟨ew, κ⟩ = some ρ1 ∧ ρ1.c = κ ∧ t ρ1 = some (.ok (f p) ρ1) ∧ ek ρ1 = some (.ok (kD p.1) ρ1) ∧ e ρ1 = some (.ok p.2 ρ1) := fun d hd => h d (List.mem_cons_of_mem _ hd)
    rw [List.map_cons]
    cases hf : f p with
    | true =>
      rw [hf] at h3
      have := putKd_len acc p.1 p.2
      rw [compD_yes h1 h3 h4 (keyOf_kD p.1) h5 (show acc.length < 100000 by omega), h2, compD_filter ps _ hr (by omega), List.filter_cons, if_pos hf]
      rfl
    | false =>
      rw [hf] at h3
      rw [compD_no h1 h3, h2, compD_filter ps acc hr (by omega), List.filter_cons, if_neg (by rw [hf]; decide)]
end PH
end
section
set_option maxHeartbeats 0
namespace PH
open PySem PySem.Spec PyProof.Rows L2
theorem len_le_of_sub {α : Type} [DecidableEq α] : ∀ {l m : List α}, l.Nodup → (∀ x ∈ l, x ∈ m) → l.length ≤ m.length
  | [], _, _, _ => Nat.zero_le _
  | a :: l, m, nd, h => by
    have ha := h a List.mem_cons_self
    have nd' := List.nodup_cons.mp nd
    have h1 := len_le_of_sub (l := l) (m := m.erase a) nd'.2 fun x hx => (List.mem_erase_of_ne (fun (e : x = a) => nd'.1 (e ▸ hx))).mpr (h x (List.mem_cons_of_mem _ hx))
    rw [List.length_erase_of_mem ha] at h1
    have := List.length_pos_of_mem ha
    simp only [List.length_cons]; omega
theorem merge_nd : ∀ (l acc : List (Key × D)), ((acc ++ l).map (·.1)).Nodup → mergeKd acc l = acc ++ l
  | [], acc, _ => by rw [List.append_nil]; rfl
  | p :: l, acc, h => by
    show mergeKd (putKd acc p.1 p.2) l = _
    have e : putKd acc p.1 p.2 = acc ++ [p] := by
      unfold putKd
      rw [if_neg]
      intro z
      obtain ⟨q, hq, e⟩ := List.any_eq_true.mp z
      have e := of_decide_eq_true e
      rw [List.map_append, List.map_cons] at h
      exact (List.nodup_append.mp h).2.2 q.1 (List.mem_map.mpr ⟨q, hq, rfl⟩) p.1 List.mem_cons_self e
    rw [e, merge_nd l (acc ++ [p]) (by rw [List.append_assoc]; exact h), List.append_assoc]
    rfl
end PH
namespace K08
open PySem PySem.Spec PyProof.Rows L2 PH
/-! the votes, as names and ints -/
abbrev VV := List (Str × Int)
def mk (vv : VV) : List (Key × D) := vv.map fun p => (.inr p.1, .int p.2)
structure GV (vv : VV) : Prop where
  nd : (vv.map (·.1)).Nodup
  ok : ∀ p ∈ vv, p.1 ∈ voters ∧ (p.2 = -1 ∨ p.2 = 1)
theorem GV.len {vv : VV} (g : GV vv) : vv.length ≤ 4 := by
  have := len_le_of_sub (m := voters) g.nd fun x hx => by
    obtain ⟨p, hp, rfl⟩ := List.mem_map.mp hx
    exact (g.ok p hp).1
  rw [List.length_map] at this
  exact this
theorem mk_len (vv : VV) : (mk vv).length = vv.length := List.length_map _
theorem GV.nil : GV [] := ⟨.nil, fun _ h => absurd h (by simp)⟩
theorem val_mk : ∀ {vv : VV} {z : Str} {v : Int}, (vv.map (·.1)).Nodup → (z, v) ∈ vv → valD (mk vv) (.inr z) = some (.int v)
  | p :: vv, z, v, nd, h => by
    have nd' := List.nodup_cons.mp (show (p.1 :: vv.map (·.1)).Nodup from nd)
    show (if (Sum.inr p.1 : Key) = .inr z then some (D.int p.2) else valD (mk vv) (.inr z)) = _
    rcases List.mem_cons.mp h with e | h
    · subst e; rw [if_pos rfl]
    · rw [if_neg (fun e => nd'.1 (List.mem_map.mpr ⟨(z, v), h, (Sum.inr.inj e).symm⟩))]
      exact val_mk nd'.2 h
def putV (vv : VV) (x : Str) (v : Int) : VV := if (vv.any fun p => decide (p.1 = x)) = true then vv.map (fun p => if p.1 = x then (p.1, v) else p) else vv ++ [(x, v)]
theorem put_mk (vv : VV) (x : Str) (v : Int) : putKd (mk vv) (.inr x) (.int v) = mk (putV vv x v) := by
  unfold putKd putV
  have e : ((mk vv).any fun kv => decide (kv.1 = (.inr x : Key))) = vv.any fun p => decide (p.1 = x) := by
    unfold mk
    rw [List.any_map]
    congr 1
    funext p
    show decide ((Sum.inr p.1 : Key) = .inr x) = decide (p.1 = x)
    exact decide_eq_decide.mpr ⟨Sum.inr.inj, fun h => by rw [h]⟩
  rw [e]
  split
  · unfold mk
    rw [List.map_map, List.map_map]
    refine List.map_congr_left fun p _ => ?_
    show (if (Sum.inr p.1 : Key) = .inr x then ((Sum.inr p.1 : Key), D.int v) else (Sum.inr p.1, D.int p.2)) = _
    by_cases h : p.1 = x
    · rw [if_pos (by rw [h])]; show _ = ((Sum.inr (if p.1 = x then (p.1, v) else p).1 : Key), D.int (if p.1 = x then (p.1, v) else p).2); rw [if_pos h]
    · rw [if_neg (fun e => h (Sum.inr.inj e))]; show _ = ((Sum.inr (if p.1 = x then (p.1, v) else p).1 : Key), D.int (if p.1 = x then (p.1, v) else p).2); rw [if_neg h]
  · unfold mk
    rw [List.map_append]
    rfl
theorem GV.put {vv : VV} (g : GV vv) {x : Str} {v : Int} (hx : x ∈ voters) (hv : v = -1 ∨ v = 1) : GV (putV vv x v) := by
  unfold putV
  split
  · refine ⟨?_, fun p hp => ?_⟩
    · rw [List.map_map, show ((fun p : Str × Int => p.1) ∘ fun p : Str × Int => if p.1 = x then (p.1, v) else p) = fun p => p.1 from funext fun p => by show (if p.1 = x then (p.1, v) else p).1 = p.1; split <;> rfl]
      exact g.nd
    · obtain ⟨q, hq, rfl⟩ := List.mem_map.mp hp
      have := g.ok q hq
      split
      · exact ⟨this.1, hv⟩
      · exact this
  · rename_i hn
    refine ⟨?_, fun p hp => ?_⟩
    · rw [List.map_append]
      refine List.nodup_append.mpr ⟨g.nd, List.nodup_cons.mpr ⟨by simp, .nil⟩, fun a ha b hb e => hn ?_⟩
      obtain ⟨q, hq, rfl⟩ := List.mem_map.mp ha
      have hb : b = x := by simpa using hb
      exact List.any_eq_true.mpr ⟨q, hq, decide_eq_true (e.trans hb)⟩
    · rcases List.mem_append.mp hp with hp | hp
      · exact g.ok p hp
      · have : p = (x, v) := by simpa using hp
        subst this
        exact ⟨hx, hv⟩
theorem filt_mk (vv : VV) (f : Key × D → Bool) (f' : Str × Int → Bool) (h : ∀ p ∈ vv, f (.inr p.1, .int p.2) = f' p) : (mk vv).filter f = mk (vv.filter f') := by
  unfold mk
  rw [List.filter_map]
  congr 1
  exact List.filter_congr fun p hp => h p hp
theorem drop_mk (vv : VV) (x : Str) : dropKd (mk vv) (.inr x) = mk (vv.filter fun p => decide (p.1 ≠ x)) :=
  filt_mk vv _ _ fun p _ => decide_eq_decide.mpr ⟨fun h e => h (by show (Sum.inr p.1 : Key) = _; rw [e]), fun h e => h (Sum.inr.inj e)⟩
theorem GV.filter {vv : VV} (g : GV vv) (f : Str × Int → Bool) : GV (vv.filter f) :=
  ⟨(List.filter_sublist.map _).nodup g.nd, fun p hp => g.ok p (List.mem_filter.mp hp).1⟩
theorem mk_nd {vv : VV} (g : GV vv) : ((mk vv).map (·.1)).Nodup := by
  have e : (mk vv).map (·.1) = (vv.map (·.1)).map (Sum.inr (α := Int)) := by unfold mk; rw [List.map_map, List.map_map]; rfl
  rw [e]
  have := g.nd
  rw [List.nodup_iff_pairwise_ne] at this ⊢
  exact List.pairwise_map.mpr (this.imp fun h e => h (Sum.inr.inj e))
def negV (vv : VV) : VV := vv.filter fun p => decide (p.2 < 0)
/-! who voted, in order -/
def keysV (vv : VV) : List Str := sortS (vv.map (·.1))
theorem keyS_mk : ∀ vv : VV, keyS (mk vv) = some (vv.map (·.1))
  | [] => rfl
  | p :: vv => by
    show (keyS (mk vv)).map (p.1 :: ·) = _
    rw [keyS_mk vv]
    rfl
theorem sorted_mk {vv : VV} (g : GV vv) : dSorted [.dct (mk vv)] = some ((keysV vv).map .str) := by
  have hl := g.len
  show (if (mk vv).length < 64 then sortL (keyS (mk vv)) (keyI (mk vv)) else none) = _
  rw [if_pos (by rw [mk_len]; omega), keyS_mk]
  show (if (vv.map (·.1)).length < 64 then some ((sortS (vv.map (·.1))).map D.str) else none) = _
  rw [if_pos (by rw [List.length_map]; omega)]
  rfl
theorem keysV_perm (vv : VV) : (keysV vv).Perm (vv.map (·.1)) := by
  unfold keysV sortS
  exact List.mergeSort_perm _ _
theorem keysV_mem {vv : VV} {z : Str} (h : z ∈ keysV vv) : ∃ v, (z, v) ∈ vv := by
  obtain ⟨p, hp, rfl⟩ := List.mem_map.mp ((keysV_perm vv).subset h)
  exact ⟨p.2, hp⟩
theorem keysV_len (vv : VV) : (keysV vv).length = vv.length := by rw [(keysV_perm vv).length_eq, List.length_map]
/-- who voted for the change -/
def fans (vv : VV) : List Str := (keysV vv).filter fun z => fan (mk vv) (.str z)
theorem fans_len {vv : VV} (g : GV vv) : (fans vv).length ≤ 4 := by
  have h1 := List.length_filter_le (fun z => fan (mk vv) (.str z)) (keysV vv)
  have := g.len
  rw [keysV_len] at h1
  unfold fans
  omega
end K08
end
section
set_option maxHeartbeats 0
namespace PH
open PySem PySem.Spec PyProof.Rows L2
theorem lkE_at {pk : St → Option D} {m : MM D} {ρ : St} {n : Nat} {kd : List (Key × D)} {d : D} {e : List Loc} {κ2 : List Cell} (h : pk ρ = some (.ref n)) (hc : ρ.c[n]? = some (.dct kd)) (hm : m (ρ.setc n (.lck kd)) = some (.ok d ⟨e, κ2⟩)) (h2 : κ2[n]? = some (.lck kd)) : mLkE pk m ρ = some (.ok d ⟨e, κ2.set n (.dct kd)⟩) := by
  unfold mLkE
  rw [h]
  dsimp only
  rw [hc]
  dsimp only
  rw [hm]
  dsimp only
  unfold unl
  dsimp only
  rw [h2]
  rfl
theorem mDcC_at {m : MM (List D × KC)} {vs : List Nat} {g : D → St → Option St} {t : MM Bool} {ek e : MM D} {ρ ρ1 : St} {ds : List D} {kd : List (Key × D)} {κ : List Cell} (h : m ρ = some (.ok (ds, none) ρ1)) (k : compD none g t ek e (wipeL ρ1.e vs) ds [] ρ1.c = some (kd, κ)) : mDcC m vs g t ek e ρ = some (.ok (.ref κ.length) ⟨ρ1.e, κ ++ [.dct kd]⟩) := by
  unfold mDcC mDc bnd
  rw [h]
  dsimp only
  rw [k]
  rfl
theorem walkD_at {f : Key × D → D} {m : MM D} {ρ ρ1 : St} {n : Nat} {kd : List (Key × D)} (h : m ρ = some (.ok (.ref n) ρ1)) (hc : ρ1.c[n]? = some (.lck kd)) : mWalkD f m ρ = some (.ok (kd.map f, none) ρ1) := by
  unfold mWalkD bnd
  rw [h]
  dsimp only
  unfold lftK lft walkD
  dsimp only
  rw [hc]
  rfl
theorem setF_at {x f : Str} {mv mo : MM D} {ρ ρ1 ρ2 : St} {v : D} {n : Nat} {fs : List (Str × D)} (h1 : mv ρ = some (.ok v ρ1)) (h2 : mo ρ1 = some (.ok (.ref n) ρ2)) (hc : ρ2.c[n]? = some (.obj x fs)) (hl : fs.length < 1000) : mSetF x f mv mo ρ = some (.nx (ρ2.setc n (.obj x (putD f v fs)))) := by
  unfold mSetF mE
  rw [h1]
  dsimp only
  rw [h2]
  show (match ρ2.c[n]? with
    | some (.obj y fs) => if y = x ∧ fs.length < 1000 then some (Out.nx (ρ2.setc n (.obj y (putD f v fs)))) else none
    | _ => none) = _
  rw [hc]
  exact if_pos ⟨rfl, hl⟩
/-- a comprehension that takes what fits, worked on -/
theorem compK_fm {g : D → St → Option St} {t : MM Bool} {e : MM D} {ew : List Loc} {κ : List Cell} {f : D → Bool} {y : D → D} : ∀ (ds acc : List D), (∀ d ∈ ds, ∃ ρ1, g d ⟨ew, κ⟩ = some ρ1 ∧ ρ1.c = κ ∧ t ρ1 = some (.ok (f d) ρ1) ∧ e ρ1 = some (.ok (y d) ρ1)) → acc.length + ds.length ≤ 1000 → compK none g t e ew ds acc κ = some (acc ++ (ds.filter f).map y, κ)
  | [], acc, _, _ => (compK_nil (k := none) trivial).trans (by rw [List.filter_nil, List.map_nil, List.append_nil])
  | d :: ds, acc, h, hl => by
    have hl : acc.length + (ds.length + 1) ≤ 1000 := hl
    obtain ⟨ρ1, h1, h2, h3, h4⟩ := h d List.mem_cons_self
    have hr : ∀ d ∈ ds, ∃ ρ1, g d ⟨ew, κ⟩ = some ρ1 ∧ ρ1.c = κ ∧ t ρ1 = some (.ok (f d) ρ1) ∧ e ρ1 = some (.ok (y d) ρ1) := fun d hd => h d (List.mem_cons_of_mem _ hd)
    cases hf : f d with
    | true =>
      rw [hf] at h3
      rw [compK_yes (k := none) trivial h1 h3 h4 (show acc.length < 100000 by omega), h2, compK_fm ds (acc ++ [y d]) hr (by rw [List.length_append]; show acc.length + 1 + ds.length ≤ 1000; omega), List.filter_cons, if_pos hf, List.append_assoc]
      rfl
    | false =>
      rw [hf] at h3
      rw [compK_no (k := none) trivial h1 h3, h2, compK_fm ds acc hr (by omega), List.filter_cons, if_neg (by rw [hf]; decide)]
end PH
namespace K08
open PySem PySem.Spec PyProof.Rows L2 PH
section
variable {c0 c1 c2 c3 : Cell} {h h' : Int} {vr m : Nat} {t : List Cell} {vv : VV}
theorem move_keep : F_Change__move [.ref 4, .int h', .bl true] (c0 :: c1 :: c2 :: c3 :: chg h "open" vr :: t) = some (.ok .non (c0 :: c1 :: c2 :: c3 :: chg h' "open" vr :: t)) :=
  runK_nx (N := 5) (ds := [.ref 4, .int h', .bl true]) (e := [.dat (.ref 4), .dat (.int h'), .dat (.bl true), .non, .non]) (open_go.trans (by kernel_rfl))
def no1 (p : Key × D) : Bool := match p.2 with
  | .int i => !decide (i = 1)
  | _ => false
theorem no1_neg (g : GV vv) : (mk vv).filter no1 = mk (negV vv) :=
  filt_mk vv _ _ fun p hp => by
    show (!decide (p.2 = 1)) = decide (p.2 < 0)
    rcases (g.ok p hp).2 with e | e <;> rw [e] <;> rfl
theorem merge_neg (g : GV vv) : mergeKd [] ((mk vv).filter no1) = mk (negV vv) := by
  rw [no1_neg g]
  exact merge_nd _ [] (mk_nd (g.filter _))
def es5 (h' : Int) (a b : PH.Loc) : List PH.Loc := [.dat (.ref 4), .dat (.int h'), .dat (.bl false), a, b]
theorem set_back {α : Type} {l : List α} {n : Nat} {a b : α} (h : l[n]? = some a) : (l.set n b).set n a = l := by
  rw [List.set_set]; exact set_same h
theorem move_not (hc : t[m]? = some (.dct (mk vv))) (g : GV vv) : F_Change__move [.ref 4, .int h', .bl false] (c0 :: c1 :: c2 :: c3 :: chg h "open" (m + 5) :: t) = some (.ok .non (c0 :: c1 :: c2 :: c3 :: chg h' "open" (t.length + 5) :: (t ++ [.dct (mk (negV vv))]))) := by
  have hl := g.len
  have w1 : mWalkD (fun p => .tup [kD p.1, p.2]) (mUnK (fldOf "Change" "votes") (rd 0)) ⟨es5 h' .non .non, c0 :: c1 :: c2 :: c3 :: chg h' "open" (m + 5) :: t.set m (.lck (mk vv))⟩ = some (.ok ((mk vv).map prD, none) ⟨es5 h' .non .non, c0 :: c1 :: c2 :: c3 :: chg h' "open" (m + 5) :: t.set m (.lck (mk vv))⟩) := by
    refine walkD_at (n := m + 5) (by kernel_rfl) ?_
    show (t.set m (.lck (mk vv)))[m]? = _
    exact List.getElem?_set_self ((List.getElem?_eq_some_iff.mp hc).1)
  have w2 : compD none (setTup 2 (setCons (setD 3) (setCons (setD 4) setNil))) m_Change__move_c1 m_Change__move_k1 m_Change__move_e1 (wipeL (es5 h' .non .non) [3, 4]) ((mk vv).map prD) [] (c0 :: c1 :: c2 :: c3 :: chg h' "open" (m + 5) :: t.set m (.lck (mk vv))) = some (mk (negV vv), c0 :: c1 :: c2 :: c3 :: chg h' "open" (m + 5) :: t.set m (.lck (mk vv))) := by
    refine (compD_filter (f := no1) (mk vv) [] (fun p hp => ?_) (by rw [mk_len]; show 0 + _ ≤ 1000; omega)).trans (by rw [merge_neg g])
    obtain ⟨q, hq, rfl⟩ := List.mem_map.mp hp
    refine ⟨⟨es5 h' (.dat (.str q.1)) (.dat (.int q.2)), _⟩, rfl, rfl, ?_, rfl, rfl⟩
    rcases (g.ok q hq).2 with e | e <;> rw [e] <;> kernel_rfl
  have w3 := mDcC_at (m := mWalkD (fun p => .tup [kD p.1, p.2]) (mUnK (fldOf "Change" "votes") (rd 0))) w1 w2
  have w4 : mLkE (pkF "Change" "votes" (pkV 0)) (mDcC (mWalkD (fun p => .tup [kD p.1, p.2]) (mUnK (fldOf "Change" "votes") (rd 0))) [3, 4] (setTup 2 (setCons (setD 3) (setCons (setD 4) setNil))) m_Change__move_c1 m_Change__move_k1 m_Change__move_e1) ⟨es5 h' .non .non, c0 :: c1 :: c2 :: c3 :: chg h' "open" (m + 5) :: t⟩ = some (.ok (.ref (t.length + 5)) ⟨es5 h' .non .non, c0 :: c1 :: c2 :: c3 :: chg h' "open" (m + 5) :: (t ++ [.dct (mk (negV vv))])⟩) := by
    have hlt := (List.getElem?_eq_some_iff.mp hc).1
    have e1 : (t.set m (.lck (mk vv)) ++ [Cell.dct (mk (negV vv))])[m]? = some (.lck (mk vv)) := by
      rw [List.getElem?_append_left (by rw [List.length_set]; exact hlt)]
      exact List.getElem?_set_self hlt
    have e2 : (t.set m (.lck (mk vv)) ++ [Cell.dct (mk (negV vv))]).set m (.dct (mk vv)) = t ++ [.dct (mk (negV vv))] := by
      rw [List.set_append_left _ _ (by rw [List.length_set]; exact hlt), set_back hc]
    have w5 := lkE_at (pk := pkF "Change" "votes" (pkV 0)) (ρ := ⟨es5 h' .non .non, c0 :: c1 :: c2 :: c3 :: chg h' "open" (m + 5) :: t⟩) (n := m + 5) (kd := mk vv) (by kernel_rfl) hc w3 e1
    refine w5.trans ?_
    show some (Res.ok (D.ref ((t.set m (.lck (mk vv))).length + 5)) (⟨es5 h' .non .non, c0 :: c1 :: c2 :: c3 :: chg h' "open" (m + 5) :: (t.set m (.lck (mk vv)) ++ [Cell.dct (mk (negV vv))]).set m (.dct (mk vv))⟩ : PH.St)) = _
    rw [e2, List.length_set]
  refine runK_nx (N := 5) (ds := [.ref 4, .int h', .bl false]) (e := es5 h' .non .non) (open_go.trans ?_)
  refine (mSeq_nx (ρ' := ⟨es5 h' .non .non, c0 :: c1 :: c2 :: c3 :: chg h' "open" (m + 5) :: t⟩) (by kernel_rfl)).trans ?_
  refine (mIf_t (ρ' := ⟨es5 h' .non .non, c0 :: c1 :: c2 :: c3 :: chg h' "open" (m + 5) :: t⟩) (by kernel_rfl)).trans ?_
  refine (setF_at (f := "votes") (mo := rd 0) (n := 4) w4 rfl rfl (show 7 < 1000 by decide)).trans ?_
  kernel_rfl
end
end K08
end
section
set_option maxHeartbeats 0
namespace PH
open PySem PySem.Spec PyProof.Rows L2
theorem strsD_map : ∀ ss : List Str, strsD (ss.map .str) = some ss
  | [] => rfl
  | s :: ss => by
    show (strsD (ss.map .str)).map (s :: ·) = _
    rw [strsD_map ss]
    rfl
theorem boolsD_map : ∀ bs : List Bool, boolsD (bs.map D.bl) = some bs
  | [] => rfl
  | s :: ss => by
    show (boolsD (ss.map .bl)).map (s :: ·) = _
    rw [boolsD_map ss]
    rfl
theorem mapD_map {α : Type} {f : D → Option D} {d e : α → D} : ∀ {xs : List α}, (∀ x ∈ xs, f (d x) = some (e x)) → mapD f (xs.map d) = some (xs.map e)
  | [], _ => rfl
  | x :: xs, h => by
    show ((f (d x)).bind fun y => (mapD f (xs.map d)).map fun r => y :: r) = _
    rw [h x List.mem_cons_self, mapD_map (e := e) fun z hz => h z (List.mem_cons_of_mem _ hz)]
    rfl
theorem anyL_at {m : MM (List D)} {f : St → D → Option D} {ρ ρ1 : St} {ds es : List D} {bs : List Bool} (h : m ρ = some (.ok ds ρ1)) (k : mapD (f ρ1) ds = some es) (hb : boolsD es = some bs) : mAnyL m f ρ = some (.ok (.bl (bs.any id)) ρ1) := by
  unfold mAnyL bnd
  rw [h]
  dsimp only
  rw [k]
  show (match boolsD es with | some bs => some (Res.ok (D.bl (bs.any id)) ρ1) | none => none) = _
  rw [hb]
theorem seqS_at {m : MM D} {ρ ρ1 : St} {x : D} {ds : List D} (h : m ρ = some (.ok x ρ1)) (k : dItems (see1 ρ1.c x) = some ds) : mSeqS m ρ = some (.ok ds ρ1) := by
  unfold mSeqS bnd
  rw [h]
  dsimp only
  unfold lftK lft
  dsimp only
  rw [k]
theorem truA_at {m : MM D} {ρ ρ1 : St} {x : D} {b : Bool} (h : m ρ = some (.ok x ρ1)) (k : truA (see1 ρ1.c x) = some b) : mTruA m ρ = some (.ok b ρ1) := by
  unfold mTruA bnd
  rw [h]
  dsimp only
  unfold lftK lft
  dsimp only
  rw [k]
theorem not_at {m : MM Bool} {ρ ρ1 : St} {b : Bool} (h : m ρ = some (.ok b ρ1)) : mNot m ρ = some (.ok (!b) ρ1) := by
  unfold mNot bnd
  rw [h]
  rfl
theorem and_at {m n : MM Bool} {ρ ρ1 : St} {a b : Bool} (h : m ρ = some (.ok a ρ1)) (k : n ρ1 = some (.ok b ρ1)) : mAnd m n ρ = some (.ok (a && b) ρ1) := by
  unfold mAnd bnd
  rw [h]
  dsimp only
  cases a with
  | true => rw [if_pos rfl, k]; rfl
  | false => rw [if_neg (by decide)]; rfl
theorem mIf_at {t : MM Bool} {m n : MS} {ρ ρ1 : St} {b : Bool} {o : Option Out} (h : t ρ = some (.ok b ρ1)) (h1 : b = true → m ρ1 = o) (h2 : b = false → n ρ1 = o) : mIf t m n ρ = o := by
  cases b with
  | true => exact (mIf_t h).trans (h1 rfl)
  | false => exact (mIf_f h).trans (h2 rfl)
theorem runF_pureA {N : Nat} {m : MS} {ds : List D} {κ l : List Cell} {e : List Loc} {d d' : D} (h : m ⟨ds.map .dat ++ List.replicate (N - ds.length) .non, κ⟩ = some (.rt d ⟨e, κ ++ l⟩)) (hf : frz (κ ++ l) κ.length 9 d = some d') : runF .pure N m ds κ = some (.ok d' κ) := by
  unfold runF
  rw [h]
  have e : exitF .pure κ (κ ++ l) d = some (d', κ) := by
    unfold exitF
    rw [if_pos (by rw [List.take_append_of_le_length (Nat.le_refl _), List.take_length]), hf]
    rfl
  show (exitF .pure κ (κ ++ l) d).map (fun p => FR.ok p.1 p.2) = _
  rw [e]
  rfl
theorem mCb_at {op : List D → Option D} {ma : MM (List D)} {ρ ρ1 : St} {as : List D} {d : D} (h : ma ρ = some (.ok as ρ1)) (k : op (as.map (see1 ρ1.c)) = some d) : mCb op ma ρ = some (.ok d ρ1) := by
  unfold mCb bnd
  rw [h]
  dsimp only
  unfold lftK lft
  dsimp only
  rw [k]
theorem mUnK_at {op : List Cell → D → Option D} {m : MM D} {ρ ρ1 : St} {x d : D} (h : m ρ = some (.ok x ρ1)) (k : op ρ1.c x = some d) : mUnK op m ρ = some (.ok d ρ1) := by
  unfold mUnK bnd
  rw [h]
  dsimp only
  unfold lftK lft
  dsimp only
  rw [k]
theorem mValsL_at {m : MM D} {ρ ρ1 : St} {x : D} {kd : List (Key × D)} (h : m ρ = some (.ok x ρ1)) (k : seeD ρ1.c x = some kd) : mValsL m ρ = some (.ok (.lst (kd.map fun p => p.2)) ρ1) := by
  unfold mValsL bnd
  rw [h]
  dsimp only
  unfold lftK lft
  dsimp only
  rw [k]
  rfl
theorem mLstD_at {m : MM (List D)} {ρ ρ1 : St} {ds : List D} (h : m ρ = some (.ok ds ρ1)) (k : ds.length ≤ cap) : mLstD m ρ = some (.ok (.lst ds) ρ1) := by
  unfold mLstD bnd
  rw [h]
  dsimp only
  unfold lft mLst
  rw [if_pos k]
theorem mStar_at {m : MM D} {ms : MM (List D)} {ρ ρ1 ρ2 : St} {x : D} {ds es : List D} (h : m ρ = some (.ok x ρ1)) (k : elemsK ρ1.c x = some ds) (h2 : ms ρ1 = some (.ok es ρ2)) : mStar m ms ρ = some (.ok (ds ++ es) ρ2) := by
  unfold mStar bnd
  rw [h]
  dsimp only
  unfold lftK lft
  dsimp only
  rw [k]
  dsimp only
  rw [h2]
  rfl
end PH
namespace K08
open PySem PySem.Spec PyProof.Rows L2 PH
theorem methO_e {x m : Str} {F : FF} {mo : MM D} {ma : MM (List D)} {e : List PH.Loc} {κ κ' : List Cell} {n : Nat} {fs : List (Str × D)} {as : List D} {d : D} (h : mo ⟨e, κ⟩ = some (.ok (.ref n) ⟨e, κ⟩)) (hc : κ[n]? = some (.obj x fs)) (hl : (fs.lookup m).isNone = true) (ha : ma ⟨e, κ⟩ = some (.ok as ⟨e, κ⟩)) (hF : F (.ref n :: as) κ = some (.ok d κ')) :
    mMethO x m F mo ma ⟨e, κ⟩ = some (.ok d ⟨e, κ'⟩) := methO_at (r := .ok d κ') h hc hl ha hF
end K08
namespace K08
open PySem PySem.Spec PyProof.Rows L2 PH
/-! what a change lacks -/
/-- the owners of the paths that are asked -/
def OwnF (n : Int) (st : Bool) (kd : List (Key × D)) (os : Str → List Str) (ps : List Str) : Prop := ∀ p ∈ ps, ∀ (c0 c1 : Cell) (rest : List Cell), F_Rules__owners_of [.ref 2, .str p] (c0 :: c1 :: rul n st :: .dct kd :: rest) = some (.ok (.tup ((os p).map .str)) (c0 :: c1 :: rul n st :: .dct kd :: rest))
abbrev dan : Str := "dan"
def own (p : Str) : Str := "owner " ++ p
def mine (fs ss : List Str) : Bool := !ss.isEmpty && !((dan :: fs).any fun z => decide (z ∈ ss))
def ownW (fs : List Str) (os : Str → List Str) : List Str → List Str
  | [] => []
  | p :: ps => (if mine fs (os p) = true then [own p] else []) ++ ownW fs os ps
abbrev tagW (b : Bool) (w : Str) : List Str := if b = true then [w] else []
def dueW (n : Int) (vv : VV) (rb : List Bool) (os : Str → List Str) (ps : List Str) : List Str :=
  tagW (decide (((fans vv).length : Int) < n)) "votes" ++ tagW (decide ((-1 : Int) ∈ vv.map (·.2))) "against" ++ tagW (rb.any id) "remarks" ++ ownW (fans vv) os ps
theorem ownW_len (fs : List Str) (os : Str → List Str) : ∀ ps : List Str, (ownW fs os ps).length ≤ ps.length
  | [] => Nat.le_refl _
  | p :: ps => by
    have := ownW_len fs os ps
    unfold ownW
    rw [List.length_append]
    split
    · show 1 + _ ≤ ps.length + 1; omega
    · show 0 + _ ≤ ps.length + 1; omega
theorem tagW_len (b : Bool) (w : Str) : (tagW b w).length ≤ 1 := by cases b with
  | true => exact Nat.le_refl 1
  | false => exact Nat.zero_le 1
section
variable {c0 c1 : Cell} {n : Int} {st : Bool} {kd : List (Key × D)} {os : Str → List Str} {fs : List Str}
abbrev le8 (ps fs : List Str) (k : Nat) (a b : PH.Loc) : List PH.Loc := [.dat (.ref 4), .dat (.ref 2), .dat (.lst (ps.map .str)), .dat (.ref k), .dat (.lst (fs.map .str)), .dat (.lst ((dan :: fs).map .str)), a, b]
theorem isE_map {ss : List Str} : (ss.map D.str).isEmpty = ss.isEmpty := by cases ss <;> rfl
/-- one path -/
theorem lack1 {p : Str} {rest : List Cell} {W ps : List Str} {b : PH.Loc} (ho : OwnF n st kd os [p]) (hw : W.length < 1000) (hp : p.length ≤ 1000) :
    ∃ b', m_lacks_b1 ⟨le8 ps fs (rest.length + 4) (.dat (.str p)) b, c0 :: c1 :: rul n st :: .dct kd :: (rest ++ [Cell.lst (W.map D.str)])⟩ = some (.nx ⟨le8 ps fs (rest.length + 4) (.dat (.str p)) b', c0 :: c1 :: rul n st :: .dct kd :: (rest ++ [.lst ((W ++ (if mine fs (os p) = true then [own p] else [])).map .str)])⟩) := by
  refine ⟨.dat (.tup ((os p).map .str)), ?_⟩
  have h0 := ho p List.mem_cons_self c0 c1 (rest ++ [Cell.lst (W.map D.str)])
  have h1 : mMethO "Rules" "owners_of" F_Rules__owners_of (rd 1) (mArg (rd 6) (ret [])) ⟨le8 ps fs (rest.length + 4) (.dat (.str p)) b, c0 :: c1 :: rul n st :: .dct kd :: (rest ++ [Cell.lst (W.map D.str)])⟩ = some (.ok (.tup ((os p).map .str)) ⟨le8 ps fs (rest.length + 4) (.dat (.str p)) b, c0 :: c1 :: rul n st :: .dct kd :: (rest ++ [Cell.lst (W.map D.str)])⟩) :=
    methO_e (n := 2) (as := [.str p]) rfl rfl rfl rfl h0
  refine (mSeq_nx (mAsg_at h1 rfl)).trans ?_
  have h2 : mTruA (rd 7) ⟨le8 ps fs (rest.length + 4) (.dat (.str p)) (.dat (.tup ((os p).map .str))), c0 :: c1 :: rul n st :: .dct kd :: (rest ++ [Cell.lst (W.map D.str)])⟩ = some (.ok (!(os p).isEmpty) ⟨le8 ps fs (rest.length + 4) (.dat (.str p)) (.dat (.tup ((os p).map .str))), c0 :: c1 :: rul n st :: .dct kd :: (rest ++ [Cell.lst (W.map D.str)])⟩) :=
    truA_at (x := .tup ((os p).map .str)) rfl (by rw [← isE_map]; rfl)
  have h3 : mAnyL (mSeqS (rd 5)) (fIn 7) ⟨le8 ps fs (rest.length + 4) (.dat (.str p)) (.dat (.tup ((os p).map .str))), c0 :: c1 :: rul n st :: .dct kd :: (rest ++ [Cell.lst (W.map D.str)])⟩ = some (.ok (.bl ((((dan :: fs).map fun z => decide (z ∈ os p))).any id)) ⟨le8 ps fs (rest.length + 4) (.dat (.str p)) (.dat (.tup ((os p).map .str))), c0 :: c1 :: rul n st :: .dct kd :: (rest ++ [Cell.lst (W.map D.str)])⟩) := by
    refine anyL_at (ds := (dan :: fs).map .str) (es := ((dan :: fs).map fun z => decide (z ∈ os p)).map .bl) (seqS_at (x := .lst ((dan :: fs).map .str)) rfl rfl) ?_ (boolsD_map _)
    rw [List.map_map]
    refine mapD_map fun z hz => ?_
    show ((some ((os p).map D.str)).bind fun ds => (strsD ds).map fun ys => D.bl (decide (z ∈ ys))) = _
    show ((strsD ((os p).map D.str)).map fun ys => D.bl (decide (z ∈ ys))) = _
    rw [strsD_map]
    rfl
  have h4 := not_at (truA_at (b := (((dan :: fs).map fun z => decide (z ∈ os p))).any id) h3 rfl)
  have h5 := and_at h2 h4
  have e5 : (!(os p).isEmpty && !(((dan :: fs).map fun z => decide (z ∈ os p))).any id) = mine fs (os p) := by
    unfold mine
    rw [List.any_map]
    rfl
  rw [e5] at h5
  refine mIf_at h5 (fun hb => ?_) (fun hb => ?_)
  · rw [hb, if_pos rfl]
    have hl : ("owner " : Str).length + p.length ≤ cap := by show 6 + p.length ≤ 100000; omega
    have h6 := appM (mo := rd 3) (ma := mArg (mOp dAdd (ret (.str "owner ")) (rd 6)) (ret [])) (ρ := ⟨le8 ps fs (rest.length + 4) (.dat (.str p)) (.dat (.tup ((os p).map .str))), c0 :: c1 :: rul n st :: .dct kd :: (rest ++ [Cell.lst (W.map D.str)])⟩) (n := rest.length + 4) (ds := W.map .str) (d := .str (own p)) rfl
      (show (rest ++ [Cell.lst (W.map .str)])[rest.length]? = _ from List.getElem?_concat_length)
      (mArg_at (mOp_at (x := .str "owner ") (y := .str p) rfl rfl (show (if ("owner " : Str).length + p.length ≤ cap then some (D.str (own p)) else none) = _ from if_pos hl)) rfl)
      (by rw [List.length_map]; show W.length < 100000; omega)
    refine h6.trans ?_
    show some (Out.nx (⟨_, c0 :: c1 :: rul n st :: .dct kd :: (rest ++ [Cell.lst (W.map .str)]).set rest.length (.lst (W.map .str ++ [.str (own p)]))⟩ : PH.St)) = _
    rw [List.set_append_right _ _ (Nat.le_refl _), Nat.sub_self, List.map_append]
    rfl
  · rw [hb, if_neg (by decide), List.append_nil]
    rfl
theorem lackL {rest : List Cell} {ps0 : List Str} : ∀ (ps : List Str) (W : List Str) (a b : PH.Loc), OwnF n st kd os ps → W.length + ps.length ≤ 1000 → (∀ p ∈ ps, p.length ≤ 1000) →
    ∃ a' b', loopK none (setD 6) m_lacks_b1 (ps.map .str) ⟨le8 ps0 fs (rest.length + 4) a b, c0 :: c1 :: rul n st :: .dct kd :: (rest ++ [Cell.lst (W.map D.str)])⟩ = some (.nx ⟨le8 ps0 fs (rest.length + 4) a' b', c0 :: c1 :: rul n st :: .dct kd :: (rest ++ [.lst ((W ++ ownW fs os ps).map .str)])⟩)
  | [], W, a, b, _, _, _ => ⟨a, b, by rw [show ownW fs os [] = [] from rfl, List.append_nil]; exact loopK_nil trivial⟩
  | p :: ps, W, a, b, ho, hl, hp => by
    have hl : W.length + (ps.length + 1) ≤ 1000 := hl
    obtain ⟨b1, h1⟩ := lack1 (c0 := c0) (c1 := c1) (fs := fs) (rest := rest) (W := W) (ps := ps0) (b := b) (p := p) (fun q hq => ho q (by rw [List.mem_singleton.mp hq]; exact List.mem_cons_self)) (by omega) (hp p List.mem_cons_self)
    have hl2 : (W ++ (if mine fs (os p) = true then [own p] else [])).length + ps.length ≤ 1000 := by
      rw [List.length_append]
      split
      · show W.length + 1 + _ ≤ _; omega
      · show W.length + 0 + _ ≤ _; omega
    obtain ⟨a2, b2, h2⟩ := lackL (rest := rest) (ps0 := ps0) ps _ (.dat (.str p)) b1 (fun q hq => ho q (List.mem_cons_of_mem _ hq)) hl2 (fun q hq => hp q (List.mem_cons_of_mem _ hq))
    refine ⟨a2, b2, ?_⟩
    rw [List.map_cons]
    refine (loopK_nx (k := none) (ρ := ⟨le8 ps0 fs (rest.length + 4) a b, _⟩) trivial (show setD 6 (.str p) ⟨le8 ps0 fs (rest.length + 4) a b, _⟩ = some ⟨le8 ps0 fs (rest.length + 4) (.dat (.str p)) b, _⟩ from rfl) h1).trans ?_
    rw [h2, List.append_assoc]
    rfl
end
end K08
end
section
set_option maxHeartbeats 0
namespace K08
open PySem PySem.Spec PyProof.Rows L2 PH
theorem inV_int (z : Int) : ∀ ys : List Int, inV (.int z) (ys.map V.int) = decide (z ∈ ys)
  | [] => rfl
  | y :: ys => by
    have ih := inV_int z ys
    unfold inV at ih ⊢
    rw [List.map_cons, List.any_cons, ih]
    show ((y == z) || decide (z ∈ ys)) = decide (z ∈ y :: ys)
    rw [Bool.eq_iff_iff, Bool.or_eq_true, beq_iff_eq, decide_eq_true_iff, decide_eq_true_iff, List.mem_cons]
    exact ⟨fun h => h.imp Eq.symm id, fun h => h.imp Eq.symm id⟩
theorem flatI : ∀ ys : List Int, (ys.map D.int).all flatD = true
  | [] => rfl
  | _ :: ys => by rw [List.map_cons, List.all_cons, flatI ys]; rfl
theorem flatS : ∀ ys : List Str, (ys.map D.str).all flatD = true
  | [] => rfl
  | _ :: ys => by rw [List.map_cons, List.all_cons, flatS ys]; rfl
theorem toV_int (ys : List Int) : (ys.map D.int).map toV = ys.map V.int := by rw [List.map_map]; rfl
theorem toV_str (ys : List Str) : (ys.map D.str).map toV = ys.map V.str := by rw [List.map_map]; rfl
theorem inD_ints {neg : Bool} (z : Int) (ys : List Int) : inD neg (.int z) (.lst (ys.map .int)) = some (.bl (if neg then !decide (z ∈ ys) else decide (z ∈ ys))) := by
  unfold inD
  show (if flatD (.int z) = true ∧ (ys.map D.int).all flatD = true then some (D.bl (if neg then !inV (toV (.int z)) ((ys.map D.int).map toV) else inV (toV (.int z)) ((ys.map D.int).map toV))) else none) = _
  rw [if_pos ⟨rfl, flatI ys⟩, toV_int]
  show some (D.bl (if neg then !inV (.int z) (ys.map V.int) else inV (.int z) (ys.map V.int))) = _
  rw [inV_int]
theorem inD_strsT {neg : Bool} (z : Str) (ys : List Str) : inD neg (.str z) (.tup (ys.map .str)) = some (.bl (if neg then !decide (z ∈ ys) else decide (z ∈ ys))) := by
  unfold inD
  show (if flatD (.str z) = true ∧ (ys.map D.str).all flatD = true then some (D.bl (if neg then !inV (toV (.str z)) ((ys.map D.str).map toV) else inV (toV (.str z)) ((ys.map D.str).map toV))) else none) = _
  rw [if_pos ⟨rfl, flatS ys⟩, toV_str]
  show some (D.bl (if neg then !inV (.str z) (ys.map V.str) else inV (.str z) (ys.map V.str))) = _
  rw [inV_str]
/-! the remarks -/
abbrev RS := List (Str × Int × Bool)
def remD (q : Str × Int × Bool) : D := rem q.1 q.2.1 q.2.2
def rcs (rs : RS) : List D := rs.map remD
def rbs (rs : RS) : List Bool := rs.map fun q => q.2.2
section
variable {c0 c1 c2 c3 : Cell} {n : Int} {st : Bool} {kd : List (Key × D)} {os : Str → List Str} {fs : List Str} {h : Int} {m : Nat} {t : List Cell} {vv : VV} {rs : RS}
theorem tag1 {tst : MM Bool} {b : Bool} {w : Str} {e : List PH.Loc} {rest : List Cell} {W : List Str} (ht : tst ⟨e, c0 :: c1 :: c2 :: c3 :: (rest ++ [Cell.lst (W.map D.str)])⟩ = some (.ok b ⟨e, c0 :: c1 :: c2 :: c3 :: (rest ++ [Cell.lst (W.map D.str)])⟩)) (he : e[3]? = some (.dat (.ref (rest.length + 4)))) (hw : W.length < 1000) :
    mIf tst (mDrop (mMeth mdAppend (rd 3) (mArg (ret (.str w)) (ret [])))) mNext ⟨e, c0 :: c1 :: c2 :: c3 :: (rest ++ [Cell.lst (W.map D.str)])⟩ = some (.nx ⟨e, c0 :: c1 :: c2 :: c3 :: (rest ++ [.lst ((W ++ tagW b w).map .str)])⟩) := by
  refine mIf_at ht (fun hb => ?_) (fun hb => ?_)
  · subst hb
    have h6 := appM (mo := rd 3) (ma := mArg (ret (.str w)) (ret [])) (ρ := ⟨e, c0 :: c1 :: c2 :: c3 :: (rest ++ [Cell.lst (W.map D.str)])⟩) (n := rest.length + 4) (ds := W.map .str) (d := .str w) (rd_at he)
      (show (rest ++ [Cell.lst (W.map .str)])[rest.length]? = _ from List.getElem?_concat_length) rfl
      (by rw [List.length_map]; show W.length < 100000; omega)
    refine h6.trans ?_
    show some (Out.nx (⟨_, c0 :: c1 :: c2 :: c3 :: (rest ++ [Cell.lst (W.map .str)]).set rest.length (.lst (W.map .str ++ [.str w]))⟩ : PH.St)) = _
    rw [List.set_append_right _ _ (Nat.le_refl _), Nat.sub_self, List.map_append]
    rfl
  · subst hb
    rw [show tagW false w = [] from rfl, List.append_nil]
    rfl
theorem last5 {a b d e f : D} : atI [a, b, d, e, f] (-1) = some f := atI_neg1 [a, b, d, e] f
theorem lacks_ok {ps : List Str} (g : GV vv) (hv : t[m]? = some (.dct (mk vv))) (hr : t[1]? = some (.lst (rcs rs))) (ho : OwnF n st kd os ps) (hl : ps.length ≤ 900) (hp : ∀ p ∈ ps, p.length ≤ 1000) :
    F_lacks [.ref 4, .ref 2, .lst (ps.map .str)] (c0 :: c1 :: rul n st :: .dct kd :: chg h "open" (m + 5) :: t) = some (.ok (.tup ((dueW n vv (rbs rs) os ps).map .str)) (c0 :: c1 :: rul n st :: .dct kd :: chg h "open" (m + 5) :: t)) := by
  have hfl := fans_len g
  have hgl := g.len
  generalize hrest : chg h "open" (m + 5) :: t = rest
  have hva : ∀ w : List Cell, (t ++ w)[m]? = some (.dct (mk vv)) := fun w => by rw [List.getElem?_append_left ((List.getElem?_eq_some_iff.mp hv).1)]; exact hv
  have hra : ∀ w : List Cell, (t ++ w)[1]? = some (.lst (rcs rs)) := fun w => by rw [List.getElem?_append_left ((List.getElem?_eq_some_iff.mp hr).1)]; exact hr
  let e1 : List PH.Loc := [.dat (.ref 4), .dat (.ref 2), .dat (.lst (ps.map .str)), .dat (.ref (rest.length + 4)), .non, .non, .non, .non]
  let e2 : List PH.Loc := [.dat (.ref 4), .dat (.ref 2), .dat (.lst (ps.map .str)), .dat (.ref (rest.length + 4)), .dat (.lst ((fans vv).map .str)), .non, .non, .non]
  let K : List Str → List Cell := fun W => c0 :: c1 :: rul n st :: .dct kd :: (rest ++ [Cell.lst (W.map D.str)])
  have hK : ∀ W, K W = c0 :: c1 :: rul n st :: .dct kd :: chg h "open" (m + 5) :: (t ++ [Cell.lst (W.map D.str)]) := fun W => by show c0 :: c1 :: rul n st :: .dct kd :: (rest ++ _) = _; rw [← hrest]; rfl
  have s1 : mMethO "Change" "supporters" F_Change__supporters (rd 0) (ret []) ⟨e1, K []⟩ = some (.ok (.lst ((fans vv).map .str)) ⟨e1, K []⟩) := by
    have hs := supp_ok (c0 := c0) (c1 := c1) (c2 := rul n st) (c3 := .dct kd) (h := h) (vr := m + 5) (t := t ++ [Cell.lst (([] : List Str).map D.str)]) (V := mk vv) (hva _) (sorted_mk g) (by rw [keysV_len]; omega) (fun z hz => by obtain ⟨v, hv⟩ := keysV_mem hz; exact ⟨v, val_mk g.nd hv⟩)
    rw [fan_strs] at hs
    rw [hK]
    exact methO_e (n := 4) (as := []) rfl rfl rfl rfl hs
  have s2 : ∀ W, mTest (mOp dLt (mCb dLenA (mArg (rd 4) (ret []))) (mUnK (fldOf "Rules" "needed") (rd 1))) ⟨e2, K W⟩ = some (.ok (decide (((fans vv).length : Int) < n)) ⟨e2, K W⟩) := fun W => by
    refine mTest_at (mOp_at (x := .int (fans vv).length) (y := .int n) (mCb_at (as := [.lst ((fans vv).map .str)]) rfl ?_) rfl rfl)
    show some (D.int (((fans vv).map D.str).length : Int)) = _
    rw [List.length_map]
  have s3 : ∀ W, mTest (mOp (inD false) (mUn dNeg (ret (.int 1))) (mValsL (mUnK (fldOf "Change" "votes") (rd 0)))) ⟨e2, K W⟩ = some (.ok (decide ((-1 : Int) ∈ vv.map (·.2))) ⟨e2, K W⟩) := fun W => by
    have h1 : mUnK (fldOf "Change" "votes") (rd 0) ⟨e2, K W⟩ = some (.ok (.ref (m + 5)) ⟨e2, K W⟩) := by rw [hK]; rfl
    have h2 : seeD (K W) (.ref (m + 5)) = some (mk vv) := by
      rw [hK]
      show (match (t ++ [Cell.lst (W.map D.str)])[m]? with | some (.dct kd) => some kd | some (.lck kd) => some kd | _ => none) = _
      rw [hva]
    refine mTest_at (mOp_at (x := .int (-1)) (y := .lst ((vv.map (·.2)).map .int)) rfl ?_ ?_)
    · refine (mValsL_at h1 h2).trans ?_
      unfold mk
      rw [List.map_map, List.map_map]
      rfl
    · exact inD_ints (neg := false) (-1) (vv.map (·.2))
  have s4 : ∀ W, mTruA (mAnyL (mSeqS (mUnK (fldOf "Change" "remarks") (rd 0))) fLast) ⟨e2, K W⟩ = some (.ok ((rbs rs).any id) ⟨e2, K W⟩) := fun W => by
    have h1 : mUnK (fldOf "Change" "remarks") (rd 0) ⟨e2, K W⟩ = some (.ok (.ref 6) ⟨e2, K W⟩) := by rw [hK]; rfl
    have h2 : see1 (K W) (.ref 6) = .lst (rcs rs) := by
      rw [hK]
      unfold see1
      show (match (t ++ [Cell.lst (W.map D.str)])[1]? with | some (.lst ds) => D.lst ds | some (.dct kd) => .dct kd | some (.lck kd) => .dct kd | _ => .ref 6) = _
      rw [hra]
    refine truA_at (x := .bl ((rbs rs).any id)) (anyL_at (ds := rcs rs) (es := (rbs rs).map .bl) (seqS_at h1 (by rw [h2]; rfl)) ?_ (boolsD_map _)) rfl
    unfold rcs rbs
    rw [List.map_map]
    exact mapD_map fun q _ => last5
  let W1 : List Str := tagW (decide (((fans vv).length : Int) < n)) "votes"
  let W2 : List Str := W1 ++ tagW (decide ((-1 : Int) ∈ vv.map (·.2))) "against"
  let W3 : List Str := W2 ++ tagW ((rbs rs).any id) "remarks"
  have l1 : W1.length ≤ 1 := tagW_len _ _
  have l2 : W2.length ≤ 2 := by show (W1 ++ tagW (decide ((-1 : Int) ∈ vv.map (·.2))) "against").length ≤ 2; rw [List.length_append]; have := tagW_len (decide ((-1 : Int) ∈ vv.map (·.2))) "against"; omega
  have l3 : W3.length ≤ 3 := by show (W2 ++ tagW ((rbs rs).any id) "remarks").length ≤ 3; rw [List.length_append]; have := tagW_len ((rbs rs).any id) "remarks"; omega
  have s5 : mLstD (mArg (mUnK (fldOf "Change" "author") (rd 0)) (mStar (rd 4) (ret []))) ⟨e2, K W3⟩ = some (.ok (.lst ((dan :: fans vv).map .str)) ⟨e2, K W3⟩) := by
    have h1 : mUnK (fldOf "Change" "author") (rd 0) ⟨e2, K W3⟩ = some (.ok (.str "dan") ⟨e2, K W3⟩) := by rw [hK]; rfl
    have h2 : mStar (rd 4) (ret []) ⟨e2, K W3⟩ = some (.ok ((fans vv).map .str ++ []) ⟨e2, K W3⟩) := mStar_at (x := .lst ((fans vv).map .str)) rfl rfl rfl
    rw [List.append_nil] at h2
    exact mLstD_at (mArg_at h1 h2) (by rw [List.length_map]; show (fans vv).length + 1 ≤ 100000; omega)
  obtain ⟨a', b', s6⟩ := lackL (c0 := c0) (c1 := c1) (n := n) (st := st) (kd := kd) (os := os) (fs := fans vv) (rest := rest) (ps0 := ps) ps W3 .non .non ho (by omega) hp
  have hfin : W3 ++ ownW (fans vv) os ps = dueW n vv (rbs rs) os ps := rfl
  rw [hfin] at s6
  refine runF_pureA (N := 8) (ds := [.ref 4, .ref 2, .lst (ps.map .str)]) (l := [.lst ((dueW n vv (rbs rs) os ps).map .str)]) (e := le8 ps (fans vv) (rest.length + 4) a' b') (d := .tup ((dueW n vv (rbs rs) os ps).map .str)) ?_ (frz_strs _)
  refine (mSeq_nx (ρ' := ⟨e1, K []⟩) (mAsg_at (d := .ref (rest.length + 4)) (ρ1 := ⟨[.dat (.ref 4), .dat (.ref 2), .dat (.lst (ps.map .str)), .non, .non, .non, .non, .non], K []⟩) rfl rfl)).trans ?_
  refine (mSeq_nx (ρ' := ⟨e2, K []⟩) (mAsg_at s1 rfl)).trans ?_
  refine (mSeq_nx (ρ' := ⟨e2, K W1⟩) (tag1 (W := []) (s2 []) rfl (by decide))).trans ?_
  refine (mSeq_nx (ρ' := ⟨e2, K W2⟩) (tag1 (W := W1) (s3 W1) rfl (by omega))).trans ?_
  refine (mSeq_nx (ρ' := ⟨e2, K W3⟩) (tag1 (W := W2) (s4 W2) rfl (by omega))).trans ?_
  refine (mSeq_nx (ρ' := ⟨le8 ps (fans vv) (rest.length + 4) .non .non, K W3⟩) (mAsg_at s5 rfl)).trans ?_
  refine (mSeq_nx (mForI_at (k := none) (ds := ps.map .str) (ρ1 := ⟨le8 ps (fans vv) (rest.length + 4) .non .non, K W3⟩) rfl s6)).trans ?_
  refine mRet_at (mCb_at (as := [.ref (rest.length + 4)]) rfl ?_)
  have h9 : see1 (c0 :: c1 :: rul n st :: .dct kd :: (rest ++ [.lst ((dueW n vv (rbs rs) os ps).map .str)])) (.ref (rest.length + 4)) = .lst ((dueW n vv (rbs rs) os ps).map .str) := by
    unfold see1
    show (match (rest ++ [Cell.lst ((dueW n vv (rbs rs) os ps).map .str)])[rest.length]? with | some (.lst ds) => D.lst ds | some (.dct kd) => .dct kd | some (.lck kd) => .dct kd | _ => .ref (rest.length + 4)) = _
    rw [List.getElem?_concat_length]
  show dTuple [see1 (c0 :: c1 :: rul n st :: .dct kd :: (rest ++ [.lst ((dueW n vv (rbs rs) os ps).map .str)])) (.ref (rest.length + 4))] = _
  rw [h9]
  rfl
end
end K08
end
section
set_option maxHeartbeats 0
namespace PH
open PySem PySem.Spec PyProof.Rows L2
theorem mSl_at {m : MM D} {ml mh : MM (Option Int)} {ρ ρ1 ρ2 ρ3 : St} {d r : D} {lo hi : Option Int} (h : m ρ = some (.ok d ρ1)) (k : ml ρ1 = some (.ok lo ρ2)) (l : mh ρ2 = some (.ok hi ρ3)) (o : dSl (see1 ρ3.c d) lo hi = some r) : mSl m ml mh ρ = some (.ok r ρ3) := by
  unfold mSl bnd
  rw [h]
  dsimp only
  rw [k]
  dsimp only
  rw [l]
  dsimp only
  unfold lftK lft
  dsimp only
  rw [o]
end PH
namespace K08
open PySem PySem.Spec PyProof.Rows L2 PH
/-! the law's slots and cells, step by step -/
structure Es (e : List PH.Loc) (n : Int) (lv lr : Nat) (h : Int) : Prop where
  len : e.length = 26
  s1 : e[1]? = some (.dat (.ref 0))
  s4 : e[4]? = some (.dat (.int n))
  s5 : e[5]? = some (.dat (.ref 2))
  s6 : e[6]? = some (.dat (.ref 4))
  s7 : e[7]? = some (.dat (.ref lv))
  s8 : e[8]? = some (.dat (.ref lr))
  s9 : e[9]? = some (.dat (.int h))
section
variable {e : List PH.Loc} {n h : Int} {lv lr : Nat}
theorem Es.set (E : Es e n lv lr h) {k : Nat} (hk : 10 ≤ k) (x : PH.Loc) : Es (e.set k x) n lv lr h := by
  have go : ∀ {i : Nat} {y : PH.Loc}, i < 10 → e[i]? = some y → (e.set k x)[i]? = some y := fun hi hy => by rw [List.getElem?_set_ne (by omega)]; exact hy
  exact ⟨by rw [List.length_set]; exact E.len, go (by decide) E.s1, go (by decide) E.s4, go (by decide) E.s5, go (by decide) E.s6, go (by decide) E.s7, go (by decide) E.s8, go (by decide) E.s9⟩
theorem setD_at {e : List PH.Loc} {κ : List Cell} {k : Nat} {d : D} (hk : k < e.length) : setD k d ⟨e, κ⟩ = some ⟨e.set k (.dat d), κ⟩ := by
  unfold setD
  exact if_pos hk
theorem asg_e {e : List PH.Loc} {κ κ' : List Cell} {k : Nat} {d : D} {m : MM D} (hm : m ⟨e, κ⟩ = some (.ok d ⟨e, κ'⟩)) (hk : k < e.length) : mAsg m (setD k) ⟨e, κ⟩ = some (.nx ⟨e.set k (.dat d), κ'⟩) := mAsg_at hm (setD_at hk)
end
structure Inv (n : Int) (st : Bool) (kd : List (Key × D)) (h : Int) (vr lv lr : Nat) (vv : VV) (rs : RS) (κ : List Cell) : Prop where
  s0 : ∃ a b s, κ[0]? = some (dc a b s)
  s2 : κ[2]? = some (rul n st)
  s3 : κ[3]? = some (.dct kd)
  s4 : κ[4]? = some (chg h "open" vr)
  s6 : κ[6]? = some (.lst (rcs rs))
  v : κ[vr]? = some (.dct (mk vv))
  l : κ[lv]? = some (.dct (mk vv))
  r : κ[lr]? = some (.lst ((rbs rs).map D.bl))
  n1 : 5 ≤ vr
  n2 : 5 ≤ lv
  n3 : 7 ≤ lr
  n4 : vr ≠ lv
  g : GV vv
section
variable {n : Int} {st : Bool} {kd : List (Key × D)} {h : Int} {vr lv lr : Nat} {vv : VV} {rs : RS} {κ : List Cell}
theorem Inv.shape (I : Inv n st kd h vr lv lr vv rs κ) : ∃ (a b s : Int) (c1 c5 : Cell) (m : Nat) (t : List Cell), vr = m + 5 ∧ κ = dc a b s :: c1 :: rul n st :: .dct kd :: chg h "open" (m + 5) :: c5 :: .lst (rcs rs) :: t := by
  obtain ⟨a, b, s, e0⟩ := I.s0
  obtain ⟨m, hm⟩ : ∃ m, vr = m + 5 := ⟨vr - 5, by have := I.n1; omega⟩
  have e2 := I.s2
  have e3 := I.s3
  have e4 := I.s4
  have e6 := I.s6
  match κ, e0, e2, e3, e4, e6 with
  | c0 :: c1 :: c2 :: c3 :: c4 :: c5 :: c6 :: t, e0, e2, e3, e4, e6 =>
    refine ⟨a, b, s, c1, c5, m, t, hm, ?_⟩
    have e0 : some c0 = some (dc a b s) := e0
    have e2 : some c2 = some (rul n st) := e2
    have e3 : some c3 = some (Cell.dct kd) := e3
    have e4 : some c4 = some (chg h "open" vr) := e4
    have e6 : some c6 = some (Cell.lst (rcs rs)) := e6
    rw [Option.some.inj e0, Option.some.inj e2, Option.some.inj e3, Option.some.inj e4, Option.some.inj e6, hm]
theorem Inv.dice (I : Inv n st kd h vr lv lr vv rs κ) (a b s : Int) : Inv n st kd h vr lv lr vv rs (κ.set 0 (dc a b s)) := by
  have go : ∀ {i : Nat} {y : Cell}, 0 < i → κ[i]? = some y → (κ.set 0 (dc a b s))[i]? = some y := fun hi hy => by rw [List.getElem?_set_ne (by omega)]; exact hy
  obtain ⟨a0, b0, s0, e0⟩ := I.s0
  exact ⟨⟨a, b, s, List.getElem?_set_self ((List.getElem?_eq_some_iff.mp e0).1)⟩, go (by decide) I.s2, go (by decide) I.s3, go (by decide) I.s4, go (by decide) I.s6, go (by have := I.n1; omega) I.v, go (by have := I.n2; omega) I.l, go (by have := I.n3; omega) I.r, I.n1, I.n2, I.n3, I.n4, I.g⟩
theorem Inv.dice' {a b s : Int} {t : List Cell} (I : Inv n st kd h vr lv lr vv rs (dc a b s :: t)) (a' b' s' : Int) : Inv n st kd h vr lv lr vv rs (dc a' b' s' :: t) := I.dice a' b' s'
end
/-! the paths that are asked -/
def P3 : List Str := ["src/a/x", "doc", "q"]
def ownL : D → List Str
  | .tup ds => (strsD ds).getD []
  | _ => []
theorem ownL_tup (ss : List Str) : ownL (.tup (ss.map .str)) = ss := by
  show (strsD (ss.map .str)).getD [] = ss
  rw [strsD_map]
  rfl
def begs (p : Str) : List Str := if p = "src/a/x" then ["src/a/x", "src/a", "src", emp] else if p = "doc" then ["doc", emp] else ["q", emp]
def osOf (kd : List (Key × D)) (p : Str) : List Str := ownL (firstOwn kd (begs p))
theorem all3 {P : Str → Prop} (a : P "src/a/x") (b : P "doc") (c : P "q") : ∀ z ∈ P3, P z := by
  intro z h
  simp only [P3, List.mem_cons, List.not_mem_nil, or_false] at h
  rcases h with rfl | rfl | rfl <;> assumption
theorem own_p {n : Int} {st : Bool} {kd : List (Key × D)} (ht : TupVals kd) {p : Str} {fs : List Str} (hf : FO p fs) (hl : fs.length ≤ 1000) (hb : begs p = p :: (fs.reverse ++ [emp])) (c0 c1 : Cell) (rest : List Cell) : F_Rules__owners_of [.ref 2, .str p] (c0 :: c1 :: rul n st :: .dct kd :: rest) = some (.ok (.tup ((osOf kd p).map .str)) (c0 :: c1 :: rul n st :: .dct kd :: rest)) := by
  have h1 := own_at ht hf hl n st c0 c1 rest
  obtain ⟨ss, e⟩ := own_str ht (p :: (fs.reverse ++ [emp]))
  unfold osOf
  rw [hb, e, ownL_tup]
  rw [e] at h1
  exact h1
theorem ownF_ok {n : Int} {st : Bool} {kd : List (Key × D)} (ht : TupVals kd) : OwnF n st kd (osOf kd) P3 :=
  all3 (P := fun p => ∀ (c0 c1 : Cell) (rest : List Cell), F_Rules__owners_of [.ref 2, .str p] (c0 :: c1 :: rul n st :: .dct kd :: rest) = some (.ok (.tup ((osOf kd p).map .str)) (c0 :: c1 :: rul n st :: .dct kd :: rest)))
    (own_p ht fo_h (by decide) rfl) (own_p ht fo_e (by decide) rfl) (own_p ht fo_i (by decide) rfl)
theorem paths_drawn {e : List PH.Loc} (he : e[1]? = some (.dat (.ref 0))) (a b s : Int) (κ : List Cell) : ∃ (ps : List Str) (a' b' s' : Int), (∀ p ∈ ps, p ∈ P3) ∧ ps.length ≤ 3 ∧
    (mSl (mLstD (mArg (ret (.str "src/a/x")) (mArg (ret (.str "doc")) (mArg (ret (.str "q")) (ret []))))) (ret none) (mPart (mCall F__law_roll (mArg (rd 1) (mArg (ret (.int 4)) (ret [])))))) ⟨e, dc a b s :: κ⟩ = some (.ok (.lst (ps.map .str)) ⟨e, dc a' b' s' :: κ⟩) := by
  obtain ⟨r, a1, b1, s1, r0, r4, h1⟩ := rollAt (k := 4) (by decide) (by decide) he a b s κ
  refine ⟨P3.take r.toNat, a1, b1, s1, fun p hp => List.mem_of_mem_take hp, by rw [List.length_take]; show min _ 3 ≤ 3; omega, ?_⟩
  have h2 : (mPart (mCall F__law_roll (mArg (rd 1) (mArg (ret (.int 4)) (ret []))))) ⟨e, dc a b s :: κ⟩ = some (.ok (some r) ⟨e, dc a1 b1 s1 :: κ⟩) := by
    unfold mPart bnd
    rw [h1]
    rfl
  have h3 : (mLstD (mArg (ret (.str "src/a/x")) (mArg (ret (.str "doc")) (mArg (ret (.str "q")) (ret []))))) ⟨e, dc a b s :: κ⟩ = some (.ok (.lst (P3.map .str)) ⟨e, dc a b s :: κ⟩) := rfl
  refine mSl_at h3 rfl h2 ?_
  rcases c4 r0 r4 with rfl | rfl | rfl | rfl <;> rfl
/-! what the law itself finds lacking -/
theorem inV_bl (z : Bool) : ∀ ys : List Bool, inV (.bl z) (ys.map V.bl) = decide (z ∈ ys)
  | [] => rfl
  | y :: ys => by
    have ih := inV_bl z ys
    unfold inV at ih ⊢
    rw [List.map_cons, List.any_cons, ih]
    show ((y == z) || decide (z ∈ ys)) = decide (z ∈ y :: ys)
    rw [Bool.eq_iff_iff, Bool.or_eq_true, beq_iff_eq, decide_eq_true_iff, decide_eq_true_iff, List.mem_cons]
    exact ⟨fun h => h.imp Eq.symm id, fun h => h.imp Eq.symm id⟩
theorem flatB : ∀ ys : List Bool, (ys.map D.bl).all flatD = true
  | [] => rfl
  | _ :: ys => by rw [List.map_cons, List.all_cons, flatB ys]; rfl
theorem toV_bl (ys : List Bool) : (ys.map D.bl).map toV = ys.map V.bl := by rw [List.map_map]; rfl
theorem inD_bls (ys : List Bool) : inD false (.bl true) (.lst (ys.map .bl)) = some (.bl (ys.any id)) := by
  unfold inD
  show (if flatD (.bl true) = true ∧ (ys.map D.bl).all flatD = true then some (D.bl (if false = true then !inV (toV (.bl true)) ((ys.map D.bl).map toV) else inV (toV (.bl true)) ((ys.map D.bl).map toV))) else none) = _
  rw [if_pos ⟨rfl, flatB ys⟩, toV_bl]
  show some (D.bl (inV (.bl true) (ys.map V.bl))) = _
  rw [inV_bl]
  congr 2
  rw [Bool.eq_iff_iff, decide_eq_true_iff, List.any_eq_true]
  exact ⟨fun h => ⟨true, h, rfl⟩, fun ⟨x, hx, h⟩ => by rw [show x = true from h] at hx; exact hx⟩
theorem tagM {B : MM D} {ρ : PH.St} {b : Bool} {w : Str} (h : B ρ = some (.ok (.bl b) ρ)) : mOp dMul (mLstD (mArg (ret (.str w)) (ret []))) (mCb dIntOf (mArg B (ret []))) ρ = some (.ok (.lst ((tagW b w).map .str)) ρ) := by
  refine mOp_at (x := .lst [.str w]) (y := .int (if b then 1 else 0)) rfl (mCb_at (as := [.bl b]) (mArg_at h rfl) rfl) ?_
  cases b <;> rfl
theorem addL {x y : MM D} {ρ : PH.St} {xs ys : List Str} (h : x ρ = some (.ok (.lst (xs.map .str)) ρ)) (k : y ρ = some (.ok (.lst (ys.map .str)) ρ)) (hl : xs.length + ys.length ≤ 1000) : mOp dAdd x y ρ = some (.ok (.lst ((xs ++ ys).map .str)) ρ) := by
  refine mOp_at h k ?_
  show (if (xs.map D.str).length + (ys.map D.str).length ≤ cap then some (D.lst (xs.map D.str ++ ys.map D.str)) else none) = _
  rw [if_pos (by rw [List.length_map, List.length_map]; show _ ≤ 100000; omega), List.map_append]
theorem eq_nil (xs : List Str) : dEq (.lst (xs.map .str)) (.lst []) = some (.bl xs.isEmpty) := by
  cases xs with
  | nil => rfl
  | cons x xs =>
    obtain ⟨p, q⟩ := flat_ok (.lst ((x :: xs).map .str)) 1 (by show flats 0 _ = true; rw [flats_all, List.all_map]; exact List.all_eq_true.mpr fun _ _ => rfl)
    unfold dEq eqD
    rw [if_pos ⟨p, rfl, by omega⟩]
    rfl
theorem ne_nilT (xs : List Str) : dNe (.tup (xs.map .str)) (.tup []) = some (.bl (!xs.isEmpty)) := by
  cases xs with
  | nil => rfl
  | cons x xs =>
    obtain ⟨p, q⟩ := flat_ok (.tup ((x :: xs).map .str)) 1 (by show flats 0 _ = true; rw [flats_all, List.all_map]; exact List.all_eq_true.mpr fun _ _ => rfl)
    unfold dNe eqD
    rw [if_pos ⟨p, rfl, by omega⟩]
    rfl
theorem eq_selfL (xs : List Str) : dNe (.lst (xs.map .str)) (.lst (xs.map .str)) = some (.bl false) := by
  have hf : flat 1 (.lst (xs.map .str)) = true := by show flats 0 _ = true; rw [flats_all, List.all_map]; exact List.all_eq_true.mpr fun _ _ => rfl
  unfold dNe
  rw [eqD_refl hf (by decide)]
  rfl
end K08
end
section
set_option maxHeartbeats 0
namespace PH
open PySem PySem.Spec PyProof.Rows L2
theorem andV_at {a b : MM D} {ρ : St} {x y : Bool} (h : a ρ = some (.ok (.bl x) ρ)) (k : b ρ = some (.ok (.bl y) ρ)) : mAndV a b ρ = some (.ok (.bl (x && y)) ρ) := by
  unfold mAndV bnd
  rw [h]
  dsimp only
  unfold lft
  dsimp only [asB]
  cases x with
  | true => rw [if_pos rfl, k]; rfl
  | false => rw [if_neg (by decide)]; rfl
theorem mOr_ff {a b : MM Bool} {ρ : St} {o : Option (Res Bool)} (h : a ρ = some (.ok false ρ)) (k : b ρ = o) : mOr a b ρ = o := by
  unfold mOr bnd
  rw [h]
  dsimp only
  rw [if_neg (by decide), k]
theorem mCbD_at {op : List D → Option (List D)} {ma : MM (List D)} {ρ ρ1 : St} {as ds : List D} (h : ma ρ = some (.ok as ρ1)) (k : op (as.map (see1 ρ1.c)) = some ds) : mCbD op ma ρ = some (.ok (.lst ds) ρ1) := by
  unfold mCbD bnd
  rw [h]
  dsimp only
  unfold lftK lft
  dsimp only
  rw [k]
  rfl
theorem mItems_lst {m : MM D} {ρ ρ1 : St} {ds : List D} (h : m ρ = some (.ok (.lst ds) ρ1)) : mItems m ρ = some (.ok (ds, none) ρ1) := by
  unfold mItems bnd
  rw [h]
  rfl
theorem see_dct {κ : List Cell} {n : Nat} {kd : List (Key × D)} (h : κ[n]? = some (.dct kd)) : see1 κ (.ref n) = .dct kd := by
  unfold see1
  dsimp only
  rw [h]
theorem see_lst {κ : List Cell} {n : Nat} {ds : List D} (h : κ[n]? = some (.lst ds)) : see1 κ (.ref n) = .lst ds := by
  unfold see1
  dsimp only
  rw [h]
theorem seeD_dct {κ : List Cell} {n : Nat} {kd : List (Key × D)} (h : κ[n]? = some (.dct kd)) : seeD κ (.ref n) = some kd := by
  unfold seeD
  dsimp only
  rw [h]
end PH
namespace K08
open PySem PySem.Spec PyProof.Rows L2 PH
section
variable {e : List PH.Loc} {n h : Int} {st : Bool} {kd : List (Key × D)} {vr lv lr : Nat} {vv : VV} {rs : RS} {κ : List Cell}
theorem set21 {z : D} (hl : e.length = 26) : setD 21 z ⟨wipeL e [21], κ⟩ = some ⟨(wipeL e [21]).set 21 (.dat z), κ⟩ := setD_at (by rw [wipeL_len, hl]; decide)
theorem get21 {z : PH.Loc} (hl : e.length = 26) : ((wipeL e [21]).set 21 z)[21]? = some z := List.getElem?_set_self (by rw [wipeL_len, hl]; decide)
theorem oth21 {z y : PH.Loc} {i : Nat} (hi : i ≠ 21) (hy : e[i]? = some y) : ((wipeL e [21]).set 21 z)[i]? = some y := by
  rw [List.getElem?_set_ne (Ne.symm hi)]
  show (e.set 21 .non)[i]? = _
  rw [List.getElem?_set_ne (Ne.symm hi)]
  exact hy
theorem fans23 (hl : e.length = 26) (h7 : e[7]? = some (.dat (.ref lv))) (hv : κ[lv]? = some (.dct (mk vv))) (g : GV vv) :
    mLcD (mItems (mCbD dSorted (mArg (rd 7) (ret [])))) [21] (setD 21) m_law_c3 m_law_e5 ⟨e, κ⟩ = some (.ok (.lst ((fans vv).map .str)) ⟨e, κ⟩) := by
  have hg := g.len
  have h1 : mItems (mCbD dSorted (mArg (rd 7) (ret []))) ⟨e, κ⟩ = some (.ok ((keysV vv).map .str, none) ⟨e, κ⟩) :=
    mItems_lst (mCbD_at (as := [.ref lv]) (mArg_at (rd_at h7) rfl) (by show dSorted [see1 κ (.ref lv)] = _; rw [see_dct hv, sorted_mk g]))
  refine mLcD_at h1 ((compK_filter (f := fan (mk vv)) ((keysV vv).map .str) [] (fun d hd => ?_) (by rw [List.length_map, keysV_len]; show 0 + _ ≤ 1000; omega)).trans (by rw [fan_strs]; rfl))
  obtain ⟨z, hz, rfl⟩ := List.mem_map.mp hd
  obtain ⟨v, hv2⟩ := keysV_mem hz
  exact ⟨_, set21 hl, rfl, fan_test (rd_at (oth21 (by decide) h7)) (rd_at (get21 hl)) hv (val_mk g.nd hv2), rd_at (get21 hl)⟩
theorem due13 (E : Es e n lv lr h) (I : Inv n st kd h vr lv lr vv rs κ) (h23 : e[23]? = some (.dat (.lst ((fans vv).map .str)))) :
    (mOp dAdd (mOp dAdd (mOp dMul (mLstD (mArg (ret (.str "votes")) (ret []))) (mCb dIntOf (mArg (mOp dLt (mCb dLenA (mArg (rd 23) (ret []))) (rd 4)) (ret [])))) (mOp dMul (mLstD (mArg (ret (.str "against")) (ret []))) (mCb dIntOf (mArg (mOpK dInVals (mUn dNeg (ret (.int 1))) (rd 7)) (ret []))))) (mOp dMul (mLstD (mArg (ret (.str "remarks")) (ret []))) (mCb dIntOf (mArg (mOp (inD false) (ret (.bl true)) (rd 8)) (ret []))))) ⟨e, κ⟩
      = some (.ok (.lst ((tagW (decide (((fans vv).length : Int) < n)) "votes" ++ tagW (decide ((-1 : Int) ∈ vv.map (·.2))) "against" ++ tagW ((rbs rs).any id) "remarks").map .str)) ⟨e, κ⟩) := by
  have l1 := tagW_len (decide (((fans vv).length : Int) < n)) "votes"
  have l2 := tagW_len (decide ((-1 : Int) ∈ vv.map (·.2))) "against"
  have l3 := tagW_len ((rbs rs).any id) "remarks"
  refine addL (addL (tagM (mOp_at (x := .int (fans vv).length) (y := .int n) (mCb_at (as := [.lst ((fans vv).map .str)]) (mArg_at (rd_at h23) rfl) ?_) (rd_at E.s4) rfl)) (tagM (mOpK_at (x := .int (-1)) (y := .ref lv) rfl (rd_at E.s7) ?_)) (by omega)) (tagM (mOp_at (x := .bl true) (y := .ref lr) rfl (rd_at E.s8) ?_)) (by rw [List.length_append]; omega)
  · show some (D.int (((fans vv).map D.str).length : Int)) = _
    rw [List.length_map]
  · have hv : ∀ vv : VV, valsI (mk vv) = some (vv.map (·.2)) := fun vv => by
      induction vv with
      | nil => rfl
      | cons p vv ih =>
        show (valsI (mk vv)).map (p.2 :: ·) = _
        rw [ih]
        rfl
    show (seeD κ (.ref lv)).bind (fun kd => (valsI kd).map fun ns => D.bl (decide ((-1 : Int) ∈ ns))) = _
    rw [seeD_dct I.l]
    show (valsI (mk vv)).map (fun ns => D.bl (decide ((-1 : Int) ∈ ns))) = _
    rw [hv]
    rfl
  · show inD false (.bl true) (see1 κ (.ref lr)) = _
    rw [see_lst I.r]
    exact inD_bls _
/-- one path -/
theorem law1 (E : Es e n lv lr h) (I : Inv n st kd h vr lv lr vv rs κ) (ht : TupVals kd) {p : Str} (hp : p ∈ P3) {fs W : List Str} (hfl : fs.length ≤ 100) (hW : W.length ≤ 900) (h10 : e[10]? = some (.dat (.str p))) (h23 : e[23]? = some (.dat (.lst (fs.map .str)))) (h13 : e[13]? = some (.dat (.lst (W.map .str)))) :
    m_law_b2 ⟨e, κ⟩ = some (.nx ⟨(e.set 24 (.dat (.tup ((osOf kd p).map .str)))).set 13 (.dat (.lst ((W ++ (if mine fs (osOf kd p) = true then [own p] else [])).map .str))), κ⟩) := by
  have hpl : p.length ≤ 1000 := all3 (P := fun p => p.length ≤ 1000) (by decide) (by decide) (by decide) p hp
  have h1 : mMethO "Rules" "owners_of" F_Rules__owners_of (rd 5) (mArg (rd 10) (ret [])) ⟨e, κ⟩ = some (.ok (.tup ((osOf kd p).map .str)) ⟨e, κ⟩) := by
    obtain ⟨a, b, s, c1, c5, m, t, hm, rfl⟩ := I.shape
    exact methO_e (n := 2) (as := [.str p]) (rd_at E.s5) rfl rfl (mArg_at (rd_at h10) rfl) (ownF_ok ht p hp _ _ _)
  refine (mSeq_nx (asg_e h1 (by rw [E.len]; decide))).trans ?_
  generalize hss : osOf kd p = ss
  have E2 := E.set (k := 24) (by decide) (.dat (.tup (ss.map .str)))
  have g24 : (e.set 24 (.dat (.tup (ss.map .str))))[24]? = some (.dat (.tup (ss.map .str))) := List.getElem?_set_self (by rw [E.len]; decide)
  have go : ∀ {i : Nat} {y : PH.Loc}, i ≠ 24 → e[i]? = some y → (e.set 24 (.dat (.tup (ss.map .str))))[i]? = some y := fun hi hy => by rw [List.getElem?_set_ne (Ne.symm hi)]; exact hy
  have k10 := go (by decide) h10
  have k23 := go (by decide) h23
  have k13 := go (by decide) h13
  generalize e.set 24 (.dat (.tup (ss.map .str))) = e' at E2 g24 k10 k23 k13
  have h2 : mOp dNe (rd 24) (mTupD (ret [])) ⟨e', κ⟩ = some (.ok (.bl (!ss.isEmpty)) ⟨e', κ⟩) := mOp_at (rd_at g24) (y := .tup []) rfl (ne_nilT ss)
  have h3 : mOp (inD true) (ret (.str "dan")) (rd 24) ⟨e', κ⟩ = some (.ok (.bl (!decide (dan ∈ ss))) ⟨e', κ⟩) := mOp_at (x := .str dan) rfl (rd_at g24) (inD_strsT (neg := true) dan ss)
  have h4 : mLcD (mItems (rd 23)) [21] (setD 21) m_law_c4 m_law_e6 ⟨e', κ⟩ = some (.ok (.lst ((fs.filter fun z => decide (z ∈ ss)).map .str)) ⟨e', κ⟩) := by
    refine mLcD_at (mItems_lst (rd_at k23)) ((compK_filter (f := fun d => match d with | .str z => decide (z ∈ ss) | _ => false) (fs.map .str) [] (fun d hd => ?_) (by rw [List.length_map]; show 0 + _ ≤ 1000; omega)).trans ?_)
    · obtain ⟨z, hz, rfl⟩ := List.mem_map.mp hd
      exact ⟨_, set21 E2.len, rfl, mTest_at (mOp_at (rd_at (get21 E2.len)) (rd_at (oth21 (by decide) g24)) (inD_strsT (neg := false) z ss)), rd_at (get21 E2.len)⟩
    · rw [List.nil_append, List.filter_map]
      rfl
  have h5 : mOp dEq (mLcD (mItems (rd 23)) [21] (setD 21) m_law_c4 m_law_e6) (mLstD (ret [])) ⟨e', κ⟩ = some (.ok (.bl (fs.filter fun z => decide (z ∈ ss)).isEmpty) ⟨e', κ⟩) := mOp_at h4 (y := .lst []) rfl (eq_nil _)
  have h6 := andV_at h2 (andV_at h3 h5)
  have e6 : (!ss.isEmpty && (!decide (dan ∈ ss) && (fs.filter fun z => decide (z ∈ ss)).isEmpty)) = mine fs ss := by
    unfold mine
    congr 1
    rw [List.any_cons, Bool.not_or]
    congr 1
    rw [Bool.eq_iff_iff, List.isEmpty_iff, List.filter_eq_nil_iff, Bool.not_eq_true', List.any_eq_false]
  rw [e6] at h6
  have h7 : mOp dMul (mLstD (mArg (mOp dAdd (ret (.str "owner ")) (rd 10)) (ret []))) (mCb dIntOf (mArg (mAndV (mOp dNe (rd 24) (mTupD (ret []))) (mAndV (mOp (inD true) (ret (.str "dan")) (rd 24)) (mOp dEq (mLcD (mItems (rd 23)) [21] (setD 21) m_law_c4 m_law_e6) (mLstD (ret []))))) (ret []))) ⟨e', κ⟩ = some (.ok (.lst ((if mine fs ss = true then [own p] else []).map .str)) ⟨e', κ⟩) := by
    have hl : ("owner " : Str).length + p.length ≤ cap := by show 6 + p.length ≤ 100000; omega
    refine mOp_at (x := .lst [.str (own p)]) (y := .int (if mine fs ss then 1 else 0)) (mLstD_at (mArg_at (mOp_at (x := .str "owner ") (y := .str p) rfl (rd_at k10) (show (if ("owner " : Str).length + p.length ≤ cap then some (D.str (own p)) else none) = _ from if_pos hl)) rfl) (show 1 ≤ 100000 by decide)) (mCb_at (as := [.bl (mine fs ss)]) (mArg_at h6 rfl) rfl) ?_
    cases mine fs ss <;> rfl
  refine asg_e (addL (rd_at k13) h7 ?_) (by rw [E2.len]; decide)
  split
  · show W.length + 1 ≤ 1000; omega
  · show W.length + 0 ≤ 1000; omega
theorem lawL (I : Inv n st kd h vr lv lr vv rs κ) (ht : TupVals kd) {fs : List Str} (hfl : fs.length ≤ 100) {x22 : PH.Loc} : ∀ (ps W : List Str) (e : List PH.Loc), Es e n lv lr h → (∀ p ∈ ps, p ∈ P3) → W.length + ps.length ≤ 900 → e[22]? = some x22 → e[23]? = some (.dat (.lst (fs.map .str))) → e[13]? = some (.dat (.lst (W.map .str))) →
    ∃ e', loopK none (setD 10) m_law_b2 (ps.map .str) ⟨e, κ⟩ = some (.nx ⟨e', κ⟩) ∧ Es e' n lv lr h ∧ e'[22]? = some x22 ∧ e'[23]? = some (.dat (.lst (fs.map .str))) ∧ e'[13]? = some (.dat (.lst ((W ++ ownW fs (osOf kd) ps).map .str)))
  | [], W, e, E, _, _, h22, h23, h13 => ⟨e, loopK_nil trivial, E, h22, h23, by rw [show ownW fs (osOf kd) [] = [] from rfl, List.append_nil]; exact h13⟩
  | p :: ps, W, e, E, hp, hl, h22, h23, h13 => by
    have hl : W.length + (ps.length + 1) ≤ 900 := hl
    have E1 := E.set (k := 10) (by decide) (.dat (.str p))
    have go : ∀ {i k : Nat} {x y : PH.Loc} {e : List PH.Loc}, i ≠ k → e[i]? = some y → (e.set k x)[i]? = some y := fun hi hy => by rw [List.getElem?_set_ne (Ne.symm hi)]; exact hy
    have h1 := law1 E1 I ht (hp p List.mem_cons_self) hfl (W := W) (by omega) (List.getElem?_set_self (by rw [E.len]; decide)) (go (by decide) h23) (go (by decide) h13)
    have E2 := (E1.set (k := 24) (by decide) (.dat (.tup ((osOf kd p).map .str)))).set (k := 13) (by decide) (.dat (.lst ((W ++ (if mine fs (osOf kd p) = true then [own p] else [])).map .str)))
    obtain ⟨e', h2, E', k22, k23, k13⟩ := lawL I ht hfl ps (W ++ (if mine fs (osOf kd p) = true then [own p] else [])) _ E2 (fun q hq => hp q (List.mem_cons_of_mem _ hq)) (by
      rw [List.length_append]
      split
      · show W.length + 1 + _ ≤ _; omega
      · show W.length + 0 + _ ≤ _; omega) (go (by decide) (go (by decide) (go (by decide) h22))) (go (by decide) (go (by decide) (go (by decide) h23))) (List.getElem?_set_self (by rw [List.length_set, E1.len]; decide))
    refine ⟨e', ?_, E', k22, k23, ?_⟩
    · rw [List.map_cons]
      exact (loopK_nx (k := none) trivial (setD_at (by rw [E.len]; decide)) h1).trans h2
    · rw [k13, List.append_assoc]
      rfl
end
end K08
end
section
set_option maxHeartbeats 0
namespace K08
open PySem PySem.Spec PyProof.Rows L2 PH
section
variable {e : List PH.Loc} {n h : Int} {st : Bool} {kd : List (Key × D)} {vr lv lr : Nat} {vv : VV} {rs : RS} {κ : List Cell}
theorem neD_self {κ : List Cell} {i j : Nat} (h1 : κ[i]? = some (.dct (mk vv))) (h2 : κ[j]? = some (.dct (mk vv))) (g : GV vv) : dNeD κ (.ref i) (.ref j) = some (.bl false) := by
  unfold dNeD
  dsimp only
  rw [h1, h2]
  refine if_pos ⟨rfl, fun p hp => ?_⟩
  obtain ⟨q, hq, rfl⟩ := List.mem_map.mp hp
  exact ⟨rfl, (fun z => nomatch z), val_mk g.nd hq⟩
theorem fin_ok (E : Es e n lv lr h) (I : Inv n st kd h vr lv lr vv rs κ) (ht : TupVals kd) {ps : List Str} (hp : ∀ p ∈ ps, p ∈ P3) (hl : ps.length ≤ 3) (h22 : e[22]? = some (.dat (.lst (ps.map .str)))) (h23 : e[23]? = some (.dat (.lst ((fans vv).map .str)))) (h13 : e[13]? = some (.dat (.lst ((dueW n vv (rbs rs) (osOf kd) ps).map .str)))) :
    (mIf (mOr (mTest (mOp dNe (mCbD dListA (mArg (mCall F_lacks (mArg (rd 6) (mArg (rd 5) (mArg (rd 22) (ret []))))) (ret []))) (rd 13))) (mOr (mTest (mOpK dNeD (mUnK (fldOf "Change" "votes") (rd 6)) (rd 7))) (mOr (mTest (mOp dNe (mUnK (fldOf "Change" "head") (rd 6)) (rd 9))) (mTest (mOp dNe (mMethO "Change" "supporters" F_Change__supporters (rd 6) (ret [])) (rd 23))))))
    (mRet (ret (.bl false)))
    mNext) ⟨e, κ⟩ = some (.nx ⟨e, κ⟩) := by
  have f1 : F_lacks [.ref 4, .ref 2, .lst (ps.map .str)] κ = some (.ok (.tup ((dueW n vv (rbs rs) (osOf kd) ps).map .str)) κ) := by
    have hv := I.v
    obtain ⟨a, b, s, c1, c5, m, t, rfl, rfl⟩ := I.shape
    exact lacks_ok (rs := rs) I.g hv rfl (fun p hq => ownF_ok ht p (hp p hq)) (by omega) (fun p hq => all3 (P := fun p => p.length ≤ 1000) (by decide) (by decide) (by decide) p (hp p hq))
  have f2 : F_Change__supporters [.ref 4] κ = some (.ok (.lst ((fans vv).map .str)) κ) := by
    have hv := I.v
    have hg := I.g.len
    obtain ⟨a, b, s, c1, c5, m, t, rfl, rfl⟩ := I.shape
    have hs := supp_ok (c0 := dc a b s) (c1 := c1) (c2 := rul n st) (c3 := .dct kd) (h := h) (vr := m + 5) (t := c5 :: .lst (rcs rs) :: t) (V := mk vv) hv (sorted_mk I.g) (by rw [keysV_len]; omega) (fun z hz => by obtain ⟨v, hv⟩ := keysV_mem hz; exact ⟨v, val_mk I.g.nd hv⟩)
    rw [fan_strs] at hs
    exact hs
  have f3 : fldOf "Change" "votes" κ (.ref 4) = some (.ref vr) := by
    obtain ⟨a, b, s, c1, c5, m, t, rfl, rfl⟩ := I.shape
    rfl
  have f4 : fldOf "Change" "head" κ (.ref 4) = some (.int h) := by
    obtain ⟨a, b, s, c1, c5, m, t, rfl, rfl⟩ := I.shape
    rfl
  have g1 : mCbD dListA (mArg (mCall F_lacks (mArg (rd 6) (mArg (rd 5) (mArg (rd 22) (ret []))))) (ret [])) ⟨e, κ⟩ = some (.ok (.lst ((dueW n vv (rbs rs) (osOf kd) ps).map .str)) ⟨e, κ⟩) :=
    mCbD_at (as := [.tup ((dueW n vv (rbs rs) (osOf kd) ps).map .str)]) (mArg_at (mCall_at (ρ1 := ⟨e, κ⟩) (mArg_at (rd_at E.s6) (mArg_at (rd_at E.s5) (mArg_at (rd_at h22) rfl))) f1) rfl) rfl
  have t1 := mTest_at (mOp_at (op := dNe) g1 (rd_at h13) (eq_selfL _))
  have t2 := mTest_at (mOpK_at (op := dNeD) (mUnK_at (op := fldOf "Change" "votes") (rd_at (κ := κ) E.s6) f3) (rd_at E.s7) (neD_self I.v I.l I.g))
  have t3 := mTest_at (b := false) (mOp_at (op := dNe) (mUnK_at (op := fldOf "Change" "head") (rd_at (κ := κ) E.s6) f4) (rd_at E.s9) (by
    show dNe (.int h) (.int h) = _
    unfold dNe
    rw [eqD_int, decide_eq_true rfl]
    rfl))
  have g4 : mMethO "Change" "supporters" F_Change__supporters (rd 6) (ret []) ⟨e, κ⟩ = some (.ok (.lst ((fans vv).map .str)) ⟨e, κ⟩) := by
    obtain ⟨a, b, s, c1, c5, m, t, rfl, rfl⟩ := I.shape
    exact methO_e (n := 4) (as := []) (rd_at E.s6) rfl rfl rfl f2
  have t4 := mTest_at (mOp_at (op := dNe) g4 (rd_at h23) (eq_selfL _))
  exact mIf_f (mOr_ff t1 (mOr_ff t2 (mOr_ff t3 t4)))
noncomputable def mTail : MS := (mSeq (mAsg (mSl (mLstD (mArg (ret (.str "src/a/x")) (mArg (ret (.str "doc")) (mArg (ret (.str "q")) (ret []))))) (ret none) (mPart (mCall F__law_roll (mArg (rd 1) (mArg (ret (.int 4)) (ret [])))))) (setD 22))
    (mSeq (mAsg (mLcD (mItems (mCbD dSorted (mArg (rd 7) (ret [])))) [21] (setD 21) m_law_c3 m_law_e5) (setD 23))
    (mSeq (mAsg (mOp dAdd (mOp dAdd (mOp dMul (mLstD (mArg (ret (.str "votes")) (ret []))) (mCb dIntOf (mArg (mOp dLt (mCb dLenA (mArg (rd 23) (ret []))) (rd 4)) (ret [])))) (mOp dMul (mLstD (mArg (ret (.str "against")) (ret []))) (mCb dIntOf (mArg (mOpK dInVals (mUn dNeg (ret (.int 1))) (rd 7)) (ret []))))) (mOp dMul (mLstD (mArg (ret (.str "remarks")) (ret []))) (mCb dIntOf (mArg (mOp (inD false) (ret (.bl true)) (rd 8)) (ret []))))) (setD 13))
    (mSeq (mForI (mItems (rd 22)) (setD 10)
    m_law_b2)
    (mIf (mOr (mTest (mOp dNe (mCbD dListA (mArg (mCall F_lacks (mArg (rd 6) (mArg (rd 5) (mArg (rd 22) (ret []))))) (ret []))) (rd 13))) (mOr (mTest (mOpK dNeD (mUnK (fldOf "Change" "votes") (rd 6)) (rd 7))) (mOr (mTest (mOp dNe (mUnK (fldOf "Change" "head") (rd 6)) (rd 9))) (mTest (mOp dNe (mMethO "Change" "supporters" F_Change__supporters (rd 6) (ret [])) (rd 23))))))
    (mRet (ret (.bl false)))
    mNext)))))
theorem tail_ok {a b s : Int} {t : List Cell} (E : Es e n lv lr h) (I : Inv n st kd h vr lv lr vv rs (dc a b s :: t)) (ht : TupVals kd) : ∃ e' a' b' s', mTail ⟨e, dc a b s :: t⟩ = some (.nx ⟨e', dc a' b' s' :: t⟩) ∧ Es e' n lv lr h := by
  have go : ∀ {i k : Nat} {x y : PH.Loc} {e : List PH.Loc}, i ≠ k → e[i]? = some y → (e.set k x)[i]? = some y := fun hi hy => by rw [List.getElem?_set_ne (Ne.symm hi)]; exact hy
  obtain ⟨ps, a1, b1, s1, hp, hl, h1⟩ := paths_drawn E.s1 a b s t
  have I1 := I.dice' a1 b1 s1
  generalize hκ : dc a1 b1 s1 :: t = κ at h1 I1
  have E1 := E.set (k := 22) (by decide) (.dat (.lst (ps.map .str)))
  have k22 : (e.set 22 (.dat (.lst (ps.map .str))))[22]? = some (.dat (.lst (ps.map .str))) := List.getElem?_set_self (by rw [E.len]; decide)
  have g1 := asg_e (k := 22) h1 (by rw [E.len]; decide)
  generalize e.set 22 (.dat (.lst (ps.map .str))) = e1 at E1 k22 g1
  have g2 := asg_e (k := 23) (fans23 E1.len E1.s7 I1.l I1.g) (by rw [E1.len]; decide)
  have E2 := E1.set (k := 23) (by decide) (.dat (.lst ((fans vv).map .str)))
  have k23 : (e1.set 23 (.dat (.lst ((fans vv).map .str))))[23]? = some (.dat (.lst ((fans vv).map .str))) := List.getElem?_set_self (by rw [E1.len]; decide)
  have k22 := go (k := 23) (x := .dat (.lst ((fans vv).map .str))) (by decide) k22
  generalize e1.set 23 (.dat (.lst ((fans vv).map .str))) = e2 at E2 k23 k22 g2
  have g3 := asg_e (k := 13) (due13 E2 I1 k23) (by rw [E2.len]; decide)
  have l1 := tagW_len (decide (((fans vv).length : Int) < n)) "votes"
  have l2 := tagW_len (decide ((-1 : Int) ∈ vv.map (·.2))) "against"
  have l3 := tagW_len ((rbs rs).any id) "remarks"
  have hW : (tagW (decide (((fans vv).length : Int) < n)) "votes" ++ tagW (decide ((-1 : Int) ∈ vv.map (·.2))) "against" ++ tagW ((rbs rs).any id) "remarks").length ≤ 3 := by rw [List.length_append, List.length_append]; omega
  have hD : dueW n vv (rbs rs) (osOf kd) ps = (tagW (decide (((fans vv).length : Int) < n)) "votes" ++ tagW (decide ((-1 : Int) ∈ vv.map (·.2))) "against" ++ tagW ((rbs rs).any id) "remarks") ++ ownW (fans vv) (osOf kd) ps := rfl
  generalize (tagW (decide (((fans vv).length : Int) < n)) "votes" ++ tagW (decide ((-1 : Int) ∈ vv.map (·.2))) "against" ++ tagW ((rbs rs).any id) "remarks") = W at g3 hW hD
  have E3 := E2.set (k := 13) (by decide) (.dat (.lst (W.map .str)))
  have k13 : (e2.set 13 (.dat (.lst (W.map .str))))[13]? = some (.dat (.lst (W.map .str))) := List.getElem?_set_self (by rw [E2.len]; decide)
  have k22 := go (k := 13) (x := .dat (.lst (W.map .str))) (by decide) k22
  have k23 := go (k := 13) (x := .dat (.lst (W.map .str))) (by decide) k23
  generalize e2.set 13 (.dat (.lst (W.map .str))) = e3 at E3 k23 k22 k13 g3
  have hfl := fans_len I1.g
  obtain ⟨e4, g4, E4, m22, m23, m13⟩ := lawL I1 ht (fs := fans vv) (by omega) ps W e3 E3 hp (by omega) k22 k23 k13
  rw [← hD] at m13
  have g5 := fin_ok E4 I1 ht hp hl m22 m23 m13
  subst hκ
  refine ⟨e4, a1, b1, s1, ?_, E4⟩
  exact (mSeq_nx g1).trans ((mSeq_nx g2).trans ((mSeq_nx g3).trans ((mSeq_nx (mForI_at (mItems_lst (rd_at k22)) g4)).trans g5)))
end
end K08
end
section
set_option maxHeartbeats 0
namespace PH
open PySem PySem.Spec PyProof.Rows L2
theorem told_er {m : MM D} {y r : Str} {ρ ρ1 : St} (h : m ρ = some (.er y ρ1)) : mTold y r m ρ = some (.ok (.str r) ρ1) := by
  unfold mTold
  rw [h]
  exact if_pos rfl
theorem told_ok {m : MM D} {y r : Str} {ρ ρ1 : St} {d : D} (h : m ρ = some (.ok d ρ1)) : mTold y r m ρ = some (.ok d ρ1) := by
  unfold mTold
  rw [h]
theorem orV_at {a b : MM D} {ρ : St} {x y : Bool} (h : a ρ = some (.ok (.bl x) ρ)) (k : b ρ = some (.ok (.bl y) ρ)) : mOrV a b ρ = some (.ok (.bl (x || y)) ρ) := by
  unfold mOrV bnd
  rw [h]
  dsimp only
  unfold lft
  dsimp only [asB]
  cases x with
  | true => rw [if_pos rfl]; rfl
  | false => rw [if_neg (by decide), k]; rfl
end PH
namespace K08
open PySem PySem.Spec PyProof.Rows L2 PH
theorem methO_er {x m y : Str} {F : FF} {mo : MM D} {ma : MM (List D)} {e : List PH.Loc} {κ κ' : List Cell} {n : Nat} {fs : List (Str × D)} {as : List D} (h : mo ⟨e, κ⟩ = some (.ok (.ref n) ⟨e, κ⟩)) (hc : κ[n]? = some (.obj x fs)) (hl : (fs.lookup m).isNone = true) (ha : ma ⟨e, κ⟩ = some (.ok as ⟨e, κ⟩)) (hF : F (.ref n :: as) κ = some (.er y κ')) :
    mMethO x m F mo ma ⟨e, κ⟩ = some (.er y ⟨e, κ'⟩) := methO_at (r := .er y κ') h hc hl ha hF
theorem eqS (x y : Str) : dEq (.str x) (.str y) = some (.bl (decide (x = y))) := by unfold dEq; rw [eqD_str]; rfl
theorem eqI (x y : Int) : dEq (.int x) (.int y) = some (.bl (decide (x = y))) := by unfold dEq; rw [eqD_int]; rfl
theorem neI (x y : Int) : dNe (.int x) (.int y) = some (.bl (!decide (x = y))) := by unfold dNe; rw [eqD_int]; rfl
theorem neB (x : Bool) : dNe (.bl x) (.bl x) = some (.bl false) := by cases x <;> rfl
section
variable {e : List PH.Loc} {n h : Int} {st : Bool} {kd : List (Key × D)} {vr lv lr : Nat} {vv : VV} {rs : RS} {κ : List Cell}
theorem Inv.v6 (I : Inv n st kd h vr lv lr vv rs κ) : vr ≠ 6 ∧ lv ≠ 6 ∧ vr ≠ lr ∧ lv ≠ lr := by
  refine ⟨fun z => ?_, fun z => ?_, fun z => ?_, fun z => ?_⟩
  · have := I.v; rw [z, I.s6] at this; cases this
  · have := I.l; rw [z, I.s6] at this; cases this
  · have := I.v; rw [z, I.r] at this; cases this
  · have := I.l; rw [z, I.r] at this; cases this
theorem get_ne {κ : List Cell} {i j : Nat} {x y : Cell} (h : i ≠ j) (hy : κ[i]? = some y) : (κ.set j x)[i]? = some y := by rw [List.getElem?_set_ne (Ne.symm h)]; exact hy
theorem get_eq {κ : List Cell} {i : Nat} {x y : Cell} (hy : κ[i]? = some y) : (κ.set i x)[i]? = some x := List.getElem?_set_self ((List.getElem?_eq_some_iff.mp hy).1)
/-- both tables of votes changed -/
theorem Inv.both (I : Inv n st kd h vr lv lr vv rs κ) {vv' : VV} (g : GV vv') : Inv n st kd h vr lv lr vv' rs ((κ.set vr (.dct (K08.mk vv'))).set lv (.dct (K08.mk vv'))) := by
  obtain ⟨a1, a2, a3, a4⟩ := I.v6
  have n1 := I.n1
  have n2 := I.n2
  have n4 := I.n4
  have go : ∀ {i : Nat} {y : Cell}, i ≠ vr → i ≠ lv → κ[i]? = some y → ((κ.set vr (.dct (K08.mk vv'))).set lv (.dct (K08.mk vv')))[i]? = some y := fun h1 h2 hy => get_ne h2 (get_ne h1 hy)
  obtain ⟨a, b, s, e0⟩ := I.s0
  exact ⟨⟨a, b, s, go (by omega) (by omega) e0⟩, go (by omega) (by omega) I.s2, go (by omega) (by omega) I.s3, go (by omega) (by omega) I.s4, go (by omega) (by omega) I.s6, get_ne n4 (get_eq I.v), get_eq (get_ne (Ne.symm n4) I.l), go (Ne.symm a3) (Ne.symm a4) I.r, n1, n2, I.n3, n4, g⟩
/-! a step's numbers -/
theorem drawn {a b s : Int} {t : List Cell} (E : Es e n lv lr h) : ∃ (sort v : Int) (x : Str) (a' b' s' : Int) (e' : List PH.Loc), 0 ≤ sort ∧ sort < 6 ∧ x ∈ names ∧ (v = -1 ∨ v = 0 ∨ v = 1 ∨ v = 2) ∧ Es e' n lv lr h ∧ e'[14]? = e[14]? ∧ e'[15]? = some (.dat (.int sort)) ∧ e'[16]? = some (.dat (.str x)) ∧ e'[17]? = some (.dat (.int v)) ∧
    (mAsg (mTupD (mArg (mCall F__law_roll (mArg (rd 1) (mArg (ret (.int 6)) (ret [])))) (mArg (mOp dIx (mLstD (mArg (ret (.str "ann")) (mArg (ret (.str "bob")) (mArg (ret (.str "cy")) (mArg (ret (.str "dan")) (mArg (ret (.str "eve")) (ret []))))))) (mCall F__law_roll (mArg (rd 1) (mArg (ret (.int 5)) (ret []))))) (mArg (mOp dSub (mCall F__law_roll (mArg (rd 1) (mArg (ret (.int 4)) (ret [])))) (ret (.int 1))) (ret []))))) (setTup 3 (setCons (setD 15) (setCons (setD 16) (setCons (setD 17) setNil))))) ⟨e, dc a b s :: t⟩ = some (.nx ⟨e', dc a' b' s' :: t⟩) := by
  obtain ⟨sort, a1, b1, s1, r0, r6, h1⟩ := rollAt (k := 6) (by decide) (by decide) E.s1 a b s t
  obtain ⟨q, a2, b2, s2, q0, q5, h2⟩ := rollAt (k := 5) (by decide) (by decide) E.s1 a1 b1 s1 t
  obtain ⟨v, a3, b3, s3, v0, v4, h3⟩ := rollAt (k := 4) (by decide) (by decide) E.s1 a2 b2 s2 t
  have hq : ∃ x ∈ names, dIx (.lst (names.map .str)) (.int q) = some (.str x) := by
    have : q = 0 ∨ q = 1 ∨ q = 2 ∨ q = 3 ∨ q = 4 := by omega
    rcases this with rfl | rfl | rfl | rfl | rfl
    · exact ⟨"ann", by simp [names], rfl⟩
    · exact ⟨"bob", by simp [names], rfl⟩
    · exact ⟨"cy", by simp [names], rfl⟩
    · exact ⟨"dan", by simp [names], rfl⟩
    · exact ⟨"eve", by simp [names], rfl⟩
  obtain ⟨x, hx, e5⟩ := hq
  refine ⟨sort, v - 1, x, a3, b3, s3, ((e.set 15 (.dat (.int sort))).set 16 (.dat (.str x))).set 17 (.dat (.int (v - 1))), r0, r6, hx, by omega, ((E.set (by decide) _).set (by decide) _).set (by decide) _, ?_, ?_, ?_, ?_, ?_⟩
  · rw [List.getElem?_set_ne (by decide), List.getElem?_set_ne (by decide), List.getElem?_set_ne (by decide)]
  · rw [List.getElem?_set_ne (by decide), List.getElem?_set_ne (by decide), List.getElem?_set_self (by rw [E.len]; decide)]
  · rw [List.getElem?_set_ne (by decide), List.getElem?_set_self (by rw [List.length_set, E.len]; decide)]
  · rw [List.getElem?_set_self (by rw [List.length_set, List.length_set, E.len]; decide)]
  · have g2 := mOp_at (op := dIx) (a := mLstD (mArg (ret (.str "ann")) (mArg (ret (.str "bob")) (mArg (ret (.str "cy")) (mArg (ret (.str "dan")) (mArg (ret (.str "eve")) (ret []))))))) (ρ := ⟨e, dc a1 b1 s1 :: t⟩) (x := .lst (names.map .str)) rfl h2 e5
    have g3 := mOp_at (op := dSub) h3 (b := ret (.int 1)) (y := .int 1) rfl (show dSub (.int v) (.int 1) = some (.int (v - 1)) from rfl)
    refine mAsg_at (mTupD_at (mArg_at h1 (mArg_at g2 (mArg_at g3 rfl))) (show 3 ≤ 100000 by decide)) ?_
    show ((setD 15 (.int sort) ⟨e, dc a3 b3 s3 :: t⟩).bind fun ρ => (setD 16 (.str x) ρ).bind fun ρ => (setD 17 (.int (v - 1)) ρ).bind some) = _
    rw [setD_at (by rw [E.len]; decide)]
    show ((setD 16 (.str x) _).bind fun ρ => (setD 17 (.int (v - 1)) ρ).bind some) = _
    rw [setD_at (by rw [List.length_set, E.len]; decide)]
    show ((setD 17 (.int (v - 1)) _).bind some) = _
    rw [setD_at (by rw [List.length_set, List.length_set, E.len]; decide)]
    rfl
/-! a vote -/
noncomputable def mVote : MS := (mSeq (mAsg (mOrV (mOp dGt (rd 17) (ret (.int 1))) (mOp dEq (rd 16) (ret (.str "dan")))) (setD 18))
    (mSeq (mIf (mTest (mOp dNe (mOp dEq (mTold "ReviewError" "ReviewError" (mMethO "Change" "vote" F_Change__vote (rd 6) (mArg (rd 16) (mArg (rd 17) (ret []))))) (ret (.str "ReviewError"))) (rd 18)))
    (mRet (ret (.bl false)))
    mNext)
    (mIf (mAnd (mNot (mTruA (rd 18))) (mTest (mOp dEq (rd 17) (ret (.int 0)))))
    (mDrop (mDPop2 (rd 7) (rd 16) (ret .non)))
    (mIf (mNot (mTruA (rd 18)))
    (mDPut (rd 7) (rd 16) (rd 17))
    mNext))))
theorem vote_ok (E : Es e n lv lr h) (I : Inv n st kd h vr lv lr vv rs κ) {x : Str} {v : Int} (hx : x ∈ names) (hv : v = -1 ∨ v = 0 ∨ v = 1 ∨ v = 2) (h16 : e[16]? = some (.dat (.str x))) (h17 : e[17]? = some (.dat (.int v))) :
    ∃ e' κ' vv', mVote ⟨e, κ⟩ = some (.nx ⟨e', κ'⟩) ∧ Es e' n lv lr h ∧ Inv n st kd h vr lv lr vv' rs κ' := by
  let b : Bool := decide (1 < v) || decide (x = dan)
  have h1 : mOrV (mOp dGt (rd 17) (ret (.int 1))) (mOp dEq (rd 16) (ret (.str "dan"))) ⟨e, κ⟩ = some (.ok (.bl b) ⟨e, κ⟩) := orV_at (mOp_at (rd_at h17) (y := .int 1) rfl rfl) (mOp_at (rd_at h16) (y := .str dan) rfl (eqS _ _))
  have g1 := asg_e (k := 18) h1 (by rw [E.len]; decide)
  have E1 := E.set (k := 18) (by decide) (.dat (.bl b))
  have k18 : (e.set 18 (.dat (.bl b)))[18]? = some (.dat (.bl b)) := List.getElem?_set_self (by rw [E.len]; decide)
  have k16 : (e.set 18 (.dat (.bl b)))[16]? = some (.dat (.str x)) := by rw [List.getElem?_set_ne (by decide)]; exact h16
  have k17 : (e.set 18 (.dat (.bl b)))[17]? = some (.dat (.int v)) := by rw [List.getElem?_set_ne (by decide)]; exact h17
  generalize e.set 18 (.dat (.bl b)) = e1 at g1 E1 k18 k16 k17
  by_cases hb : x = dan ∨ v = 2
  · have eb : b = true := by
      show (decide (1 < v) || decide (x = dan)) = true
      rcases hb with hb | hb
      · rw [decide_eq_true hb, Bool.or_true]
      · rw [hb]; rfl
    have f1 : F_Change__vote [.ref 4, .str x, .int v] κ = some (.er "ReviewError" κ) := by
      obtain ⟨a, b, s, c1, c5, m, t, rfl, rfl⟩ := I.shape
      exact vote_bad hx hv hb
    have f2 : mMethO "Change" "vote" F_Change__vote (rd 6) (mArg (rd 16) (mArg (rd 17) (ret []))) ⟨e1, κ⟩ = some (.er "ReviewError" ⟨e1, κ⟩) := by
      obtain ⟨a, b, s, c1, c5, m, t, rfl, rfl⟩ := I.shape
      exact methO_er (n := 4) (as := [.str x, .int v]) (rd_at E1.s6) rfl rfl (mArg_at (rd_at k16) (mArg_at (rd_at k17) rfl)) f1
    have g2 := mTest_at (b := false) (mOp_at (op := dNe) (mOp_at (op := dEq) (told_er (r := "ReviewError") f2) (b := ret (.str "ReviewError")) (y := .str "ReviewError") rfl (eqS _ _)) (rd_at k18) (by rw [decide_eq_true rfl]; show dNe (.bl true) (.bl b) = _; rw [eb]; exact neB true))
    have g3 := not_at (truA_at (m := rd 18) (b := b) (rd_at (κ := κ) k18) rfl)
    rw [eb] at g3
    have g4 := and_at (n := mTest (mOp dEq (rd 17) (ret (.int 0)))) g3 (mTest_at (mOp_at (rd_at k17) (y := .int 0) rfl (eqI v 0)))
    exact ⟨e1, κ, vv, (mSeq_nx g1).trans ((mSeq_nx (mIf_f g2)).trans ((mIf_f g4).trans (mIf_f g3))), E1, I⟩
  · have hxd : x ≠ dan := fun z => hb (.inl z)
    have hv2 : v ≠ 2 := fun z => hb (.inr z)
    have hx4 : x ∈ voters := by
      have hx' : x = "ann" ∨ x = "bob" ∨ x = "cy" ∨ x = "dan" ∨ x = "eve" := by simpa [names] using hx
      rcases hx' with rfl | rfl | rfl | rfl | rfl
      · simp [voters]
      · simp [voters]
      · simp [voters]
      · exact absurd rfl hxd
      · simp [voters]
    have eb : b = false := by
      show (decide (1 < v) || decide (x = dan)) = false
      rw [decide_eq_false hxd, Bool.or_false]
      exact decide_eq_false (by omega)
    have hgl := I.g.len
    have g3 := not_at (truA_at (m := rd 18) (b := b) (rd_at (κ := κ) k18) rfl)
    let vv' : VV := if v = 0 then vv.filter (fun p => decide (p.1 ≠ x)) else putV vv x v
    have gv' : GV vv' := by
      show GV (if v = 0 then vv.filter (fun p => decide (p.1 ≠ x)) else putV vv x v)
      split
      · exact I.g.filter _
      · exact I.g.put hx4 (by omega)
    have f1 : F_Change__vote [.ref 4, .str x, .int v] κ = some (.ok .non (κ.set vr (.dct (mk vv')))) := by
      have hvc := I.v
      obtain ⟨a, b, s, c1, c5, m, t, rfl, rfl⟩ := I.shape
      by_cases h0 : v = 0
      · have e1 : vv' = vv.filter (fun p => decide (p.1 ≠ x)) := if_pos h0
        rw [e1, ← drop_mk, h0]
        exact vote_zero hvc x hx4
      · have e1 : vv' = putV vv x v := if_neg h0
        rw [e1, ← put_mk]
        exact vote_set (by omega) hvc (by rw [mk_len]; show _ < 100000; omega) x hx4
    have f2 : mMethO "Change" "vote" F_Change__vote (rd 6) (mArg (rd 16) (mArg (rd 17) (ret []))) ⟨e1, κ⟩ = some (.ok .non ⟨e1, κ.set vr (.dct (mk vv'))⟩) := by
      have hs : κ[4]? = some (chg h "open" vr) := I.s4
      exact methO_e (n := 4) (as := [.str x, .int v]) (rd_at E1.s6) hs rfl (mArg_at (rd_at k16) (mArg_at (rd_at k17) rfl)) f1
    have g2 := mTest_at (b := false) (mOp_at (op := dNe) (mOp_at (op := dEq) (told_ok (y := "ReviewError") (r := "ReviewError") f2) (b := ret (.str "ReviewError")) (y := .str "ReviewError") rfl (show dEq .non (.str "ReviewError") = some (.bl false) from rfl)) (rd_at k18) (by show dNe (.bl false) (.bl b) = _; rw [eb]; exact neB false))
    have hl2 : (κ.set vr (.dct (mk vv')))[lv]? = some (.dct (mk vv)) := get_ne (Ne.symm I.n4) I.l
    have g3 := not_at (truA_at (m := rd 18) (b := b) (rd_at (κ := κ.set vr (.dct (mk vv'))) k18) rfl)
    rw [eb] at g3
    refine ⟨e1, (κ.set vr (.dct (mk vv'))).set lv (.dct (mk vv')), vv', (mSeq_nx g1).trans ((mSeq_nx (mIf_f g2)).trans ?_), E1, I.both gv'⟩
    have g4 := and_at (n := mTest (mOp dEq (rd 17) (ret (.int 0)))) g3 (mTest_at (mOp_at (rd_at k17) (y := .int 0) rfl (eqI v 0)))
    by_cases h0 : v = 0
    · rw [decide_eq_true h0] at g4
      have e1 : vv' = vv.filter (fun p => decide (p.1 ≠ x)) := if_pos h0
      refine (mIf_t g4).trans ((pop_at (n := lv) (k := .inr x) (rd_at E1.s7) (rd_at k16) (z := .non) rfl hl2 rfl).trans ?_)
      rw [drop_mk, ← e1]
      rfl
    · rw [decide_eq_false h0] at g4
      have e1 : vv' = putV vv x v := if_neg h0
      refine (mIf_f g4).trans ((mIf_t g3).trans ((put_at (n := lv) (k := .inr x) (rd_at k17) (rd_at E1.s7) (rd_at k16) hl2 rfl (by rw [mk_len]; show _ < 100000; omega)).trans ?_))
      rw [put_mk, ← e1]
      rfl
end
end K08
end
section
set_option maxHeartbeats 0
namespace PH
open PySem PySem.Spec PyProof.Rows L2
theorem cut_to {xs : List D} {k : Nat} (hk : k ≤ xs.length) : cutD xs none (some (k : Int)) = xs.take k := by
  unfold cutD
  rw [HT.sIx_none, HT.sIx_nat, List.drop_zero, Nat.sub_zero, Nat.min_eq_left hk]
theorem cut_from {xs : List D} (k : Nat) : cutD xs (some (k : Int)) none = xs.drop k := by
  unfold cutD
  rw [HT.sIx_none, HT.sIx_nat]
  by_cases hk : k ≤ xs.length
  · rw [Nat.min_eq_left hk]
    exact List.take_of_length_le (by rw [List.length_drop]; exact Nat.le_refl _)
  · rw [Nat.min_eq_right (by omega), List.drop_length, List.take_nil, List.drop_of_length_le (by omega)]
theorem mOpC_at {op : List Cell → D → D → Option (List D)} {a b : MM D} {ρ ρ1 ρ2 : St} {x y : D} {ds : List D} (h : a ρ = some (.ok x ρ1)) (k : b ρ1 = some (.ok y ρ2)) (o : op ρ2.c x y = some ds) : mOpC op a b ρ = some (.ok (.ref ρ2.c.length) ⟨ρ2.e, ρ2.c ++ [.lst ds]⟩) := by
  unfold mOpC bnd
  rw [h]
  dsimp only
  rw [k]
  dsimp only
  unfold lftK lft
  dsimp only
  rw [o]
  rfl
theorem mPart_at {m : MM D} {ρ ρ1 : St} {i : Int} (h : m ρ = some (.ok (.int i) ρ1)) : mPart m ρ = some (.ok (some i) ρ1) := by
  unfold mPart bnd
  rw [h]
  rfl
theorem app_cell {κ : List Cell} {i : Nat} {x y : Cell} (h : κ[i]? = some y) : (κ ++ [x])[i]? = some y := by rw [List.getElem?_append_left ((List.getElem?_eq_some_iff.mp h).1)]; exact h
end PH
namespace K08
open PySem PySem.Spec PyProof.Rows L2 PH
section
variable {e : List PH.Loc} {n h : Int} {st : Bool} {kd : List (Key × D)} {vr lv lr : Nat} {vv : VV} {rs : RS} {κ : List Cell}
theorem Inv.ne6 (I : Inv n st kd h vr lv lr vv rs κ) : 6 ≠ vr ∧ 6 ≠ lv ∧ 6 ≠ lr ∧ lr ≠ vr ∧ lr ≠ lv := by
  obtain ⟨a1, a2, a3, a4⟩ := I.v6
  have := I.n3
  exact ⟨Ne.symm a1, Ne.symm a2, by omega, Ne.symm a3, Ne.symm a4⟩
/-- the remarks changed, on both sides -/
theorem Inv.rem (I : Inv n st kd h vr lv lr vv rs κ) (rs' : RS) : Inv n st kd h vr lv lr vv rs' ((κ.set 6 (.lst (rcs rs'))).set lr (.lst ((rbs rs').map D.bl))) := by
  obtain ⟨a1, a2, a3, a4, a5⟩ := I.ne6
  have n1 := I.n1
  have n2 := I.n2
  have n3 := I.n3
  have go : ∀ {i : Nat} {y : Cell}, i ≠ 6 → i ≠ lr → κ[i]? = some y → ((κ.set 6 (.lst (rcs rs'))).set lr (.lst ((rbs rs').map D.bl)))[i]? = some y := fun h1 h2 hy => get_ne h2 (get_ne h1 hy)
  obtain ⟨a, b, s, e0⟩ := I.s0
  exact ⟨⟨a, b, s, go (by omega) (by omega) e0⟩, go (by omega) (by omega) I.s2, go (by omega) (by omega) I.s3, go (by omega) (by omega) I.s4, get_ne a3 (get_eq I.s6), go (Ne.symm a1) (Ne.symm a4) I.v, go (Ne.symm a2) (Ne.symm a5) I.l, get_eq (get_ne (Ne.symm a3) I.r), n1, n2, n3, I.n4, I.g⟩
/-- the remarks changed, the law's as a new cell -/
theorem Inv.rem2 (I : Inv n st kd h vr lv lr vv rs κ) (rs' : RS) : Inv n st kd h vr lv κ.length vv rs' (κ.set 6 (.lst (rcs rs')) ++ [.lst ((rbs rs').map D.bl)]) := by
  obtain ⟨a1, a2, a3, a4, a5⟩ := I.ne6
  have n1 := I.n1
  have n2 := I.n2
  have n3 := I.n3
  have go : ∀ {i : Nat} {y : Cell}, i ≠ 6 → κ[i]? = some y → (κ.set 6 (.lst (rcs rs')) ++ [.lst ((rbs rs').map D.bl)])[i]? = some y := fun h1 hy => app_cell (get_ne h1 hy)
  obtain ⟨a, b, s, e0⟩ := I.s0
  have hl := (List.getElem?_eq_some_iff.mp I.s6).1
  exact ⟨⟨a, b, s, go (by omega) e0⟩, go (by omega) I.s2, go (by omega) I.s3, go (by omega) I.s4, app_cell (get_eq I.s6), go (Ne.symm a1) I.v, go (Ne.symm a2) I.l, by rw [List.getElem?_append_right (by rw [List.length_set]; exact Nat.le_refl _), List.length_set, Nat.sub_self]; rfl, n1, n2, by omega, I.n4, I.g⟩
theorem rcs_len (rs : RS) : (rcs rs).length = rs.length := List.length_map _
theorem rbs_len (rs : RS) : (rbs rs).length = rs.length := List.length_map _
/-! a remark -/
noncomputable def mRem : MS := (mSeq (mIf (mTest (mOp dNe (mMethO "Change" "remark" F_Change__remark (rd 6) (mArg (rd 16) (mArg (ret (.str "p")) (mArg (rd 14) (mArg (ret (.str "text")) (ret [])))))) (mCb dLenA (mArg (rd 8) (ret [])))))
    (mRet (ret (.bl false)))
    mNext)
    (mDrop (mMeth mdAppend (rd 8) (mArg (ret (.bl true)) (ret [])))))
theorem see_len {κ : List Cell} {lr : Nat} {bs : List Bool} {e : List PH.Loc} {i : Nat} (h8 : e[i]? = some (.dat (.ref lr))) (hr : κ[lr]? = some (.lst (bs.map D.bl))) : mCb dLenA (mArg (rd i) (ret [])) ⟨e, κ⟩ = some (.ok (.int bs.length) ⟨e, κ⟩) := by
  refine mCb_at (as := [.ref lr]) (mArg_at (rd_at h8) rfl) ?_
  show dLenA [see1 κ (.ref lr)] = _
  rw [see_lst hr]
  show some (D.int ((bs.map D.bl).length : Int)) = _
  rw [List.length_map]
theorem remarked (E : Es e n lv lr h) (I : Inv n st kd h vr lv lr vv rs κ) (hl : rs.length ≤ 100) {x : Str} {i : Int} (h16 : e[16]? = some (.dat (.str x))) (h14 : e[14]? = some (.dat (.int i))) :
    ∃ κ', mRem ⟨e, κ⟩ = some (.nx ⟨e, κ'⟩) ∧ Inv n st kd h vr lv lr vv (rs ++ [(x, i, true)]) κ' := by
  have hc : rcs (rs ++ [(x, i, true)]) = rcs rs ++ [K08.rem x i true] := by unfold rcs; rw [List.map_append]; rfl
  have hb : (rbs (rs ++ [(x, i, true)])).map D.bl = (rbs rs).map D.bl ++ [.bl true] := by unfold rbs; rw [List.map_append, List.map_append]; rfl
  have f1 : F_Change__remark [.ref 4, .str x, .str "p", .int i, .str "text"] κ = some (.ok (.int rs.length) (κ.set 6 (.lst (rcs (rs ++ [(x, i, true)]))))) := by
    obtain ⟨a, b, s, c1, c5, m, t, rfl, rfl⟩ := I.shape
    rw [hc, ← rcs_len]
    exact remark_ok (by rw [rcs_len]; show _ < 100000; omega)
  have f2 : mMethO "Change" "remark" F_Change__remark (rd 6) (mArg (rd 16) (mArg (ret (.str "p")) (mArg (rd 14) (mArg (ret (.str "text")) (ret []))))) ⟨e, κ⟩ = some (.ok (.int rs.length) ⟨e, κ.set 6 (.lst (rcs (rs ++ [(x, i, true)])))⟩) :=
    methO_e (n := 4) (as := [.str x, .str "p", .int i, .str "text"]) (rd_at E.s6) I.s4 rfl (mArg_at (rd_at h16) (mArg_at rfl (mArg_at (rd_at h14) (mArg_at rfl rfl)))) f1
  have hr : (κ.set 6 (.lst (rcs (rs ++ [(x, i, true)]))))[lr]? = some (.lst ((rbs rs).map D.bl)) := get_ne (Ne.symm I.ne6.2.2.1) I.r
  have g1 := mTest_at (b := false) (mOp_at (op := dNe) f2 (see_len E.s8 hr) (by show dNe (.int rs.length) (.int (rbs rs).length) = _; rw [neI, rbs_len, decide_eq_true rfl]; rfl))
  refine ⟨_, (mSeq_nx (mIf_f g1)).trans (appM (n := lr) (d := .bl true) (rd_at E.s8) hr rfl (by rw [List.length_map, rbs_len]; show _ < 100000; omega)), ?_⟩
  rw [← hb]
  exact I.rem _
/-! a remark that is settled -/
noncomputable def mSet : MS := (mSeq (mAsg (mCall F__law_roll (mArg (rd 1) (mArg (mOp dAdd (mCb dLenA (mArg (rd 8) (ret []))) (ret (.int 1))) (ret [])))) (setD 19))
    (mSeq (mIf (mTest (mOp dNe (mOp dEq (mTold "ReviewError" "ReviewError" (mMethO "Change" "settle" F_Change__settle (rd 6) (mArg (rd 19) (ret [])))) (ret (.str "ReviewError"))) (mOp dEq (rd 19) (mCb dLenA (mArg (rd 8) (ret []))))))
    (mRet (ret (.bl false)))
    mNext)
    (mAsg (mOpC (fun κ a b => dCatL (see1 κ a) (see1 κ b)) (mOp dAdd (mSl (rd 8) (ret none) (mPart (rd 19))) (mOp dMul (mLstD (mArg (ret (.bl false)) (ret []))) (mCb dIntOf (mArg (mOp dLt (rd 19) (mCb dLenA (mArg (rd 8) (ret [])))) (ret []))))) (mSl (rd 8) (mPart (mOp dAdd (rd 19) (ret (.int 1)))) (ret none))) (setD 8))))
theorem setBl {bs : List Bool} {k : Nat} (hk : k ≤ bs.length) : bs.take k ++ (if k < bs.length then [false] else []) ++ bs.drop (k + 1) = bs.set k false := by
  by_cases h : k < bs.length
  · rw [if_pos h, List.append_assoc]
    exact (List.set_eq_take_append_cons_drop.trans (if_pos h)).symm
  · rw [if_neg h, List.append_nil, List.drop_of_length_le (by omega), List.append_nil, List.take_of_length_le (by omega), List.set_eq_of_length_le (by omega)]
/-- the law's own new list -/
theorem lawSet {e : List PH.Loc} {κ : List Cell} {lr k : Nat} {bs : List Bool} (hl : bs.length ≤ 100) (h8 : e[8]? = some (.dat (.ref lr))) (h19 : e[19]? = some (.dat (.int k))) (hr : κ[lr]? = some (.lst (bs.map D.bl))) (hk : k ≤ bs.length) (h26 : e.length = 26) :
    (mAsg (mOpC (fun κ a b => dCatL (see1 κ a) (see1 κ b)) (mOp dAdd (mSl (rd 8) (ret none) (mPart (rd 19))) (mOp dMul (mLstD (mArg (ret (.bl false)) (ret []))) (mCb dIntOf (mArg (mOp dLt (rd 19) (mCb dLenA (mArg (rd 8) (ret [])))) (ret []))))) (mSl (rd 8) (mPart (mOp dAdd (rd 19) (ret (.int 1)))) (ret none))) (setD 8)) ⟨e, κ⟩
      = some (.nx ⟨e.set 8 (.dat (.ref κ.length)), κ ++ [.lst ((bs.set k false).map D.bl)]⟩) := by
  have h1 : mSl (rd 8) (ret none) (mPart (rd 19)) ⟨e, κ⟩ = some (.ok (.lst ((bs.take k).map D.bl)) ⟨e, κ⟩) := by
    refine mSl_at (rd_at h8) rfl (mPart_at (rd_at h19)) ?_
    show dSl (see1 κ (.ref lr)) none (some (k : Int)) = _
    rw [see_lst hr]
    show some (D.lst (cutD (bs.map D.bl) none (some (k : Int)))) = _
    rw [cut_to (by rw [List.length_map]; exact hk), List.map_take]
  have h2 : mOp dMul (mLstD (mArg (ret (.bl false)) (ret []))) (mCb dIntOf (mArg (mOp dLt (rd 19) (mCb dLenA (mArg (rd 8) (ret [])))) (ret []))) ⟨e, κ⟩ = some (.ok (.lst ((if k < bs.length then [false] else []).map D.bl)) ⟨e, κ⟩) := by
    have g : mOp dLt (rd 19) (mCb dLenA (mArg (rd 8) (ret []))) ⟨e, κ⟩ = some (.ok (.bl (decide ((k : Int) < (bs.length : Int)))) ⟨e, κ⟩) := mOp_at (rd_at h19) (see_len h8 hr) rfl
    refine mOp_at (x := .lst [.bl false]) (y := .int (if decide ((k : Int) < (bs.length : Int)) then 1 else 0)) rfl (mCb_at (as := [.bl (decide ((k : Int) < (bs.length : Int)))]) (mArg_at g rfl) rfl) ?_
    by_cases hlt : k < bs.length
    · rw [decide_eq_true (show (k : Int) < (bs.length : Int) by omega), if_pos hlt]; rfl
    · rw [decide_eq_false (show ¬ (k : Int) < (bs.length : Int) by omega), if_neg hlt]; rfl
  have h3 : mSl (rd 8) (mPart (mOp dAdd (rd 19) (ret (.int 1)))) (ret none) ⟨e, κ⟩ = some (.ok (.lst ((bs.drop (k + 1)).map D.bl)) ⟨e, κ⟩) := by
    refine mSl_at (rd_at h8) (mPart_at (mOp_at (rd_at h19) (y := .int 1) rfl (show dAdd (.int k) (.int 1) = some (.int ((k + 1 : Nat) : Int)) from rfl))) rfl ?_
    show dSl (see1 κ (.ref lr)) (some ((k + 1 : Nat) : Int)) none = _
    rw [see_lst hr]
    show some (D.lst (cutD (bs.map D.bl) (some ((k + 1 : Nat) : Int)) none)) = _
    rw [cut_from, List.map_drop]
  have h4 : mOp dAdd (mSl (rd 8) (ret none) (mPart (rd 19))) (mOp dMul (mLstD (mArg (ret (.bl false)) (ret []))) (mCb dIntOf (mArg (mOp dLt (rd 19) (mCb dLenA (mArg (rd 8) (ret [])))) (ret [])))) ⟨e, κ⟩ = some (.ok (.lst ((bs.take k ++ (if k < bs.length then [false] else [])).map D.bl)) ⟨e, κ⟩) := by
    refine mOp_at h1 h2 ?_
    show (if ((bs.take k).map D.bl).length + ((if k < bs.length then [false] else []).map D.bl).length ≤ cap then some (D.lst ((bs.take k).map D.bl ++ (if k < bs.length then [false] else []).map D.bl)) else none) = _
    have : (bs.take k).length ≤ bs.length := by rw [List.length_take]; omega
    rw [if_pos, List.map_append]
    rw [List.length_map, List.length_map]
    show _ ≤ 100000
    split
    · show _ + 1 ≤ _; omega
    · show _ + 0 ≤ _; omega
  refine mAsg_at (mOpC_at h4 h3 (ds := (bs.set k false).map D.bl) ?_) (setD_at (by rw [h26]; decide))
  show (if ((bs.take k ++ (if k < bs.length then [false] else [])).map D.bl).length + ((bs.drop (k + 1)).map D.bl).length ≤ cap then some ((bs.take k ++ (if k < bs.length then [false] else [])).map D.bl ++ (bs.drop (k + 1)).map D.bl) else none) = _
  rw [← List.map_append, setBl hk, if_pos]
  have h9 := congrArg List.length (setBl hk)
  rw [List.length_append, List.length_set] at h9
  rw [List.length_map, List.length_map, h9]
  show _ ≤ 100000
  omega
theorem Es.set8 (E : Es e n lv lr h) (lr' : Nat) : Es (e.set 8 (.dat (.ref lr'))) n lv lr' h := by
  have go : ∀ {i : Nat} {y : PH.Loc}, i ≠ 8 → e[i]? = some y → (e.set 8 (.dat (.ref lr')))[i]? = some y := fun hi hy => by rw [List.getElem?_set_ne (Ne.symm hi)]; exact hy
  exact ⟨by rw [List.length_set]; exact E.len, go (by decide) E.s1, go (by decide) E.s4, go (by decide) E.s5, go (by decide) E.s6, go (by decide) E.s7, List.getElem?_set_self (by rw [E.len]; decide), go (by decide) E.s9⟩
def setR (rs : RS) (k : Nat) : RS := match rs[k]? with
  | some q => rs.set k (q.1, q.2.1, false)
  | none => rs
theorem setR_len (rs : RS) (k : Nat) : (setR rs k).length = rs.length := by unfold setR; split <;> simp
theorem setR_bs (rs : RS) (k : Nat) : rbs (setR rs k) = (rbs rs).set k false := by
  unfold setR
  cases h : rs[k]? with
  | none =>
    have : rs.length ≤ k := List.getElem?_eq_none_iff.mp h
    show rbs rs = _
    rw [List.set_eq_of_length_le (by rw [rbs_len]; exact this)]
  | some q =>
    show rbs (rs.set k (q.1, q.2.1, false)) = _
    unfold rbs
    rw [List.map_set]
theorem settled {a b s : Int} {t : List Cell} (E : Es e n lv lr h) (I : Inv n st kd h vr lv lr vv rs (dc a b s :: t)) (hl : rs.length ≤ 20) :
    ∃ e' κ' lr' rs', mSet ⟨e, dc a b s :: t⟩ = some (.nx ⟨e', κ'⟩) ∧ Es e' n lv lr' h ∧ Inv n st kd h vr lv lr' vv rs' κ' ∧ rs'.length = rs.length := by
  obtain ⟨r, a1, b1, s1, r0, r1, hr⟩ := roll (many := (rs.length : Int) + 1) (by omega) (by omega) a b s t
  obtain ⟨k, rfl⟩ : ∃ k : Nat, r = k := ⟨r.toNat, by omega⟩
  have hk : k ≤ rs.length := by omega
  have h0 : mCall F__law_roll (mArg (rd 1) (mArg (mOp dAdd (mCb dLenA (mArg (rd 8) (ret []))) (ret (.int 1))) (ret []))) ⟨e, dc a b s :: t⟩ = some (.ok (.int k) ⟨e, dc a1 b1 s1 :: t⟩) := by
    refine mCall_at (ρ1 := ⟨e, dc a b s :: t⟩) (as := [.ref 0, .int ((rs.length : Int) + 1)]) (mArg_at (rd_at E.s1) (mArg_at (mOp_at (see_len E.s8 I.r) (y := .int 1) rfl ?_) rfl)) hr
    show some (D.int (((rbs rs).length : Int) + 1)) = _
    rw [rbs_len]
  have I1 := I.dice' a1 b1 s1
  generalize dc a1 b1 s1 :: t = κ at h0 I1
  have g1 := asg_e (k := 19) h0 (by rw [E.len]; decide)
  have E1 := E.set (k := 19) (by decide) (.dat (.int k))
  have k19 : (e.set 19 (.dat (.int k)))[19]? = some (.dat (.int k)) := List.getElem?_set_self (by rw [E.len]; decide)
  generalize e.set 19 (.dat (.int k)) = e1 at g1 E1 k19
  have hq : ∀ κ' : List Cell, κ'[lr]? = some (.lst ((rbs rs).map D.bl)) → mOp dEq (rd 19) (mCb dLenA (mArg (rd 8) (ret []))) ⟨e1, κ'⟩ = some (.ok (.bl (decide ((k : Int) = (rs.length : Int)))) ⟨e1, κ'⟩) := fun κ' hr => by
    refine mOp_at (rd_at k19) (see_len E1.s8 hr) ?_
    show dEq (.int k) (.int (rbs rs).length) = _
    rw [eqI, rbs_len]
  by_cases hke : k = rs.length
  · have f1 : F_Change__settle [.ref 4, .int k] κ = some (.er "ReviewError" κ) := by
      obtain ⟨a, b, s, c1, c5, m, t, rfl, rfl⟩ := I1.shape
      exact settle_bad (by rw [rcs_len]; exact hke) (by omega)
    have f2 : mMethO "Change" "settle" F_Change__settle (rd 6) (mArg (rd 19) (ret [])) ⟨e1, κ⟩ = some (.er "ReviewError" ⟨e1, κ⟩) := methO_er (n := 4) (as := [.int k]) (rd_at E1.s6) I1.s4 rfl (mArg_at (rd_at k19) rfl) f1
    have g2 := mTest_at (b := false) (mOp_at (op := dNe) (mOp_at (op := dEq) (told_er (r := "ReviewError") f2) (b := ret (.str "ReviewError")) (y := .str "ReviewError") rfl (eqS _ _)) (hq κ I1.r) (by rw [decide_eq_true rfl, decide_eq_true (show (k : Int) = (rs.length : Int) by omega)]; exact neB true))
    have g3 := lawSet (k := k) (by rw [rbs_len]; omega) E1.s8 k19 I1.r (by rw [rbs_len]; exact hk) E1.len
    refine ⟨_, _, κ.length, setR rs k, (mSeq_nx g1).trans ((mSeq_nx (mIf_f g2)).trans g3), E1.set8 _, ?_, setR_len _ _⟩
    rw [← setR_bs]
    have e6 : setR rs k = rs := by unfold setR; rw [List.getElem?_eq_none (by omega)]
    have := I1.rem2 (setR rs k)
    rw [e6] at this ⊢
    rw [set_same I1.s6] at this
    exact this
  · obtain ⟨q, hq1⟩ : ∃ q, rs[k]? = some q := ⟨rs[k]'(by omega), List.getElem?_eq_getElem _⟩
    have hs : rcs (setR rs k) = (rcs rs).set k (K08.rem q.1 q.2.1 false) := by
      unfold setR
      rw [hq1]
      show rcs (rs.set k (q.1, q.2.1, false)) = _
      unfold rcs
      rw [List.map_set]
      rfl
    have f1 : F_Change__settle [.ref 4, .int k] κ = some (.ok .non (κ.set 6 (.lst (rcs (setR rs k))))) := by
      rw [hs]
      obtain ⟨a, b, s, c1, c5, m, t, rfl, rfl⟩ := I1.shape
      exact settle_ok (b := q.2.2) (by rw [rcs_len]; omega) (by unfold rcs; rw [List.getElem?_map, hq1]; rfl)
    have f2 : mMethO "Change" "settle" F_Change__settle (rd 6) (mArg (rd 19) (ret [])) ⟨e1, κ⟩ = some (.ok .non ⟨e1, κ.set 6 (.lst (rcs (setR rs k)))⟩) := methO_e (n := 4) (as := [.int k]) (rd_at E1.s6) I1.s4 rfl (mArg_at (rd_at k19) rfl) f1
    have hr2 : (κ.set 6 (.lst (rcs (setR rs k))))[lr]? = some (.lst ((rbs rs).map D.bl)) := get_ne (Ne.symm I1.ne6.2.2.1) I1.r
    have g2 := mTest_at (b := false) (mOp_at (op := dNe) (mOp_at (op := dEq) (told_ok (y := "ReviewError") (r := "ReviewError") f2) (b := ret (.str "ReviewError")) (y := .str "ReviewError") rfl (show dEq .non (.str "ReviewError") = some (.bl false) from rfl)) (hq _ hr2) (by rw [decide_eq_false (show ¬ (k : Int) = (rs.length : Int) by omega)]; exact neB false))
    have g3 := lawSet (k := k) (by rw [rbs_len]; omega) E1.s8 k19 hr2 (by rw [rbs_len]; exact hk) E1.len
    rw [List.length_set, ← setR_bs] at g3
    exact ⟨_, _, κ.length, setR rs k, (mSeq_nx g1).trans ((mSeq_nx (mIf_f g2)).trans g3), E1.set8 _, I1.rem2 (setR rs k), setR_len _ _⟩
end
end K08
end
section
set_option maxHeartbeats 0
namespace PH
open PySem PySem.Spec PyProof.Rows L2
theorem compK_fa {α : Type} {g : D → St → Option St} {t : MM Bool} {e : MM D} {ew : List Loc} {κ : List Cell} {dd : α → D} {f : α → Bool} {y : α → D} : ∀ (xs : List α) (acc : List D), (∀ x ∈ xs, ∃ ρ1, g (dd x) ⟨ew, κ⟩ = some ρ1 ∧ ρ1.c = κ ∧ t ρ1 = some (.ok (f x) ρ1) ∧ (f x = true → e ρ1 = some (.ok (y x) ρ1))) → acc.length + xs.length ≤ 1000 → compK none g t e ew (xs.map dd) acc κ = some (acc ++ (xs.filter f).map y, κ)
  | [], acc, _, _ => (compK_nil (k := none) trivial).trans (by rw [List.filter_nil, List.map_nil, List.append_nil])
  | x :: xs, acc, h, hl => by
    have hl : acc.length + (xs.length + 1) ≤ 1000 := hl
    obtain ⟨ρ1, h1, h2, h3, h4⟩ := h x List.mem_cons_self
    have hr : ∀ x ∈ xs, ∃ ρ1, g (dd x) ⟨ew, κ⟩ = some ρ1 ∧ ρ1.c = κ ∧ t ρ1 = some (.ok (f x) ρ1) ∧ (f x = true → e ρ1 = some (.ok (y x) ρ1)) := fun d hd => h d (List.mem_cons_of_mem _ hd)
    rw [List.map_cons]
    cases hf : f x with
    | true =>
      rw [hf] at h3
      rw [compK_yes (k := none) trivial h1 h3 (h4 hf) (show acc.length < 100000 by omega), h2, compK_fa xs (acc ++ [y x]) hr (by rw [List.length_append]; show acc.length + 1 + xs.length ≤ 1000; omega), List.filter_cons, if_pos hf, List.append_assoc]
      rfl
    | false =>
      rw [hf] at h3
      rw [compK_no (k := none) trivial h1 h3, h2, compK_fa xs acc hr (by omega), List.filter_cons, if_neg (by rw [hf]; decide)]
theorem ifE_at {t : MM Bool} {a b : MM D} {ρ ρ1 : St} {x : Bool} {o : Option (Res D)} (h : t ρ = some (.ok x ρ1)) (k : (if x = true then a else b) ρ1 = o) : mIfE t a b ρ = o := by
  unfold mIfE bnd
  rw [h]
  exact k
theorem dget_lk {κ : List Cell} {n : Nat} {kd : List (Key × D)} {y d : D} {k : Key} (hc : κ[n]? = some (.lck kd)) (hk : keyOf y = some k) (hv : valD kd k = some d) : dDGet κ (.ref n) y = some d := by
  have hs : seeD κ (.ref n) = some kd := by unfold seeD; dsimp only; rw [hc]
  show ((seeD κ (.ref n)).bind fun kd => (keyOf y).map fun k => valD kd k).bind id = _
  rw [hs, hk]
  exact hv
end PH
namespace K08
open PySem PySem.Spec PyProof.Rows L2 PH
section
variable {e : List PH.Loc} {n h : Int} {st : Bool} {kd : List (Key × D)} {vr lv lr : Nat} {vv : VV} {rs : RS} {κ : List Cell}
theorem Inv.mvk (I : Inv n st kd h vr lv lr vv rs κ) (h' : Int) : Inv n st kd h' vr lv lr vv rs (κ.set 4 (chg h' "open" vr)) := by
  have n1 := I.n1
  have n2 := I.n2
  have n3 := I.n3
  have go : ∀ {i : Nat} {y : Cell}, i ≠ 4 → κ[i]? = some y → (κ.set 4 (chg h' "open" vr))[i]? = some y := fun h1 hy => get_ne h1 hy
  obtain ⟨a, b, s, e0⟩ := I.s0
  exact ⟨⟨a, b, s, go (by omega) e0⟩, go (by omega) I.s2, go (by omega) I.s3, get_eq I.s4, go (by omega) I.s6, go (by omega) I.v, go (by omega) I.l, go (by omega) I.r, n1, n2, n3, I.n4, I.g⟩
theorem Inv.mvn (I : Inv n st kd h vr lv lr vv rs κ) (h' : Int) : Inv n st kd h' κ.length (κ.length + 1) lr (negV vv) rs ((κ.set 4 (chg h' "open" κ.length) ++ [.dct (K08.mk (negV vv))]) ++ [.dct (K08.mk (negV vv))]) := by
  have n1 := I.n1
  have n2 := I.n2
  have n3 := I.n3
  have go : ∀ {i : Nat} {y : Cell}, i ≠ 4 → κ[i]? = some y → ((κ.set 4 (chg h' "open" κ.length) ++ [.dct (K08.mk (negV vv))]) ++ [.dct (K08.mk (negV vv))])[i]? = some y := fun h1 hy => app_cell (app_cell (get_ne h1 hy))
  obtain ⟨a, b, s, e0⟩ := I.s0
  have hl := (List.getElem?_eq_some_iff.mp I.s6).1
  have e1 : (κ.set 4 (chg h' "open" κ.length) ++ [.dct (K08.mk (negV vv))])[κ.length]? = some (.dct (K08.mk (negV vv))) := by
    rw [List.getElem?_append_right (by rw [List.length_set]; exact Nat.le_refl _), List.length_set, Nat.sub_self]; rfl
  have e2 : ((κ.set 4 (chg h' "open" κ.length) ++ [.dct (K08.mk (negV vv))]) ++ [Cell.dct (K08.mk (negV vv))])[κ.length + 1]? = some (.dct (K08.mk (negV vv))) := by
    rw [List.getElem?_append_right (by rw [List.length_append, List.length_set]; exact Nat.le_refl _), List.length_append, List.length_set]
    show [Cell.dct (K08.mk (negV vv))][κ.length + 1 - (κ.length + 1)]? = _
    rw [Nat.sub_self]; rfl
  exact ⟨⟨a, b, s, go (by omega) e0⟩, go (by omega) I.s2, go (by omega) I.s3, app_cell (app_cell (get_eq I.s4)), go (by omega) I.s6, app_cell e1, e2, go (by omega) I.r, by omega, by omega, n3, by omega, I.g.filter _⟩
theorem Es.set7 (E : Es e n lv lr h) (lv' : Nat) : Es (e.set 7 (.dat (.ref lv'))) n lv' lr h := by
  have go : ∀ {i : Nat} {y : PH.Loc}, i ≠ 7 → e[i]? = some y → (e.set 7 (.dat (.ref lv')))[i]? = some y := fun hi hy => by rw [List.getElem?_set_ne (Ne.symm hi)]; exact hy
  exact ⟨by rw [List.length_set]; exact E.len, go (by decide) E.s1, go (by decide) E.s4, go (by decide) E.s5, go (by decide) E.s6, List.getElem?_set_self (by rw [E.len]; decide), go (by decide) E.s8, go (by decide) E.s9⟩
theorem Es.set9 (E : Es e n lv lr h) (h' : Int) : Es (e.set 9 (.dat (.int h'))) n lv lr h' := by
  have go : ∀ {i : Nat} {y : PH.Loc}, i ≠ 9 → e[i]? = some y → (e.set 9 (.dat (.int h')))[i]? = some y := fun hi hy => by rw [List.getElem?_set_ne (Ne.symm hi)]; exact hy
  exact ⟨by rw [List.length_set]; exact E.len, go (by decide) E.s1, go (by decide) E.s4, go (by decide) E.s5, go (by decide) E.s6, go (by decide) E.s7, go (by decide) E.s8, List.getElem?_set_self (by rw [E.len]; decide)⟩
/-! a change that ends elsewhere -/
theorem pairs_neg : ∀ l : VV, pairsD (l.map fun p => .tup [.str p.1, .int p.2]) = some (mk l)
  | [] => rfl
  | p :: l => by
    show ((keyOf (.str p.1)).bind fun k => (pairsD (l.map fun p => .tup [.str p.1, .int p.2])).map fun t => (k, D.int p.2) :: t) = _
    rw [pairs_neg l]
    rfl
theorem lawNeg (h26 : e.length = 26) (h7 : e[7]? = some (.dat (.ref lv))) (hv : κ[lv]? = some (.dct (mk vv))) (g : GV vv) :
    mDict (mArg (mLkE (pkV 7) (mLcD (mWalkD (fun p => kD p.1) (rd 7)) [21] (setD 21) m_law_c2 m_law_e4)) (ret [])) ⟨e, κ⟩ = some (.ok (.ref κ.length) ⟨e, κ ++ [.dct (mk (negV vv))]⟩) := by
  have hg := g.len
  have hlk : (κ.set lv (.lck (mk vv)))[lv]? = some (.lck (mk vv)) := get_eq hv
  have h1 : mWalkD (fun p => kD p.1) (rd 7) ⟨e, κ.set lv (.lck (mk vv))⟩ = some (.ok ((mk vv).map (fun p => kD p.1), none) ⟨e, κ.set lv (.lck (mk vv))⟩) := walkD_at (rd_at h7) hlk
  have e1 : (mk vv).map (fun p => kD p.1) = vv.map fun p => .str p.1 := by unfold mk; rw [List.map_map]; rfl
  rw [e1] at h1
  have h2 : compK none (setD 21) m_law_c2 m_law_e4 (wipeL e [21]) (vv.map fun p => .str p.1) [] (κ.set lv (.lck (mk vv))) = some ([] ++ (negV vv).map (fun p => .tup [.str p.1, .int p.2]), κ.set lv (.lck (mk vv))) := by
    refine compK_fa (dd := fun p : Str × Int => .str p.1) (f := fun p => decide (p.2 < 0)) (y := fun p => .tup [.str p.1, .int p.2]) vv [] (fun p hp => ?_) (by show 0 + _ ≤ 1000; omega)
    have hd : mOpK dDGet (rd 7) (rd 21) ⟨(wipeL e [21]).set 21 (.dat (.str p.1)), κ.set lv (.lck (mk vv))⟩ = some (.ok (.int p.2) ⟨(wipeL e [21]).set 21 (.dat (.str p.1)), κ.set lv (.lck (mk vv))⟩) := mOpK_at (rd_at (oth21 (by decide) h7)) (rd_at (get21 h26)) (dget_lk hlk rfl (val_mk g.nd hp))
    exact ⟨_, set21 h26, rfl, mTest_at (mOp_at hd (y := .int 0) rfl rfl), fun _ => mTupD_at (mArg_at (rd_at (get21 h26)) (mArg_at hd rfl)) (show 2 ≤ 100000 by decide)⟩
  have h3 := lkE_at (pk := pkV 7) (ρ := ⟨e, κ⟩) (n := lv) (by unfold pkV; rw [h7]) hv (mLcD_at h1 h2) hlk
  rw [set_back hv] at h3
  refine mDict_at (mArg_at h3 (ms := ret []) (ds := []) rfl) ?_
  show (pairsD ((negV vv).map fun p => .tup [.str p.1, .int p.2])).map (mergeKd []) = _
  rw [pairs_neg]
  show some (mergeKd [] (mk (negV vv))) = _
  exact congrArg some (merge_nd (mk (negV vv)) [] (mk_nd (g.filter _)))
noncomputable def mMove : MS := (mSeq (mPar 20 9 (mArg (mOp dEq (mCall F__law_roll (mArg (rd 1) (mArg (ret (.int 2)) (ret [])))) (ret (.int 0))) (mArg (mCall F__law_roll (mArg (rd 1) (mArg (ret (.int 99)) (ret [])))) (ret []))))
    (mSeq (mDrop (mMethO "Change" "move" F_Change__move (rd 6) (mArg (rd 9) (mArg (rd 20) (ret [])))))
    (mAsg (mIfE (mTruA (rd 20)) (rd 7) (mDict (mArg (mLkE (pkV 7) (mLcD (mWalkD (fun p => kD p.1) (rd 7)) [21] (setD 21) m_law_c2 m_law_e4)) (ret [])))) (setD 7))))
theorem drop_at {m : MM D} {ρ ρ1 : PH.St} {d : D} (h : m ρ = some (.ok d ρ1)) : mDrop m ρ = some (.nx ρ1) := by
  unfold mDrop mE
  rw [h]
theorem moved {a b s : Int} {t : List Cell} (E : Es e n lv lr h) (I : Inv n st kd h vr lv lr vv rs (dc a b s :: t)) :
    ∃ e' κ' h' vr' lv' vv', mMove ⟨e, dc a b s :: t⟩ = some (.nx ⟨e', κ'⟩) ∧ Es e' n lv' lr h' ∧ Inv n st kd h' vr' lv' lr vv' rs κ' := by
  obtain ⟨q, a1, b1, s1, q0, q2, h1⟩ := rollAt (k := 2) (by decide) (by decide) E.s1 a b s t
  obtain ⟨h', a2, b2, s2, _, _, h2⟩ := rollAt (k := 99) (by decide) (by decide) E.s1 a1 b1 s1 t
  have I1 := I.dice' a2 b2 s2
  have g0 := mOp_at (op := dEq) h1 (b := ret (.int 0)) (y := .int 0) rfl (eqI q 0)
  have ga := mArg_at g0 (mArg_at h2 (ms := ret []) (ds := []) rfl)
  generalize dc a2 b2 s2 :: t = κ at ga I1
  generalize hkeep : decide (q = 0) = keep at ga
  have g1 : mPar 20 9 (mArg (mOp dEq (mCall F__law_roll (mArg (rd 1) (mArg (ret (.int 2)) (ret [])))) (ret (.int 0))) (mArg (mCall F__law_roll (mArg (rd 1) (mArg (ret (.int 99)) (ret [])))) (ret []))) ⟨e, dc a b s :: t⟩ = some (.nx ⟨(e.set 20 (.dat (.bl keep))).set 9 (.dat (.int h')), κ⟩) := by
    unfold mPar mE
    rw [ga]
    show ((setD 20 (.bl keep) ⟨e, κ⟩).bind (setD 9 (.int h'))).map Out.nx = _
    rw [setD_at (by rw [E.len]; decide)]
    show (setD 9 (.int h') _).map Out.nx = _
    rw [setD_at (by rw [List.length_set, E.len]; decide)]
    rfl
  have E1 := (E.set (k := 20) (by decide) (.dat (.bl keep))).set9 h'
  have k20 : ((e.set 20 (.dat (.bl keep))).set 9 (.dat (.int h')))[20]? = some (.dat (.bl keep)) := by rw [List.getElem?_set_ne (by decide)]; exact List.getElem?_set_self (by rw [E.len]; decide)
  generalize (e.set 20 (.dat (.bl keep))).set 9 (.dat (.int h')) = e1 at g1 E1 k20
  cases keep with
  | true =>
    have f1 : F_Change__move [.ref 4, .int h', .bl true] κ = some (.ok .non (κ.set 4 (chg h' "open" vr))) := by
      obtain ⟨a, b, s, c1, c5, m, t, rfl, rfl⟩ := I1.shape
      exact move_keep
    have f2 : mMethO "Change" "move" F_Change__move (rd 6) (mArg (rd 9) (mArg (rd 20) (ret []))) ⟨e1, κ⟩ = some (.ok .non ⟨e1, κ.set 4 (chg h' "open" vr)⟩) := methO_e (n := 4) (as := [.int h', .bl true]) (rd_at E1.s6) I1.s4 rfl (mArg_at (rd_at E1.s9) (mArg_at (rd_at k20) rfl)) f1
    have g3 := asg_e (k := 7) (ifE_at (t := mTruA (rd 20)) (a := rd 7) (b := mDict (mArg (mLkE (pkV 7) (mLcD (mWalkD (fun p => kD p.1) (rd 7)) [21] (setD 21) m_law_c2 m_law_e4)) (ret []))) (truA_at (b := true) (rd_at (κ := κ.set 4 (chg h' "open" vr)) k20) rfl) (rd_at E1.s7)) (by rw [E1.len]; decide)
    exact ⟨_, _, h', vr, lv, vv, (mSeq_nx g1).trans ((mSeq_nx (drop_at f2)).trans g3), E1.set7 lv, I1.mvk h'⟩
  | false =>
    have f1 : F_Change__move [.ref 4, .int h', .bl false] κ = some (.ok .non (κ.set 4 (chg h' "open" κ.length) ++ [.dct (mk (negV vv))])) := by
      have hv := I1.v
      obtain ⟨a, b, s, c1, c5, m, t, rfl, rfl⟩ := I1.shape
      exact move_not (t := c5 :: .lst (rcs rs) :: t) hv I1.g
    have f2 : mMethO "Change" "move" F_Change__move (rd 6) (mArg (rd 9) (mArg (rd 20) (ret []))) ⟨e1, κ⟩ = some (.ok .non ⟨e1, κ.set 4 (chg h' "open" κ.length) ++ [.dct (mk (negV vv))]⟩) := methO_e (n := 4) (as := [.int h', .bl false]) (rd_at E1.s6) I1.s4 rfl (mArg_at (rd_at E1.s9) (mArg_at (rd_at k20) rfl)) f1
    have n2 := I1.n2
    have hv2 : (κ.set 4 (chg h' "open" κ.length) ++ [.dct (mk (negV vv))])[lv]? = some (.dct (mk vv)) := app_cell (get_ne (by omega) I1.l)
    have hlen : (κ.set 4 (chg h' "open" κ.length) ++ [Cell.dct (mk (negV vv))]).length = κ.length + 1 := by rw [List.length_append, List.length_set]; rfl
    have g2 := lawNeg E1.len E1.s7 hv2 I1.g
    rw [hlen] at g2
    generalize hdd : mDict (mArg (mLkE (pkV 7) (mLcD (mWalkD (fun p => kD p.1) (rd 7)) [21] (setD 21) m_law_c2 m_law_e4)) (ret [])) = dd at g2
    have g3 : mIfE (mTruA (rd 20)) (rd 7) dd ⟨e1, κ.set 4 (chg h' "open" κ.length) ++ [.dct (mk (negV vv))]⟩ = some (.ok (.ref (κ.length + 1)) ⟨e1, (κ.set 4 (chg h' "open" κ.length) ++ [.dct (mk (negV vv))]) ++ [.dct (mk (negV vv))]⟩) :=
      ifE_at (truA_at (b := false) (rd_at k20) rfl) (by rw [if_neg (by decide)]; exact g2)
    have g3 := asg_e (k := 7) g3 (by rw [E1.len]; decide)
    subst hdd
    exact ⟨_, _, h', κ.length, κ.length + 1, negV vv, (mSeq_nx g1).trans ((mSeq_nx (drop_at f2)).trans g3), E1.set7 _, I1.mvn h'⟩
end
end K08
end
section
set_option maxHeartbeats 0
namespace K08
open PySem PySem.Spec PyProof.Rows L2 PH
section
variable {e : List PH.Loc} {n h : Int} {st : Bool} {kd : List (Key × D)} {vr lv lr : Nat} {vv : VV} {rs : RS} {κ : List Cell}
/-- one step -/
theorem step_ok {a b s : Int} {t : List Cell} (E : Es e n lv lr h) (I : Inv n st kd h vr lv lr vv rs (dc a b s :: t)) (ht : TupVals kd) (hl : rs.length ≤ 20) {i : Int} (h14 : e[14]? = some (.dat (.int i))) :
    ∃ e' κ' h' vr' lv' lr' vv' rs', m_law_b3 ⟨e, dc a b s :: t⟩ = some (.nx ⟨e', κ'⟩) ∧ Es e' n lv' lr' h' ∧ Inv n st kd h' vr' lv' lr' vv' rs' κ' ∧ rs'.length ≤ rs.length + 1 := by
  obtain ⟨sort, v, x, a1, b1, s1, e1, r0, r6, hx, hv, E1, k14, k15, k16, k17, g1⟩ := drawn (a := a) (b := b) (s := s) (t := t) E
  have I1 := I.dice' a1 b1 s1
  rw [h14] at k14
  have lt : ∀ κ : List Cell, mTest (mOp dLt (rd 15) (ret (.int 3))) ⟨e1, κ⟩ = some (.ok (decide (sort < 3)) ⟨e1, κ⟩) := fun κ => mTest_at (mOp_at (rd_at k15) (y := .int 3) rfl rfl)
  have q3 : ∀ κ : List Cell, mTest (mOp dEq (rd 15) (ret (.int 3))) ⟨e1, κ⟩ = some (.ok (decide (sort = 3)) ⟨e1, κ⟩) := fun κ => mTest_at (mOp_at (rd_at k15) (y := .int 3) rfl (eqI _ _))
  have q4 : ∀ κ : List Cell, mTest (mOp dEq (rd 15) (ret (.int 4))) ⟨e1, κ⟩ = some (.ok (decide (sort = 4)) ⟨e1, κ⟩) := fun κ => mTest_at (mOp_at (rd_at k15) (y := .int 4) rfl (eqI _ _))
  have mid : ∃ e' κ' h' vr' lv' lr' vv' rs', (mIf (mTest (mOp dLt (rd 15) (ret (.int 3)))) mVote (mIf (mTest (mOp dEq (rd 15) (ret (.int 3)))) mRem (mIf (mTest (mOp dEq (rd 15) (ret (.int 4)))) mSet mMove))) ⟨e1, dc a1 b1 s1 :: t⟩ = some (.nx ⟨e', κ'⟩) ∧ Es e' n lv' lr' h' ∧ Inv n st kd h' vr' lv' lr' vv' rs' κ' ∧ rs'.length ≤ rs.length + 1 := by
    by_cases c1 : sort < 3
    · obtain ⟨e', κ', vv', m1, m2, m3⟩ := vote_ok E1 I1 hx hv k16 k17
      exact ⟨e', κ', h, vr, lv, lr, vv', rs, (mIf_t (by rw [lt, decide_eq_true c1])).trans m1, m2, m3, by omega⟩
    · by_cases c2 : sort = 3
      · obtain ⟨κ', m1, m3⟩ := remarked E1 I1 (by omega) k16 k14
        exact ⟨e1, κ', h, vr, lv, lr, vv, _, (mIf_f (by rw [lt, decide_eq_false c1])).trans ((mIf_t (by rw [q3, decide_eq_true c2])).trans m1), E1, m3, by rw [List.length_append]; exact Nat.le_refl _⟩
      · by_cases c3 : sort = 4
        · obtain ⟨e', κ', lr', rs', m1, m2, m3, m4⟩ := settled E1 I1 hl
          exact ⟨e', κ', h, vr, lv, lr', vv, rs', (mIf_f (by rw [lt, decide_eq_false c1])).trans ((mIf_f (by rw [q3, decide_eq_false c2])).trans ((mIf_t (by rw [q4, decide_eq_true c3])).trans m1)), m2, m3, by omega⟩
        · obtain ⟨e', κ', h', vr', lv', vv', m1, m2, m3⟩ := moved E1 I1
          exact ⟨e', κ', h', vr', lv', lr, vv', rs, (mIf_f (by rw [lt, decide_eq_false c1])).trans ((mIf_f (by rw [q3, decide_eq_false c2])).trans ((mIf_f (by rw [q4, decide_eq_false c3])).trans m1)), m2, m3, by omega⟩
  obtain ⟨e2, κ2, h2, vr2, lv2, lr2, vv2, rs2, g2, E2, I2, l2⟩ := mid
  obtain ⟨a2, b2, s2, t2, hκ2⟩ : ∃ a b s t, κ2 = dc a b s :: t := by
    obtain ⟨a, b, s, c1, c5, m, t, _, hk⟩ := I2.shape
    exact ⟨a, b, s, _, hk⟩
  subst hκ2
  obtain ⟨e3, a3, b3, s3, g3, E3⟩ := tail_ok E2 I2 ht
  refine ⟨e3, dc a3 b3 s3 :: t2, h2, vr2, lv2, lr2, vv2, rs2, ?_, E3, I2.dice' a3 b3 s3, l2⟩
  exact (mSeq_nx g1).trans ((mSeq_nx g2).trans g3)
theorem steps_ok (ht : TupVals kd) : ∀ (is : List Int) (e : List PH.Loc) (κ : List Cell) (h : Int) (vr lv lr : Nat) (vv : VV) (rs : RS), Es e n lv lr h → Inv n st kd h vr lv lr vv rs κ → rs.length + is.length ≤ 20 →
    ∃ e' κ' h' vr' lv' lr' vv' rs', loopK none (setD 14) m_law_b3 (is.map .int) ⟨e, κ⟩ = some (.nx ⟨e', κ'⟩) ∧ Es e' n lv' lr' h' ∧ Inv n st kd h' vr' lv' lr' vv' rs' κ'
  | [], e, κ, h, vr, lv, lr, vv, rs, E, I, _ => ⟨e, κ, h, vr, lv, lr, vv, rs, loopK_nil trivial, E, I⟩
  | i :: is, e, κ, h, vr, lv, lr, vv, rs, E, I, hl => by
    have hl : rs.length + (is.length + 1) ≤ 20 := hl
    obtain ⟨a, b, s, t, hκ⟩ : ∃ a b s t, κ = dc a b s :: t := by
      obtain ⟨a, b, s, c1, c5, m, t, _, hk⟩ := I.shape
      exact ⟨a, b, s, _, hk⟩
    subst hκ
    have E1 := E.set (k := 14) (by decide) (.dat (.int i))
    obtain ⟨e1, κ1, h1, vr1, lv1, lr1, vv1, rs1, g1, E2, I2, l2⟩ := step_ok E1 I ht (by omega) (i := i) (List.getElem?_set_self (by rw [E.len]; decide))
    obtain ⟨e', κ', h', vr', lv', lr', vv', rs', g2, E3, I3⟩ := steps_ok ht is e1 κ1 h1 vr1 lv1 lr1 vv1 rs1 E2 I2 (by omega)
    exact ⟨e', κ', h', vr', lv', lr', vv', rs', (loopK_nx (k := none) trivial (setD_at (by rw [E.len]; decide)) g1).trans g2, E3, I3⟩
theorem ranged (j : Nat) : ∃ is : List Int, rangeD 0 j = is.map .int ∧ is.length = j :=
  ⟨(List.range j).map fun (i : Nat) => 0 + (i : Int), by unfold rangeD; rw [List.map_map]; rfl, by rw [List.length_map, List.length_range]⟩
theorem rgOk21 {r : Int} (h0 : 0 ≤ r) (h1 : r < 21) : rgOk r = true := by
  have : r = 0 ∨ r = 1 ∨ r = 2 ∨ r = 3 ∨ r = 4 ∨ r = 5 ∨ r = 6 ∨ r = 7 ∨ r = 8 ∨ r = 9 ∨ r = 10 ∨ r = 11 ∨ r = 12 ∨ r = 13 ∨ r = 14 ∨ r = 15 ∨ r = 16 ∨ r = 17 ∨ r = 18 ∨ r = 19 ∨ r = 20 := by omega
  rcases this with rfl | rfl | rfl | rfl | rfl | rfl | rfl | rfl | rfl | rfl | rfl | rfl | rfl | rfl | rfl | rfl | rfl | rfl | rfl | rfl | rfl <;> decide
theorem start_inv (a b s : Int) (st : Bool) (kd : List (Key × D)) (p f z d : PH.Loc) (n : Int) : Es (e1 n p f z d) n 7 8 7 ∧ Inv n st kd 7 5 7 8 [] [] (κ1 a b s n st kd) :=
  ⟨⟨rfl, rfl, rfl, rfl, rfl, rfl, rfl, rfl⟩, ⟨⟨a, b, s, rfl⟩, rfl, rfl, rfl, rfl, rfl, rfl, rfl, by decide, by decide, by decide, by decide, GV.nil⟩⟩
theorem body_ok (a b s : Int) : ∃ ρ, m_law_body (diceSt N_law.length 1 [a, b, s]) = some (.nx ρ) := by
  obtain ⟨kd, a1, b1, s1, n, st, p, f, z, d, ht, hn, hM⟩ := started a b s
  obtain ⟨E, I⟩ := start_inv a1 b1 s1 st kd p f z d n
  obtain ⟨j, a2, b2, s2, j0, j1, h1⟩ := rollAt (k := 21) (by decide) (by decide) E.s1 a1 b1 s1 [.dct kd, rul n st, .dct kd, chg 7 "open" 5, .dct [], .lst [], .dct [], .lst []]
  have h1 : mCall F__law_roll (mArg (rd 1) (mArg (ret (.int 21)) (ret []))) ⟨e1 n p f z d, κ1 a1 b1 s1 n st kd⟩ = some (.ok (.int j) ⟨e1 n p f z d, κ1 a2 b2 s2 n st kd⟩) := h1
  obtain ⟨is, his, hil⟩ := ranged j.toNat
  have h2 : mRg rg1 (mArg (mCall F__law_roll (mArg (rd 1) (mArg (ret (.int 21)) (ret [])))) (ret [])) ⟨e1 n p f z d, κ1 a1 b1 s1 n st kd⟩ = some (.ok (is.map .int, none) ⟨e1 n p f z d, κ1 a2 b2 s2 n st kd⟩) := by
    refine mRg_at (mArg_at h1 rfl) ?_
    show (if rgOk j = true then some (rangeD 0 j.toNat) else none) = _
    rw [if_pos (rgOk21 j0 j1), his]
  obtain ⟨E, I⟩ := start_inv a2 b2 s2 st kd p f z d n
  obtain ⟨e', κ', h', vr', lv', lr', vv', rs', g2, E3, I3⟩ := steps_ok ht is _ _ _ _ _ _ _ _ E I (by show 0 + _ ≤ 20; omega)
  have g3 := mForI_at h2 g2
  obtain ⟨ρ, g4⟩ : ∃ ρ, mEnd ⟨e', κ'⟩ = some (.nx ρ) := by
    obtain ⟨a, b, s, c1, c5, m, t, _, rfl⟩ := I3.shape
    exact end_ok E3.len E3.s6
  exact ⟨ρ, (hM _).trans ((mSeq_nx g3).trans g4)⟩
theorem good (ns : List Int) : PH.GoodL K08.N_law.length 1 K08.m_law_call K08.m_law_body K08.m_law_ret ns := by
  obtain ⟨dice, a, b, s, ρ1, rfl, h1⟩ := call_ok ns
  obtain ⟨ρ2, h2⟩ := body_ok a b s
  obtain ⟨ρ3, h3⟩ := ret_ok ρ2.e ρ2.c
  exact ⟨[a, b, s], ρ1, ρ2, ρ3, h1, h2, h3⟩
end
end K08
end
section
set_option maxHeartbeats 0
/-! PDD: a law: for dice in rounds: body; return what is asked. One round; in it, the dice are the slot's own. -/
namespace PD
open PySem PySem.Spec PyProof.Rows L2
section
variable {c : Cc}
def intsD' (ns : List Int) : List D := ns.map .int
theorem reps_ints {K : PySem.W.Frag} {W : Hp} (ns : List Int) : Reps K W (ns.map V.int) (intsD' ns) := by
  induction ns with
  | nil => exact .nil
  | cons n ns ih => exact .cons (.int n) ih
theorem ints_of_reps {K : PySem.W.Frag} {W : Hp} : ∀ {ns : List Int} {vs : List V}, Reps K W vs (intsD' ns) → vs = ns.map V.int
  | [], _, .nil => rfl
  | n :: ns, _, .cons r t => by cases r; rw [ints_of_reps t]; rfl
def nons (n : Nat) : Env := List.replicate n .non
def ownEnv (n i : Nat) (o : Own) : Env := (nons n).set i (.own o)
theorem nons_get {n i : Nat} {l : Loc} (h : (nons n)[i]? = some l) : l = .non := by
  unfold nons at h
  rw [List.getElem?_replicate] at h
  split at h
  · exact (Option.some.inj h).symm
  · cases h
/-- the dice alone are known -/
theorem sr_dice {n i : Nat} {q : Addr} {ns : List Int} {H : Hp} {σ : L2.St} (hn : σ.length = n) (hi : i < n) (hq : H q = some (.lst (ns.map V.int))) (t : TBok c.tb H) :
    SR c.K c.tb (ownEnv n i (.lst (intsD' ns))) ⟨fun _ => none, H, fun j => if j = i then some q else none⟩ (σ.set i (some (.ref q))) := by
  have len : (nons n).length = n := List.length_replicate
  refine ⟨by unfold ownEnv; rw [List.length_set, List.length_set, len, hn], fun j l e => ?_, fun j hj => ?_, fun j k p a b => ?_, (fun _ _ z => nomatch z), (fun _ _ z => nomatch z), t⟩
  · by_cases hj : j = i
    · subst hj
      unfold ownEnv at e
      rw [List.getElem?_set_self (by rw [len]; exact hi)] at e
      cases e
      exact ⟨q, if_pos rfl, by rw [List.getElem?_set_self (by rw [hn]; exact hi)]; rfl, rfl, _, hq, reps_ints ns⟩
    · unfold ownEnv at e
      rw [List.getElem?_set_ne (Ne.symm hj)] at e
      cases nons_get e
      exact if_neg hj
  · unfold ownEnv at hj
    rw [List.length_set, len] at hj
    exact if_neg (by omega)
  · by_cases hj : j = i
    · by_cases hk : k = i
      · rw [hj, hk]
      · cases (if_neg hk).symm.trans b
    · cases (if_neg hj).symm.trans a
theorem law_run {tcall : TE} {mcall : MM D} {tb tr : TS} {mb mr : MS} {i n : Nat} {ns : List Int} {ρ ρ1 ρ2 ρ3 : Env} {s : Ws} {σ : L2.St} {D : Ends} (hc : SE c tcall mcall) (hb : SS c tb mb) (hr : SS c tr mr) (hs : SR c.K c.tb ρ s σ) (hn : σ.length = n) (hi : i < n)
    (e1 : mcall ρ = some (.ok (.lst [.lst (intsD' ns)]) ρ1)) (e2 : mb (ownEnv n i (.lst (intsD' ns))) = some (.nx ρ2)) (e3 : mr ρ2 = some (.rt (.bl true) ρ3)) (hD : ∀ H, D.rt (.bl true) H) :
    tSeq (tFor (iSeq c.K tcall) (gName i) tb) tr D σ s.H := by
  refine hc ρ _ e1 s σ hs _ fun v s1 hs1 t1 rv => ?_
  cases rv with
  | @lst p vs _ hp rr =>
    cases rr with
    | @cons v2 vr _ _ r1 r2 =>
      cases r2
      cases r1 with
      | @lst q us _ hq ru =>
        have hus := ints_of_reps ru
        subst hus
        have hpH := hs1.ex _ _ hp
        have hqH := hs1.ex _ _ hq
        have npq : p ≠ q := fun z => by
          rw [z, hqH] at hpH
          cases ns with
          | nil => cases hpH
          | cons n ns => cases hpH
        have sl : SqL c.K s1.H p [.ref q] := .inl (.inl hpH)
        refine ⟨p, rfl, .inl ⟨⟨_, sl⟩, for_list (K := c.K) (a := p) (xs := [.ref q]) (fun k σ' H' => (k = 0 ∧ σ' = σ ∧ H' = s1.H) ∨ (k = 1 ∧ H' p = some (.lst [.ref q]) ∧ ∃ s', SR c.K c.tb ρ2 s' σ' ∧ s'.H = H')) (.inl ⟨rfl, rfl, rfl⟩) (fun k σ' H' _ h => ?_) (fun k x σ' H' hx h => ?_) fun σ' H' h => ?_⟩⟩
        · rcases h with ⟨_, _, rfl⟩ | ⟨_, h, _⟩
          · exact sl
          · exact .inl (.inl h)
        · rcases h with ⟨rfl, rfl, rfl⟩ | ⟨rfl, _, _⟩
          · cases hx
            exact hb _ _ e2 ⟨fun _ => none, s1.H, fun j => if j = i then some q else none⟩ _ (sr_dice hn hi hqH hs1.tb) _ fun s' σ' a b => .inr ⟨rfl, b.f p _ (fun ⟨j, hj⟩ => by
              by_cases z : j = i
              · exact npq (Option.some.inj ((if_pos z).symm.trans hj)).symm
              · cases (if_neg z).symm.trans hj) hpH (fun _ z => nomatch z), s', a, rfl⟩
          · cases hx
        · rcases h with ⟨z, _⟩ | ⟨_, _, s', hs', rfl⟩
          · cases z
          · exact hr ρ2 _ e3 s' σ' hs' _ fun v s2 σ2 _ _ r => by cases r; exact hD _
/-- the env at the law's start -/
def env0 (n : Nat) (ns : List Int) : Env := .dat (.frz (intsD' ns)) :: nons (n - 1)
def spLawP (K : PySem.W.Frag) (tb : TBs) (good : List Int → Prop) : Sp := fun vs H Q _ => ∃ (a : Addr) (ns : List Int), vs = [.ref a] ∧ SqL K H a (ns.map V.int) ∧ TBok tb H ∧ good ns ∧ ∀ H', Q (.bl true) H'
theorem sr_start {K : PySem.W.Frag} {tb : TBs} {n : Nat} {a : Addr} {ns : List Int} {H : Hp} (hn : 1 ≤ n) (h : SqL K H a (ns.map V.int)) (t : TBok tb H) : ∃ W : Hp, SR K tb (env0 n ns) ⟨W, H, fun _ => none⟩ (some (.ref a) :: List.replicate (n - 1) none) := by
  have key : ∀ W : Hp, Ex W H → NoT W → SqL K W a (ns.map V.int) → SR K tb (env0 n ns) ⟨W, H, fun _ => none⟩ (some (.ref a) :: List.replicate (n - 1) none) := fun W e nt hS => by
    refine ⟨by unfold env0 nons; simp, fun j l ej => ?_, fun _ _ => rfl, (fun _ _ _ z => nomatch z), e, nt, t⟩
    cases j with
    | zero => cases ej; exact ⟨rfl, _, rfl, .frz hS (reps_ints ns)⟩
    | succ j =>
      have ej : (nons (n - 1))[j]? = some l := ej
      cases nons_get ej
      exact rfl
  rcases h with h | h
  · have one : ∀ o, H a = some o → NTbl o → ∃ W : Hp, Ex W H ∧ NoT W ∧ W a = some o := fun o e no => by
      refine ⟨fun b => if b = a then some o else none, fun b u z => ?_, fun b u z => ?_, if_pos rfl⟩
      · by_cases hb : b = a
        · rw [hb, e]; exact (if_pos hb).symm.trans z
        · cases (if_neg hb).symm.trans z
      · by_cases hb : b = a
        · cases (if_pos hb).symm.trans z; exact no
        · cases (if_neg hb).symm.trans z
    rcases h with h | ⟨o, h⟩
    · obtain ⟨W, w1, w2, w3⟩ := one _ h (fun _ z => nomatch z)
      exact ⟨W, key W w1 w2 (.inl (.inl w3))⟩
    · obtain ⟨W, w1, w2, w3⟩ := one _ h (fun _ z => nomatch z)
      exact ⟨W, key W w1 w2 (.inl (.inr ⟨_, w3⟩))⟩
  · exact ⟨fun _ => none, key _ (fun _ _ z => nomatch z) (fun _ _ z => nomatch z) (.inr h)⟩
/-- what is to be shown of a script: the program's own answer is True -/
def GoodL (n i : Nat) (mcall : MM D) (mb mr : MS) (ns : List Int) : Prop := ∃ (dice : List Int) (ρ1 ρ2 ρ3 : Env), mcall (env0 n ns) = some (.ok (.lst [.lst (intsD' dice)]) ρ1) ∧ mb (ownEnv n i (.lst (intsD' dice))) = some (.nx ρ2) ∧ mr ρ2 = some (.rt (.bl true) ρ3)
end
section
variable {P : Program} {w : World} {K : PySem.W.Frag} {mg : Str → Option Value} {base : Heap} {tb : TBs} {ca : Str → Addr}
theorem fn_law {x qual px : Str} {st : Stmt} {f : Addr} {fd : FuncData} {N : List Str} {k i : Nat} {mcall : MM D} {mb mr : MS} (F : Fun K x qual st f fd) (S : FnScope N [px] (defScope st)) (hN : 1 ≤ N.length) (hi : i < N.length)
    (body : ∀ (cdv : Value) (A : Around) (outer : List PySem.Env) (s : Shared) (H : Hp) (E : XK), fd.code = cdv → Room k (A.deeper (envOfC qual (defScope st) s.heap.objs.size f cdv)) →
      ∃ tcall tbd tr, PSs (cxOf (L2.CX P w) P w K mg base N qual (defScope st) f cdv A outer s H E) (defBody st) (tSeq (tFor (iSeq K tcall) (gName i) tbd) tr) ∧ SE (ccOf K tb ca noPin E) tcall mcall ∧ SS (ccOf K tb ca noPin E) tbd mb ∧ SS (ccOf K tb ca noPin E) tr mr) :
    FnOk P w K mg base (L2.CX P w) (k + 1) f fd [px] (spLawP K tb (GoodL N.length i mcall mb mr)) := by
  refine okXC F S (fun vs H Q E h => ?_) (fun cdv A outer s H vs Q E hcdv hr h => ?_)
  · obtain ⟨a, ns, rfl, _⟩ := h; rfl
  · obtain ⟨a, ns, rfl, hS, ht, ⟨dice, ρ1, ρ2, ρ3, e1, e2, e3⟩, hQ⟩ := h
    obtain ⟨tcall, tbd, tr, p1, p2, p3, p4⟩ := body cdv A outer s H E hcdv hr
    refine ⟨_, p1, ?_⟩
    obtain ⟨W, hs⟩ := sr_start (n := N.length) hN hS ht
    exact law_run (c := ccOf K tb ca noPin E) p2 p3 p4 hs (by simp; omega) hi e1 e2 e3 fun H' => hQ H'
end
end PD
end
section
set_option maxHeartbeats 0
/-! PDZ: zip of two lists or of two tuples, in loops and comprehensions. -/
namespace PD
open PySem PySem.Spec PyProof.Rows L2 RZ
def zipDA : List D → Option (List D)
  | [.lst xs, .lst ys] => some (List.zipWith (fun a b => .tup [a, b]) xs ys)
  | [.tup xs, .tup ys] => some (List.zipWith (fun a b => .tup [a, b]) xs ys)
  | _ => none
theorem for_zipMT {K : PySem.W.Frag} {a b : Addr} {xs ys : List V} {g : TG} {tb : TS} {D : Ends} {σ : L2.St} {H : Hp} (Pv : Nat → L2.St → Hp → Prop) (h0 : Pv 0 σ H) (hq : ∀ i σ H, Pv i σ H → SqT K H a xs ∧ SqT K H b ys)
    (hs : ∀ (i : Nat) (x y : V) (T : Addr) (σ : L2.St) (H : Hp), xs[i]? = some x → ys[i]? = some y → Pv i σ H → H T = none → g (.ref T) σ (upd H T (.tup [x, y])) fun σ2 H2 => tb { D with nx := Pv (i + 1), ct := Pv (i + 1), bk := D.nx } σ2 H2)
    (hd : ∀ σ H, Pv (min xs.length ys.length) σ H → D.nx σ H) :
    ∃ W : Nat → Nat → L2.St → Hp → Prop, (∃ m, W 0 m σ H) ∧ ∀ i m σ H, W i m σ H →
      ((ItzT K a b).stop i H ∧ D.nx σ H) ∨ ((ItzT K a b).go i H ∧ ∃ N : L2.St → Hp → Prop, (∀ σ' H', N σ' H' → ∃ m', m' < m ∧ W (i + 1) m' σ' H') ∧ ∀ x H', (ItzT K a b).yld i H x H' → g x σ H' fun σ2 H2 => tb { D with nx := N, ct := N, bk := D.nx } σ2 H2) := by
  refine ⟨fun i m σ H => m = min xs.length ys.length - i ∧ i ≤ min xs.length ys.length ∧ Pv i σ H, ⟨_, rfl, Nat.zero_le _, h0⟩, ?_⟩
  rintro i m σ H ⟨rfl, hi, p⟩
  obtain ⟨q1, q2⟩ := hq i σ H p
  by_cases hlt : i < min xs.length ys.length
  · have h1 : i < xs.length := by omega
    have h2 : i < ys.length := by omega
    refine .inr ⟨⟨xs, ys, xs[i], ys[i], q1, q2, by simp [h1], by simp [h2]⟩, Pv (i + 1), fun σ' H' p' => ⟨_, by omega, rfl, hlt, p'⟩, fun x H' y => ?_⟩
    obtain ⟨T, x1, y1, rfl, hT, rfl, e1, e2⟩ := y
    exact hs i x1 y1 T σ H (e1 xs q1) (e2 ys q2) p hT
  · have e : i = min xs.length ys.length := by omega
    subst e
    exact .inl ⟨⟨xs, ys, q1, q2, by omega⟩, hd σ H p⟩
section
variable {c : Cc}
theorem ss_forZipA {ta : TA} {g : TG} {tb : TS} {m : MM (List D)} {mg : D → Env → Option Env} {mb : MS} (h : SA c ta m) (hg : SG c g mg) (hb : SS c tb mb) : SS c (tFor (iZipA c.K ta) g tb) (mForE zipDA m mg mb) := by
  intro ρ o e s σ hs E q
  refine ss_go (t := ta) h e hs q fun vs ds ρ s e hs rx q tr => ?_
  cases e1 : zipDA ds with
  | none => simp only [e1] at e; cases e
  | some l =>
    simp only [e1] at e
    have turn : ∀ {xs ys : List D} {us ws : List V}, Reps c.K s.W us xs → Reps c.K s.W ws ys → l = List.zipWith (fun a b => .tup [a, b]) xs ys → ∀ (i : Nat) (x y : V) (T : Addr) (σ : L2.St) (H : Hp), us[i]? = some x → ws[i]? = some y → LoopAt c mg mb l s o i σ H → H T = none → g (.ref T) σ (upd H T (.tup [x, y])) fun σ2 H2 => tb { E with nx := LoopAt c mg mb l s o (i + 1), ct := LoopAt c mg mb l s o (i + 1), bk := E.nx } σ2 H2 := by
      intro xs ys us ws rr1 rr2 el i x y T σ H ex ey hp hT
      subst el
      obtain ⟨d1, hd1, rd1⟩ := rr1.get ex
      obtain ⟨d2, hd2, rd2⟩ := rr2.get ey
      obtain ⟨ρ', s', hs', rfl, tr', e'⟩ := hp
      have n := Nw.new (o := .tup [x, y]) hs'.ex hs'.nt hs'.tb hT (fun _ z => nomatch z)
      exact loop_turn2 (d := .tup [d1, d2]) hg hb q (by rw [List.getElem?_zipWith, hd1, hd2]) ⟨ρ', _, hs'.nw n, rfl, tr'.trans (.nw n), e', .tup (.inl (.inl upd_same)) (.cons ((rd1.mono tr'.w).mono n.w) (.cons ((rd2.mono tr'.w).mono n.w) .nil))⟩
    unfold zipDA at e1
    split at e1
    · rename_i xs ys
      cases e1
      obtain ⟨v1, v2, rfl, r1, r2⟩ := reps2 rx
      cases r1 with
      | @lst a us _ hx rr1 =>
        cases r2 with
        | @lst b ws _ hy rr2 =>
          have hx' : SqL c.K s.W a us := .inl (.inl hx)
          have hy' : SqL c.K s.W b ws := .inl (.inl hy)
          refine ⟨a, b, us, ws, rfl, .inl ⟨hs.ex.sl hx', hs.ex.sl hy', for_zipM (K := c.K) (a := a) (b := b) (xs := us) (ys := ws) (LoopAt c mg mb _ s o) ⟨ρ, s, hs, rfl, .refl, e⟩ (fun i σ H ⟨ρ', s', hs', eH, tr', _⟩ => eH ▸ ⟨hs'.ex.sl (tr'.w.sl hx'), hs'.ex.sl (tr'.w.sl hy')⟩) (turn rr1 rr2 rfl) fun σ H hp => ?_⟩⟩
          rw [rr1.length, rr2.length] at hp
          exact loop_end q (by rw [List.length_zipWith]; exact hp)
    · rename_i xs ys
      cases e1
      obtain ⟨v1, v2, rfl, r1, r2⟩ := reps2 rx
      cases r1 with
      | @tup a us _ hx rr1 =>
        cases r2 with
        | @tup b ws _ hy rr2 =>
          refine ⟨a, b, us, ws, rfl, .inr ⟨hs.ex.st hx, hs.ex.st hy, for_zipMT (K := c.K) (a := a) (b := b) (xs := us) (ys := ws) (LoopAt c mg mb _ s o) ⟨ρ, s, hs, rfl, .refl, e⟩ (fun i σ H ⟨ρ', s', hs', eH, tr', _⟩ => eH ▸ ⟨hs'.ex.st (tr'.w.st hx), hs'.ex.st (tr'.w.st hy)⟩) (turn rr1 rr2 rfl) fun σ H hp => ?_⟩⟩
          rw [rr1.length, rr2.length] at hp
          exact loop_end q (by rw [List.length_zipWith]; exact hp)
    · cases e1
end
/-! ### comprehensions -/
section
variable {c : Cc}
variable {g : TG} {tt : TT} {te : TE} {ta : TA} {mg : D → Env → Option Env} {mt : MM Bool} {me : MM D} {ma : MM (List D)} {vs : List Nat}
/-- the reading of a comprehension by an iterator J that tells pairs -/
theorem lc_pairs {J : It} {n : Nat} {xs ys : List V} {Ok : Hp → Prop} {σ : L2.St} {H1 : Hp} {D : Addr} {Qd : Hp → Prop} (hgo : ∀ i H, i < n → Ok H → J.go i H) (hst : ∀ H, Ok H → J.stop n H) (hy : ∀ i H v H', i < n → Ok H → J.yld i H v H' → ∃ T x y, v = .ref T ∧ H T = none ∧ H' = upd H T (.tup [x, y]) ∧ xs[i]? = some x ∧ ys[i]? = some y)
    (Pv : Nat → Hp → Prop) (h0 : Pv 0 (upd H1 D (.lst []))) (hq : ∀ i H, Pv i H → Ok H)
    (hs : ∀ (i : Nat) (x y : V) (T : Addr) (H : Hp), xs[i]? = some x → ys[i]? = some y → Pv i H → H T = none → g (.ref T) (wipe σ vs) (upd H T (.tup [x, y])) fun σ2 H2 => wipe σ2 vs = wipe σ vs ∧ tt σ2 H2 fun b H3 => if b = true then te σ2 H3 fun y H4 => ∃ acc, H4 D = some (.lst acc) ∧ acc.length < sizeLine ∧ Pv (i + 1) (upd H4 D (.lst (acc ++ [y]))) else Pv (i + 1) H3)
    (hd : ∀ H, Pv n H → Qd H) :
    ∃ W : Nat → Nat → Hp → Prop, (∃ m, W 0 m (upd H1 D (.lst []))) ∧ ∀ i m H, W i m H →
      (J.stop i H ∧ Qd H) ∨ (J.go i H ∧ ∃ Nx : Hp → Prop, (∀ H', Nx H' → ∃ m', m' < m ∧ W (i + 1) m' H') ∧ ∀ x H', J.yld i H x H' → g x (wipe σ vs) H' fun σ2 H2 => wipe σ2 vs = wipe σ vs ∧ tt σ2 H2 fun b H3 =>
        if b = true then te σ2 H3 fun y H4 => ∃ acc, H4 D = some (.lst acc) ∧ acc.length < sizeLine ∧ Nx (upd H4 D (.lst (acc ++ [y]))) else Nx H3) := by
  refine ⟨fun i m H => m = n - i ∧ i ≤ n ∧ Pv i H, ⟨_, rfl, Nat.zero_le _, h0⟩, ?_⟩
  rintro i m H ⟨rfl, hi, p⟩
  by_cases hlt : i < n
  · refine .inr ⟨hgo i H hlt (hq i H p), Pv (i + 1), fun H' p' => ⟨_, by omega, rfl, hlt, p'⟩, fun x H' y => ?_⟩
    obtain ⟨T, x1, y1, rfl, hT, rfl, e1, e2⟩ := hy i H x H' hlt (hq i H p) y
    exact hs i x1 y1 T H e1 e2 p hT
  · have e : i = n := by omega
    subst e
    exact .inl ⟨hst H (hq i H p), hd H p⟩
theorem se_lcZ (hB : BlkS c vs) (h : SA c ta ma) (hg : SG c.quiet g mg) (hw : GW vs g) (ht : ST c.quiet tt mt) (he : SE c.quiet te me) : SE c (tLc (iZipA c.K ta) g tt te vs) (asL (mLc ma zipDA vs mg mt me)) := by
  intro ρ rr e s σ hs Q q
  refine sx_go (t := ta) h (asL_bnd e) hs q fun x d ρ s e hs rx q tr => ?_
  rcases asL_ok e with ⟨zs, ρ', e1, rfl⟩ | ⟨y, ρ', e1, _⟩
  · obtain ⟨ds, zs, ρ'', e2, hb, e3, e4⟩ := mLc_cases e1
    cases e4
    have turn : ∀ {xs ys : List D} {us ws : List V} {L : Addr}, s.H L = none → Reps c.K s.W us xs → Reps c.K s.W ws ys → ds = List.zipWith (fun a b => .tup [a, b]) xs ys → ∀ (i : Nat) (x y : V) (T : Addr) (H : Hp), us[i]? = some x → ws[i]? = some y → CompAt c mg mt me vs ds s σ (zs, ρ'') L i H → H T = none →
        g (.ref T) (wipe σ vs) (upd H T (.tup [x, y])) fun σ2 H2 => wipe σ2 vs = wipe σ vs ∧ tt σ2 H2 fun b H3 => if b = true then te σ2 H3 fun y H4 => ∃ acc, H4 L = some (.lst acc) ∧ acc.length < sizeLine ∧ CompAt c mg mt me vs ds s σ (zs, ρ'') L (i + 1) (upd H4 L (.lst (acc ++ [y]))) else CompAt c mg mt me vs ds s σ (zs, ρ'') L (i + 1) H3 := by
      intro xs ys us ws L hL rr1 rr2 el i x y T H ex ey hp hT
      subst el
      obtain ⟨d1, hd1, rd1⟩ := rr1.get ex
      obtain ⟨d2, hd2, rd2⟩ := rr2.get ey
      obtain ⟨ρ1, s1, acc, dacc, k1, rfl, k3, k4, k5, k6, k7, k8⟩ := hp
      have n := Nw.new (o := .tup [x, y]) k1.ex k1.nt k1.tb hT (fun _ z => nomatch z)
      have nTL : L ≠ T := fun z => by rw [z, hT] at k4; cases k4
      refine comp_turnR (c' := c.quiet) ⟨rfl, rfl, rfl⟩ hg hw ht he hB.P hL (d := .tup [d1, d2]) (by rw [List.getElem?_zipWith, hd1, hd2]) ⟨ρ1, _, acc, dacc, k1.nw n, rfl, k3.trans (.nw n), (upd_ne nTL).trans k4, k5.mono n.w, (upd_ne nTL).trans k6, k7, k8, .tup (.inl (.inl upd_same)) (.cons ((rd1.mono k3.w).mono n.w) (.cons ((rd2.mono k3.w).mono n.w) .nil))⟩
    have fin : ∀ {xs ys : List D} {us ws : List V} {L : Addr} {H : Hp}, Reps c.K s.W us xs → Reps c.K s.W ws ys → ds = List.zipWith (fun a b => .tup [a, b]) xs ys → CompAt c mg mt me vs ds s σ (zs, ρ'') L (min us.length ws.length) H → CompAt c mg mt me vs ds s σ (zs, ρ'') L ds.length H := by
      intro xs ys us ws L H rr1 rr2 el hp
      subst el
      rw [List.length_zipWith, ← rr1.length, ← rr2.length]
      exact hp
    unfold zipDA at e2
    split at e2
    · rename_i xs ys
      cases e2
      obtain ⟨v1, v2, rfl, r1, r2⟩ := reps2 rx
      cases r1 with
      | @lst a us _ hx rr1 =>
        cases r2 with
        | @lst b ws _ hy rr2 =>
          have hx' : SqL c.K s.W a us := .inl (.inl hx)
          have hy' : SqL c.K s.W b ws := .inl (.inl hy)
          refine ⟨a, b, us, ws, rfl, .inl ⟨hs.ex.sl hx', hs.ex.sl hy', fun L hL => lc_pairs (xs := us) (ys := ws) (n := min us.length ws.length) (Ok := fun H => SqL c.K H a us ∧ SqL c.K H b ws) (fun i H hi o => ⟨us, ws, _, _, o.1, o.2, List.getElem?_eq_getElem (by omega), List.getElem?_eq_getElem (by omega)⟩) (fun H o => ⟨us, ws, o.1, o.2, by omega⟩) (fun i H v H' hi o y => ?_)
            (CompAt c mg mt me vs _ s σ (zs, ρ'') L) (comp_start hs hB.P hL e3) (fun i H ⟨ρ2, s2, acc, dacc, k1, k2, k3, _⟩ => k2 ▸ ⟨k1.ex.sl (k3.w.sl hx'), k1.ex.sl (k3.w.sl hy')⟩) (turn hL rr1 rr2 rfl) fun H hp => comp_post hs hB.nd (inB_of hb) hB.P hL (fin rr1 rr2 rfl hp) q⟩⟩
          obtain ⟨T, x1, y1, rfl, hT, rfl, e1, e2⟩ := y
          exact ⟨T, x1, y1, rfl, hT, rfl, e1 us o.1, e2 ws o.2⟩
    · rename_i xs ys
      cases e2
      obtain ⟨v1, v2, rfl, r1, r2⟩ := reps2 rx
      cases r1 with
      | @tup a us _ hx rr1 =>
        cases r2 with
        | @tup b ws _ hy rr2 =>
          refine ⟨a, b, us, ws, rfl, .inr ⟨hs.ex.st hx, hs.ex.st hy, fun L hL => lc_pairs (xs := us) (ys := ws) (n := min us.length ws.length) (Ok := fun H => SqT c.K H a us ∧ SqT c.K H b ws) (fun i H hi o => ⟨us, ws, _, _, o.1, o.2, List.getElem?_eq_getElem (by omega), List.getElem?_eq_getElem (by omega)⟩) (fun H o => ⟨us, ws, o.1, o.2, by omega⟩) (fun i H v H' hi o y => ?_)
            (CompAt c mg mt me vs _ s σ (zs, ρ'') L) (comp_start hs hB.P hL e3) (fun i H ⟨ρ2, s2, acc, dacc, k1, k2, k3, _⟩ => k2 ▸ ⟨k1.ex.st (k3.w.st hx), k1.ex.st (k3.w.st hy)⟩) (turn hL rr1 rr2 rfl) fun H hp => comp_post hs hB.nd (inB_of hb) hB.P hL (fin rr1 rr2 rfl hp) q⟩⟩
          obtain ⟨T, x1, y1, rfl, hT, rfl, e1, e2⟩ := y
          exact ⟨T, x1, y1, rfl, hT, rfl, e1 us o.1, e2 ws o.2⟩
    · cases e2
  · obtain ⟨ds, ys, ρ'', e2, hb, e3, e4⟩ := mLc_cases e1
    cases e4
end
end PD
end
section
set_option maxHeartbeats 0
/-! PDH: from a head's facts to what the defs ask. -/
namespace PD
open PySem PySem.Spec PyProof.Rows L2
section
variable {K : PySem.W.Frag} {mg : Str → Option Value} {w : World} {h base : Heap}
theorem fun_of_D {x : Str} {st : Stmt} {f : Addr} {fd : FuncData} (F : FunD K x x (defArgs st) (defBody st) (defScope st) [] [] f fd) : Fun K x x st f fd := by
  obtain ⟨oc, od, dV, kV, doc, pm, an, cdv, ct, osl, rfl, lk, hcd, hD, hK⟩ := F.ex
  rcases hD with ⟨_, rfl⟩ | ⟨e, _⟩
  · exact ⟨⟨oc, od, kV, doc, pm, an, cdv, ct, osl, rfl, lk, hcd⟩, F.kp⟩
  · exact absurd rfl e
theorem code_of {x q : Str} {st : Stmt} {p : Str × Option Str} {fd : FuncData} (F : Fun K x q st (He.fAd K p) fd) : fd.code = .ref (He.cT K p).1 := by
  obtain ⟨oc, od, kV, doc, pm, an, cdv, ct, osl, rfl, lk, hcd⟩ := F.ex
  obtain ⟨c, rfl⟩ := He.codeIn_ref hcd
  show Value.ref c = Value.ref (He.codeOf K p)
  rw [He.codeOf_eq lk rfl]
theorem tabG_of {c P : Addr} (t : LamX.TabB base mg c P) : GxR.TabB base mg c P := ⟨t.code, t.bm, t.gP⟩
theorem says_dic {fa : List He.Fa} {fn : List He.DefD} {ts : List He.Tab} (c : He.SaysT fa fn ts w K) (i : Nat) {t : He.Tab} (h : ts[i]? = some t := by rfl) : He.dicW K (t.1 K) = some (He.keysIn w.params t.2) := by
  have e : ts.map (fun t => He.dicW K (t.1 K)) = ts.map fun t => some (He.keysIn w.params t.2) := congrArg (fun z : He.AlT => z.2) c
  have e2 : (ts.map fun t => He.dicW K (t.1 K))[i]? = (ts.map fun t => some (He.keysIn w.params t.2))[i]? := by rw [e]
  rw [List.getElem?_map, List.getElem?_map, h] at e2
  exact Option.some.inj e2
theorem wdic_of {x : Str} {kvs : List (Str × Str)} (g : mg x = some (.ref (He.ga K x))) (d : He.dicW K (He.ga K x) = some (He.keysIn w.params (kvs.map (·.1)))) (v : He.valsB K (He.ga K x) (kvs.map fun q => (q.1, He.Dv.str q.2)) = true) : WDic K w mg x (He.ga K x) kvs :=
  ⟨g, He.dicW_ok d, fun q hq => He.valsB_ok v (q := (q.1, He.Dv.str q.2)) (List.mem_map.mpr ⟨q, hq, rfl⟩), dic_out d⟩
theorem excc_of {x : Str} (g : mg x = some (.ref (He.ga K x))) (c : (He.Fa.exc x).ok K = true) (m : (He.Fa.exm x x true).ok K = true) : ExcC K mg (He.ga K) x := by
  obtain ⟨c1, c2, c3, c4⟩ := He.exc_ok c
  exact ⟨g, c1, c2, He.exm_ok m, c3, c4⟩
end
end PD
end
section
set_option maxHeartbeats 0
/-! PHH: from a head's facts to what the defs ask -/
namespace PH
open PySem PySem.Spec PyProof.Rows L2
section
variable {K : PySem.W.Frag} {mg : Str → Option Value} {w : World} {h base : Heap}
theorem FunA.ofD {x q : Str} {st : Stmt} {dvs : List V} {f : Addr} {fd : FuncData} (F : FunD K x q (defArgs st) (defBody st) (defScope st) dvs [] f fd) : FunA K x q st f fd := by
  obtain ⟨oc, od, dV, kV, doc, pm, an, cdv, ct, osl, e, lk, hcd, _, _⟩ := F.ex
  exact ⟨⟨oc, od, dV, kV, doc, pm, an, cdv, ct, osl, e, lk, hcd⟩⟩
theorem fun_of_D {x q : Str} {st : Stmt} {f : Addr} {fd : FuncData} (F : FunD K x q (defArgs st) (defBody st) (defScope st) [] [] f fd) : Fun K x q st f fd := by
  obtain ⟨oc, od, dV, kV, doc, pm, an, cdv, ct, osl, rfl, lk, hcd, hD, hK⟩ := F.ex
  rcases hD with ⟨_, rfl⟩ | ⟨e, _⟩
  · exact ⟨⟨oc, od, kV, doc, pm, an, cdv, ct, osl, rfl, lk, hcd⟩, F.kp⟩
  · exact absurd rfl e
theorem code_of {x q : Str} {st : Stmt} {p : Str × Option Str} {fd : FuncData} (F : FunA K x q st (He.fAd K p) fd) : fd.code = .ref (He.cT K p).1 := by
  obtain ⟨oc, od, dV, kV, doc, pm, an, cdv, ct, osl, rfl, lk, hcd⟩ := F.ex
  obtain ⟨c, rfl⟩ := He.codeIn_ref hcd
  show Value.ref c = Value.ref (He.codeOf K p)
  rw [He.codeOf_eq lk rfl]
theorem excc_of {b : Bs} {x : Str} (hb : b.ca x = He.ga b.K x) (g : mg x = some (.ref (He.ga b.K x))) (c : (He.Fa.exc x).ok b.K = true) (m : (He.Fa.exm x x true).ok b.K = true) : ExcC b mg x := by
  obtain ⟨c1, c2, c3, c4⟩ := He.exc_ok c
  refine ⟨?_, ?_, ?_, ?_, ?_, ?_⟩ <;> rw [hb]
  · exact g
  · exact c1
  · exact c2
  · exact He.exm_ok m
  · exact c3
  · exact c4
/-- a tuple of the written part -/
def tupB (K : PySem.W.Frag) (a : Addr) (vs : List V) : Bool := match K.lookup a with
  | some ⟨.type c, _, .seq its _, _⟩ => decide (c = "tuple") && (decide (its.size ≤ sizeLine) && He.relAll vs its.toList)
  | _ => false
theorem tupB_ok {a : Addr} {vs : List V} (h : tupB K a vs = true) (H : Hp) : SqT K H a vs := by
  unfold tupB at h
  split at h
  · rename_i c od its n osl e
    rw [Bool.and_eq_true, Bool.and_eq_true] at h
    have hc := of_decide_eq_true h.1
    subst hc
    exact .inr ⟨_, its, n, e, rfl, rfl, of_decide_eq_true h.2.1, He.relAll_ok h.2.2⟩
  · cases h
theorem reps_strV {b : Bs} {g : Gh} : ∀ zs : List Str, Reps b.K g (zs.map V.str) (zs.map D.str)
  | [] => .nil
  | z :: zs => .cons (.str z) (reps_strV zs)
theorem tupC_of {b : Bs} {x : Str} {a : Addr} {zs : List Str} (g : mg x = some (.ref a)) (h : tupB b.K a (zs.map V.str) = true) : TupC b mg x a (zs.map D.str) := ⟨g, fun g => .tup (tupB_ok h g.W) (reps_strV zs)⟩
end
end PH
end
section
set_option maxHeartbeats 0
namespace K08
open PySem PySem.Spec PyProof.Rows L2 PH
def d_folders_of : He.DefD := ⟨("folders_of", none), "folders_of", "folders_of", defArgs (top 4), defBody (top 4), defScope (top 4), [], []⟩
def d_Rules____init__ : He.DefD := ⟨("Rules", some "__init__"), "__init__", "Rules.__init__", defArgs (sub 9 0), defBody (sub 9 0), defScope (sub 9 0), [.int (1), .adr (He.dflAt ("Rules", some "__init__") 1), .bl false], []⟩
def d_Rules__owners_of : He.DefD := ⟨("Rules", some "owners_of"), "owners_of", "Rules.owners_of", defArgs (sub 9 1), defBody (sub 9 1), defScope (sub 9 1), [], []⟩
def d_Change____init__ : He.DefD := ⟨("Change", some "__init__"), "__init__", "Change.__init__", defArgs (sub 10 0), defBody (sub 10 0), defScope (sub 10 0), [], []⟩
def d_Change__check_open : He.DefD := ⟨("Change", some "check_open"), "check_open", "Change.check_open", defArgs (sub 10 1), defBody (sub 10 1), defScope (sub 10 1), [], []⟩
def d_Change__state_to : He.DefD := ⟨("Change", some "state_to"), "state_to", "Change.state_to", defArgs (sub 10 2), defBody (sub 10 2), defScope (sub 10 2), [], []⟩
def d_Change__vote : He.DefD := ⟨("Change", some "vote"), "vote", "Change.vote", defArgs (sub 10 3), defBody (sub 10 3), defScope (sub 10 3), [], []⟩
def d_Change__remark : He.DefD := ⟨("Change", some "remark"), "remark", "Change.remark", defArgs (sub 10 4), defBody (sub 10 4), defScope (sub 10 4), [], []⟩
def d_Change__settle : He.DefD := ⟨("Change", some "settle"), "settle", "Change.settle", defArgs (sub 10 5), defBody (sub 10 5), defScope (sub 10 5), [], []⟩
def d_Change__move : He.DefD := ⟨("Change", some "move"), "move", "Change.move", defArgs (sub 10 6), defBody (sub 10 6), defScope (sub 10 6), [], []⟩
def d_Change__supporters : He.DefD := ⟨("Change", some "supporters"), "supporters", "Change.supporters", defArgs (sub 10 7), defBody (sub 10 7), defScope (sub 10 7), [], []⟩
def d_lacks : He.DefD := ⟨("lacks", none), "lacks", "lacks", defArgs (top 11), defBody (top 11), defScope (top 11), [], []⟩
def d__law_dice : He.DefD := ⟨("_law_dice", none), "_law_dice", "_law_dice", defArgs (top 13), defBody (top 13), defScope (top 13), [], []⟩
def d__law_roll : He.DefD := ⟨("_law_roll", none), "_law_roll", "_law_roll", defArgs (top 14), defBody (top 14), defScope (top 14), [], []⟩
def d__law_rounds : He.DefD := ⟨("_law_rounds", none), "_law_rounds", "_law_rounds", defArgs (top 15), defBody (top 15), defScope (top 15), [], []⟩
def d__law_told : He.DefD := ⟨("_law_told", none), "_law_told", "_law_told", defArgs (top 16), defBody (top 16), defScope (top 16), [], []⟩
def d_law : He.DefD := ⟨("law", none), "law", "law", defArgs (top 17), defBody (top 17), defScope (top 17), [], []⟩
def fn : List He.DefD := [d_folders_of, d_Rules____init__, d_Rules__owners_of, d_Change____init__, d_Change__check_open, d_Change__state_to, d_Change__vote, d_Change__remark, d_Change__settle, d_Change__move, d_Change__supporters, d_lacks, d__law_dice, d__law_roll, d__law_rounds, d__law_told, d_law]
def fa : List He.Fa := [.glo "folders_of", .glo "lacks", .glo "_law_dice", .glo "_law_roll", .glo "_law_rounds", .glo "_law_told", .glo "law", .glo "Change", .glo "Rules", .glo "ReviewError", .glo "ENDS_OF_CHANGES", .free "abs", .free "any", .free "dict", .free "int", .free "len", .free "list", .free "range", .free "sorted", .free "tuple", .int "MOST_NEEDED" 9, .str "OPEN" "open", .cls "Change", .cls "Rules", .noat "Change" "author", .noat "Change" "branch", .noat "Change" "head", .noat "Change" "number", .noat "Change" "remarks", .noat "Change" "state", .noat "Change" "votes", .noat "Rules" "needed", .noat "Rules" "owners", .noat "Rules" "sticky", .meth "Rules" "owners_of", .meth "Change" "check_open", .meth "Change" "state_to", .meth "Change" "vote", .meth "Change" "remark", .meth "Change" "settle", .meth "Change" "move", .meth "Change" "supporters", .mkr "Change", .mkr "Rules", .exc "ReviewError", .exm "ReviewError" "ReviewError" true]
def ts : List He.Tab := []
def tf : List He.Defn := [("folders_of", none), ("lacks", none), ("law", none)]
def ex (K : PySem.W.Frag) : Bool := PH.tupB K (He.ga K "ENDS_OF_CHANGES") [V.str "landed", V.str "dropped"] && PH.tupB K (He.dflAt ("Rules", some "__init__") 1 K) [] && !((He.cT K ("folders_of", none)).2 == (He.cT K ("lacks", none)).2) && !((He.cT K ("folders_of", none)).2 == (He.cT K ("law", none)).2) && !((He.cT K ("lacks", none)).2 == (He.cT K ("law", none)).2)
abbrev R : PySem.W.OpenRow := PySem.W.OpenLaw.row PySem.Challenge.rw_landstack_k08_votes_owners_and_remarks
abbrev hk : PySem.W.Hook := He.hookX 8 fa fn ts tf ex
def ob (s : PySem.W.SharedT) : He.AlX := He.obsX 8 fa fn ts tf ex (HandSHeadRun.getT s)
theorem ob_eq (s : PySem.W.SharedT) : ob s = hk.obs s.abs := He.obsX_eq (HandSHeadRun.getT_eq s)
def loose : List Str := ["HostError", "ReviewError", "folders_of", "MOST_NEEDED", "OPEN", "ENDS_OF_CHANGES", "Rules", "Change", "lacks", "_law_dice", "_law_roll", "_law_rounds", "_law_told"]
theorem run (w : World) : HandSHeadRun.RunEq R (PySem.W.view R.prog [17]) hk ob 2000 loose w := by
  refine PySem.W.byRow2 "special-get-raises" (P := fun w => HandSHeadRun.RunEq R (PySem.W.view R.prog [17]) hk ob 2000 loose w) ?_ ?_ w
  · intro w os; kernel_rfl
  · intro w os; kernel_rfl
end K08
end
section
set_option maxHeartbeats 0
namespace K08
open PySem PySem.Spec PyProof.Rows L2 PH
theorem facts {w : World} {K : PySem.W.Frag} {mg : Str → Option Value} {h : Heap} (KX : K.In h) (G : h.Ns mainGlobals mg) (c : He.SaysX fa fn ts tf ex w h K) (good : ∀ ns, GoodL N_law.length 1 m_law_call m_law_body m_law_ret ns) :
    LamX.LawAtS PySem.Challenge.rw_landstack_k08_votes_owners_and_remarks w K (L2.CX (PySem.Challenge.rw_landstack_k08_votes_owners_and_remarks).prog w) 5 63 "script" mg (He.ga K "law") h := by
  have cd := c.t.d
  have hex := c.more
  obtain ⟨fd_folders_of, E_folders_of⟩ := cd.def_ 0 (d := d_folders_of) rfl
  have U_folders_of : Fun K "folders_of" "folders_of" s_folders_of (He.fAd K ("folders_of", none)) fd_folders_of := fun_of_D E_folders_of
  have A_folders_of : FunA K "folders_of" "folders_of" s_folders_of (He.fAd K ("folders_of", none)) fd_folders_of := .of U_folders_of
  have b_folders_of : L2.Binds K fd_folders_of ["path"] [] := U_folders_of.binds fun _ _ _ _ _ _ us hl => match us, hl with | [_], _ => rfl
  have g_folders_of : mg "folders_of" = some (.ref (He.fAd K ("folders_of", none))) := He.glo_ok KX G (cd.fact 0 (f := .glo "folders_of") rfl)
  obtain ⟨fd_Rules____init__, E_Rules____init__⟩ := cd.def_ 1 (d := d_Rules____init__) rfl
  have A_Rules____init__ : FunA K "__init__" "Rules.__init__" s_Rules____init__ (He.fAd K ("Rules", some "__init__")) fd_Rules____init__ := .ofD E_Rules____init__
  have b_Rules____init__ : L2.Binds K fd_Rules____init__ ["self", "needed", "owners", "sticky"] [] := by
    obtain ⟨ds, dv, bd⟩ := FunD.binds1 (ps := ["self", "needed", "owners", "sticky"]) E_Rules____init__ 4 3 (fun z => nomatch z) rfl fun T kV doc pm an cdv ct us its hl hi => match us, its, hl, hi with | [_, _, _, _], [_, _, _], _, _ => ⟨_, rfl, rfl⟩
    have dv : Vals [] ds := dv
    cases dv
    exact bd
  obtain ⟨fd_Rules__owners_of, E_Rules__owners_of⟩ := cd.def_ 2 (d := d_Rules__owners_of) rfl
  have U_Rules__owners_of : Fun K "owners_of" "Rules.owners_of" s_Rules__owners_of (He.fAd K ("Rules", some "owners_of")) fd_Rules__owners_of := fun_of_D E_Rules__owners_of
  have A_Rules__owners_of : FunA K "owners_of" "Rules.owners_of" s_Rules__owners_of (He.fAd K ("Rules", some "owners_of")) fd_Rules__owners_of := .of U_Rules__owners_of
  have b_Rules__owners_of : L2.Binds K fd_Rules__owners_of ["self", "path"] [] := U_Rules__owners_of.binds fun _ _ _ _ _ _ us hl => match us, hl with | [_, _], _ => rfl
  obtain ⟨fd_Change____init__, E_Change____init__⟩ := cd.def_ 3 (d := d_Change____init__) rfl
  have U_Change____init__ : Fun K "__init__" "Change.__init__" s_Change____init__ (He.fAd K ("Change", some "__init__")) fd_Change____init__ := fun_of_D E_Change____init__
  have A_Change____init__ : FunA K "__init__" "Change.__init__" s_Change____init__ (He.fAd K ("Change", some "__init__")) fd_Change____init__ := .of U_Change____init__
  have b_Change____init__ : L2.Binds K fd_Change____init__ ["self", "number", "author", "branch", "head"] [] := U_Change____init__.binds fun _ _ _ _ _ _ us hl => match us, hl with | [_, _, _, _, _], _ => rfl
  obtain ⟨fd_Change__check_open, E_Change__check_open⟩ := cd.def_ 4 (d := d_Change__check_open) rfl
  have U_Change__check_open : Fun K "check_open" "Change.check_open" s_Change__check_open (He.fAd K ("Change", some "check_open")) fd_Change__check_open := fun_of_D E_Change__check_open
  have A_Change__check_open : FunA K "check_open" "Change.check_open" s_Change__check_open (He.fAd K ("Change", some "check_open")) fd_Change__check_open := .of U_Change__check_open
  have b_Change__check_open : L2.Binds K fd_Change__check_open ["self"] [] := U_Change__check_open.binds fun _ _ _ _ _ _ us hl => match us, hl with | [_], _ => rfl
  obtain ⟨fd_Change__state_to, E_Change__state_to⟩ := cd.def_ 5 (d := d_Change__state_to) rfl
  have U_Change__state_to : Fun K "state_to" "Change.state_to" s_Change__state_to (He.fAd K ("Change", some "state_to")) fd_Change__state_to := fun_of_D E_Change__state_to
  have A_Change__state_to : FunA K "state_to" "Change.state_to" s_Change__state_to (He.fAd K ("Change", some "state_to")) fd_Change__state_to := .of U_Change__state_to
  have b_Change__state_to : L2.Binds K fd_Change__state_to ["self", "state"] [] := U_Change__state_to.binds fun _ _ _ _ _ _ us hl => match us, hl with | [_, _], _ => rfl
  obtain ⟨fd_Change__vote, E_Change__vote⟩ := cd.def_ 6 (d := d_Change__vote) rfl
  have U_Change__vote : Fun K "vote" "Change.vote" s_Change__vote (He.fAd K ("Change", some "vote")) fd_Change__vote := fun_of_D E_Change__vote
  have A_Change__vote : FunA K "vote" "Change.vote" s_Change__vote (He.fAd K ("Change", some "vote")) fd_Change__vote := .of U_Change__vote
  have b_Change__vote : L2.Binds K fd_Change__vote ["self", "name", "value"] [] := U_Change__vote.binds fun _ _ _ _ _ _ us hl => match us, hl with | [_, _, _], _ => rfl
  obtain ⟨fd_Change__remark, E_Change__remark⟩ := cd.def_ 7 (d := d_Change__remark) rfl
  have U_Change__remark : Fun K "remark" "Change.remark" s_Change__remark (He.fAd K ("Change", some "remark")) fd_Change__remark := fun_of_D E_Change__remark
  have A_Change__remark : FunA K "remark" "Change.remark" s_Change__remark (He.fAd K ("Change", some "remark")) fd_Change__remark := .of U_Change__remark
  have b_Change__remark : L2.Binds K fd_Change__remark ["self", "name", "path", "line", "text"] [] := U_Change__remark.binds fun _ _ _ _ _ _ us hl => match us, hl with | [_, _, _, _, _], _ => rfl
  obtain ⟨fd_Change__settle, E_Change__settle⟩ := cd.def_ 8 (d := d_Change__settle) rfl
  have U_Change__settle : Fun K "settle" "Change.settle" s_Change__settle (He.fAd K ("Change", some "settle")) fd_Change__settle := fun_of_D E_Change__settle
  have A_Change__settle : FunA K "settle" "Change.settle" s_Change__settle (He.fAd K ("Change", some "settle")) fd_Change__settle := .of U_Change__settle
  have b_Change__settle : L2.Binds K fd_Change__settle ["self", "place"] [] := U_Change__settle.binds fun _ _ _ _ _ _ us hl => match us, hl with | [_, _], _ => rfl
  obtain ⟨fd_Change__move, E_Change__move⟩ := cd.def_ 9 (d := d_Change__move) rfl
  have U_Change__move : Fun K "move" "Change.move" s_Change__move (He.fAd K ("Change", some "move")) fd_Change__move := fun_of_D E_Change__move
  have A_Change__move : FunA K "move" "Change.move" s_Change__move (He.fAd K ("Change", some "move")) fd_Change__move := .of U_Change__move
  have b_Change__move : L2.Binds K fd_Change__move ["self", "head", "keep"] [] := U_Change__move.binds fun _ _ _ _ _ _ us hl => match us, hl with | [_, _, _], _ => rfl
  obtain ⟨fd_Change__supporters, E_Change__supporters⟩ := cd.def_ 10 (d := d_Change__supporters) rfl
  have U_Change__supporters : Fun K "supporters" "Change.supporters" s_Change__supporters (He.fAd K ("Change", some "supporters")) fd_Change__supporters := fun_of_D E_Change__supporters
  have A_Change__supporters : FunA K "supporters" "Change.supporters" s_Change__supporters (He.fAd K ("Change", some "supporters")) fd_Change__supporters := .of U_Change__supporters
  have b_Change__supporters : L2.Binds K fd_Change__supporters ["self"] [] := U_Change__supporters.binds fun _ _ _ _ _ _ us hl => match us, hl with | [_], _ => rfl
  obtain ⟨fd_lacks, E_lacks⟩ := cd.def_ 11 (d := d_lacks) rfl
  have U_lacks : Fun K "lacks" "lacks" s_lacks (He.fAd K ("lacks", none)) fd_lacks := fun_of_D E_lacks
  have A_lacks : FunA K "lacks" "lacks" s_lacks (He.fAd K ("lacks", none)) fd_lacks := .of U_lacks
  have b_lacks : L2.Binds K fd_lacks ["change", "rules", "paths"] [] := U_lacks.binds fun _ _ _ _ _ _ us hl => match us, hl with | [_, _, _], _ => rfl
  have g_lacks : mg "lacks" = some (.ref (He.fAd K ("lacks", none))) := He.glo_ok KX G (cd.fact 1 (f := .glo "lacks") rfl)
  obtain ⟨fd__law_dice, E__law_dice⟩ := cd.def_ 12 (d := d__law_dice) rfl
  have U__law_dice : Fun K "_law_dice" "_law_dice" s__law_dice (He.fAd K ("_law_dice", none)) fd__law_dice := fun_of_D E__law_dice
  have A__law_dice : FunA K "_law_dice" "_law_dice" s__law_dice (He.fAd K ("_law_dice", none)) fd__law_dice := .of U__law_dice
  have b__law_dice : L2.Binds K fd__law_dice ["cell"] [] := U__law_dice.binds fun _ _ _ _ _ _ us hl => match us, hl with | [_], _ => rfl
  have g__law_dice : mg "_law_dice" = some (.ref (He.fAd K ("_law_dice", none))) := He.glo_ok KX G (cd.fact 2 (f := .glo "_law_dice") rfl)
  obtain ⟨fd__law_roll, E__law_roll⟩ := cd.def_ 13 (d := d__law_roll) rfl
  have U__law_roll : Fun K "_law_roll" "_law_roll" s__law_roll (He.fAd K ("_law_roll", none)) fd__law_roll := fun_of_D E__law_roll
  have A__law_roll : FunA K "_law_roll" "_law_roll" s__law_roll (He.fAd K ("_law_roll", none)) fd__law_roll := .of U__law_roll
  have b__law_roll : L2.Binds K fd__law_roll ["dice", "many"] [] := U__law_roll.binds fun _ _ _ _ _ _ us hl => match us, hl with | [_, _], _ => rfl
  have g__law_roll : mg "_law_roll" = some (.ref (He.fAd K ("_law_roll", none))) := He.glo_ok KX G (cd.fact 3 (f := .glo "_law_roll") rfl)
  obtain ⟨fd__law_rounds, E__law_rounds⟩ := cd.def_ 14 (d := d__law_rounds) rfl
  have U__law_rounds : Fun K "_law_rounds" "_law_rounds" s__law_rounds (He.fAd K ("_law_rounds", none)) fd__law_rounds := fun_of_D E__law_rounds
  have A__law_rounds : FunA K "_law_rounds" "_law_rounds" s__law_rounds (He.fAd K ("_law_rounds", none)) fd__law_rounds := .of U__law_rounds
  have b__law_rounds : L2.Binds K fd__law_rounds ["script", "most"] [] := U__law_rounds.binds fun _ _ _ _ _ _ us hl => match us, hl with | [_, _], _ => rfl
  have g__law_rounds : mg "_law_rounds" = some (.ref (He.fAd K ("_law_rounds", none))) := He.glo_ok KX G (cd.fact 4 (f := .glo "_law_rounds") rfl)
  obtain ⟨fd__law_told, E__law_told⟩ := cd.def_ 15 (d := d__law_told) rfl
  have U__law_told : Fun K "_law_told" "_law_told" (top 16) (He.fAd K ("_law_told", none)) fd__law_told := fun_of_D E__law_told
  have A__law_told : FunA K "_law_told" "_law_told" (top 16) (He.fAd K ("_law_told", none)) fd__law_told := .of U__law_told
  have b__law_told : L2.Binds K fd__law_told ["what"] [] := U__law_told.binds fun _ _ _ _ _ _ us hl => match us, hl with | [_], _ => rfl
  have g__law_told : mg "_law_told" = some (.ref (He.fAd K ("_law_told", none))) := He.glo_ok KX G (cd.fact 5 (f := .glo "_law_told") rfl)
  obtain ⟨fd_law, E_law⟩ := cd.def_ 16 (d := d_law) rfl
  have U_law : Fun K "law" "law" s_law (He.fAd K ("law", none)) fd_law := fun_of_D E_law
  have A_law : FunA K "law" "law" s_law (He.fAd K ("law", none)) fd_law := .of U_law
  have b_law : L2.Binds K fd_law ["script"] [] := U_law.binds fun _ _ _ _ _ _ us hl => match us, hl with | [_], _ => rfl
  have g_law : mg "law" = some (.ref (He.fAd K ("law", none))) := He.glo_ok KX G (cd.fact 6 (f := .glo "law") rfl)
  have z_abs : mg "abs" = none := He.free_ok KX G (cd.fact 11 (f := .free "abs") rfl)
  have z_any : mg "any" = none := He.free_ok KX G (cd.fact 12 (f := .free "any") rfl)
  have z_dict : mg "dict" = none := He.free_ok KX G (cd.fact 13 (f := .free "dict") rfl)
  have z_int : mg "int" = none := He.free_ok KX G (cd.fact 14 (f := .free "int") rfl)
  have z_len : mg "len" = none := He.free_ok KX G (cd.fact 15 (f := .free "len") rfl)
  have z_list : mg "list" = none := He.free_ok KX G (cd.fact 16 (f := .free "list") rfl)
  have z_range : mg "range" = none := He.free_ok KX G (cd.fact 17 (f := .free "range") rfl)
  have z_sorted : mg "sorted" = none := He.free_ok KX G (cd.fact 18 (f := .free "sorted") rfl)
  have z_tuple : mg "tuple" = none := He.free_ok KX G (cd.fact 19 (f := .free "tuple") rfl)
  obtain ⟨t_MOST_NEEDED, h_MOST_NEEDED⟩ := He.int_ok KX G (cd.fact 20 (f := .int "MOST_NEEDED" 9) rfl)
  obtain ⟨t_OPEN, h_OPEN⟩ := He.str_ok KX G (cd.fact 21 (f := .str "OPEN" "open") rfl)
  simp only [ex, Bool.and_eq_true, Bool.not_eq_true', beq_eq_false_iff_ne, ne_eq] at hex
  obtain ⟨⟨⟨⟨tu_ENDS_OF_CHANGES, df_Rules____init___1⟩, ne_0_1⟩, ne_0_2⟩, ne_1_2⟩ := hex
  let tb : TBs := ⟨[((He.cT K ("law", none)).2, PD.lamQ "law")], [(He.cT K ("folders_of", none)).2, (He.cT K ("lacks", none)).2]⟩
  let b : Bs := ⟨K, tb, He.ga K⟩
  have X_ReviewError : ExcC b mg "ReviewError" := excc_of (b := b) rfl (He.glo_ok KX G (cd.fact 9 (f := .glo "ReviewError") rfl)) (cd.fact 44 (f := .exc "ReviewError") rfl) (cd.fact 45 (f := .exm "ReviewError" "ReviewError" true) rfl)
  have fl_Change_author : Fld b "Change" "author" := ⟨He.cls_ok (cd.fact 22 (f := .cls "Change") rfl), He.noat_ok (cd.fact 24 (f := .noat "Change" "author") rfl)⟩
  have fl_Change_branch : Fld b "Change" "branch" := ⟨He.cls_ok (cd.fact 22 (f := .cls "Change") rfl), He.noat_ok (cd.fact 25 (f := .noat "Change" "branch") rfl)⟩
  have fl_Change_head : Fld b "Change" "head" := ⟨He.cls_ok (cd.fact 22 (f := .cls "Change") rfl), He.noat_ok (cd.fact 26 (f := .noat "Change" "head") rfl)⟩
  have fl_Change_number : Fld b "Change" "number" := ⟨He.cls_ok (cd.fact 22 (f := .cls "Change") rfl), He.noat_ok (cd.fact 27 (f := .noat "Change" "number") rfl)⟩
  have fl_Change_remarks : Fld b "Change" "remarks" := ⟨He.cls_ok (cd.fact 22 (f := .cls "Change") rfl), He.noat_ok (cd.fact 28 (f := .noat "Change" "remarks") rfl)⟩
  have fl_Change_state : Fld b "Change" "state" := ⟨He.cls_ok (cd.fact 22 (f := .cls "Change") rfl), He.noat_ok (cd.fact 29 (f := .noat "Change" "state") rfl)⟩
  have fl_Change_votes : Fld b "Change" "votes" := ⟨He.cls_ok (cd.fact 22 (f := .cls "Change") rfl), He.noat_ok (cd.fact 30 (f := .noat "Change" "votes") rfl)⟩
  have fl_Rules_needed : Fld b "Rules" "needed" := ⟨He.cls_ok (cd.fact 23 (f := .cls "Rules") rfl), He.noat_ok (cd.fact 31 (f := .noat "Rules" "needed") rfl)⟩
  have fl_Rules_owners : Fld b "Rules" "owners" := ⟨He.cls_ok (cd.fact 23 (f := .cls "Rules") rfl), He.noat_ok (cd.fact 32 (f := .noat "Rules" "owners") rfl)⟩
  have fl_Rules_sticky : Fld b "Rules" "sticky" := ⟨He.cls_ok (cd.fact 23 (f := .cls "Rules") rfl), He.noat_ok (cd.fact 33 (f := .noat "Rules" "sticky") rfl)⟩
  have TC_ENDS_OF_CHANGES : TupC b mg "ENDS_OF_CHANGES" (He.ga K "ENDS_OF_CHANGES") [D.str "landed", D.str "dropped"] := tupC_of (b := b) (zs := ["landed", "dropped"]) (He.glo_ok KX G (cd.fact 10 (f := .glo "ENDS_OF_CHANGES") rfl)) tu_ENDS_OF_CHANGES
  refine ⟨fd_law, tf.map (He.cT K), spLawP K tb (GoodL N_law.length 1 m_law_call m_law_body m_law_ret), fun p hp => ?_, fun p hp => ?_, fun p hp => ?_, ?_, fun H a ns _ _ hH hS => ⟨a, ns, rfl, hS, ?_, good ns, fun _ => rfl⟩, fun base hK hG TB => ?_⟩
  · obtain ⟨q, hq, rfl⟩ := List.mem_map.mp hp; exact c.empty q hq
  · obtain ⟨q, hq, rfl⟩ := List.mem_map.mp hp; exact c.out q hq
  · obtain ⟨q, hq, rfl⟩ := List.mem_map.mp hp; exact PySem.W.codeHd_of_K KX (c.hd q hq)
  · have b := FunD.bindsA (ps := ["script"]) E_law fun _ _ _ _ _ _ us hl => match us, hl with | [_], _ => rfl
    exact fun s u => b s [u] rfl
  · refine ⟨fun p hp => ?_, fun q hq => ?_⟩
    · have key : p.1 ∈ tf.map fun t => (He.cT K t).2 := by
        simp only [tb, List.mem_cons, List.not_mem_nil, or_false] at hp
        rcases hp with rfl <;> simp [tf]
      obtain ⟨t, ht, e⟩ := List.mem_map.mp key
      exact ⟨#[], by rw [← e]; exact hH _ (List.mem_map.mpr ⟨t, ht, rfl⟩), trivial, fun _ _ z => nomatch z⟩
    · have key : q ∈ tf.map fun t => (He.cT K t).2 := by
        simp only [tb, List.mem_cons, List.not_mem_nil, or_false] at hq
        rcases hq with rfl | rfl <;> simp [tf]
      obtain ⟨t, ht, e⟩ := List.mem_map.mp key
      exact ⟨#[], by rw [← e]; exact hH _ (List.mem_map.mpr ⟨t, ht, rfl⟩), trivial⟩
  have T_folders_of := TB (He.cT K ("folders_of", none)) (by simp [tf])
  have T_lacks := TB (He.cT K ("lacks", none)) (by simp [tf])
  have T_law := TB (He.cT K ("law", none)) (by simp [tf])
  have O_folders_of := ok_folders_of (b := b) (w := w) (mg := mg) (base := base) (P := (PySem.Challenge.rw_landstack_k08_votes_owners_and_remarks).prog) A_folders_of z_len z_range z_tuple (code_of A_folders_of) (PD.tabG_of T_folders_of) (by simp [tb, b]) (fun q hq => by simp only [tb, b, List.mem_cons, List.not_mem_nil, or_false] at hq; rcases hq with rfl <;> (first | exact ne_0_1 | exact fun z => ne_0_1 z.symm | exact ne_0_2 | exact fun z => ne_0_2 z.symm | exact ne_1_2 | exact fun z => ne_1_2 z.symm))
  have C_folders_of : Cal (PySem.Challenge.rw_landstack_k08_votes_owners_and_remarks).prog w b mg base "folders_of" 1 ["path"] F_folders_of (He.fAd K ("folders_of", none)) fd_folders_of := ⟨O_folders_of, g_folders_of, U_folders_of.kp, b_folders_of⟩
  have O_Rules____init__ := ok_Rules____init__ (b := b) (w := w) (mg := mg) (base := base) (P := (PySem.Challenge.rw_landstack_k08_votes_owners_and_remarks).prog) A_Rules____init__ z_dict h_MOST_NEEDED fl_Rules_needed fl_Rules_owners fl_Rules_sticky X_ReviewError
  have C_Rules__new0 : CalN (PySem.Challenge.rw_landstack_k08_votes_owners_and_remarks).prog w b mg base "Rules" 1 ["self", "needed", "owners", "sticky"] F_Rules____init__ (He.fAd K ("Rules", some "__init__")) fd_Rules____init__ [] [] [] := ⟨O_Rules____init__, He.mkr_ok (cd.fact 43 (f := .mkr "Rules") rfl), He.glo_ok KX G (cd.fact 8 (f := .glo "Rules") rfl), b_Rules____init__, .nil, fun _ => .nil⟩
  obtain ⟨ds_Rules__new2, dv_Rules__new2, bd_Rules__new2⟩ := FunD.binds1 (ps := ["self", "needed", "owners", "sticky"]) E_Rules____init__ 2 1 (fun z => nomatch z) rfl fun T kV doc pm an cdv ct us its hl hi => match us, its, hl, hi with | [_, _], [_, _, _], _, _ => ⟨_, rfl, rfl⟩
  have C_Rules__new2 : CalN (PySem.Challenge.rw_landstack_k08_votes_owners_and_remarks).prog w b mg base "Rules" 1 ["self", "needed", "owners", "sticky"] F_Rules____init__ (He.fAd K ("Rules", some "__init__")) fd_Rules____init__ ds_Rules__new2 _ [.tup [], .bl false] := ⟨O_Rules____init__, He.mkr_ok (cd.fact 43 (f := .mkr "Rules") rfl), He.glo_ok KX G (cd.fact 8 (f := .glo "Rules") rfl), bd_Rules__new2, dv_Rules__new2, fun g => (.cons (.tup (tupB_ok df_Rules____init___1 g.W) .nil) (.cons (.bl _) .nil))⟩
  have O_Rules__owners_of := ok_Rules__owners_of (b := b) (w := w) (mg := mg) (base := base) (P := (PySem.Challenge.rw_landstack_k08_votes_owners_and_remarks).prog) A_Rules__owners_of z_tuple fl_Rules_owners C_folders_of
  have C_Rules__owners_of : CalM (PySem.Challenge.rw_landstack_k08_votes_owners_and_remarks).prog w b mg base "Rules" "owners_of" 2 ["self", "path"] F_Rules__owners_of (He.fAd K ("Rules", some "owners_of")) fd_Rules__owners_of := ⟨O_Rules__owners_of, He.cls_ok (cd.fact 23 (f := .cls "Rules") rfl), He.meth_ok (cd.fact 34 (f := .meth "Rules" "owners_of") rfl), b_Rules__owners_of⟩
  have O_Change____init__ := ok_Change____init__ (b := b) (w := w) (mg := mg) (base := base) (P := (PySem.Challenge.rw_landstack_k08_votes_owners_and_remarks).prog) A_Change____init__ h_OPEN fl_Change_author fl_Change_branch fl_Change_head fl_Change_number fl_Change_remarks fl_Change_state fl_Change_votes
  have C_Change__new0 : CalN (PySem.Challenge.rw_landstack_k08_votes_owners_and_remarks).prog w b mg base "Change" 1 ["self", "number", "author", "branch", "head"] F_Change____init__ (He.fAd K ("Change", some "__init__")) fd_Change____init__ [] [] [] := ⟨O_Change____init__, He.mkr_ok (cd.fact 42 (f := .mkr "Change") rfl), He.glo_ok KX G (cd.fact 7 (f := .glo "Change") rfl), b_Change____init__, .nil, fun _ => .nil⟩
  have O_Change__check_open := ok_Change__check_open (b := b) (w := w) (mg := mg) (base := base) (P := (PySem.Challenge.rw_landstack_k08_votes_owners_and_remarks).prog) A_Change__check_open h_OPEN fl_Change_number fl_Change_state X_ReviewError
  have C_Change__check_open : CalM (PySem.Challenge.rw_landstack_k08_votes_owners_and_remarks).prog w b mg base "Change" "check_open" 1 ["self"] F_Change__check_open (He.fAd K ("Change", some "check_open")) fd_Change__check_open := ⟨O_Change__check_open, He.cls_ok (cd.fact 22 (f := .cls "Change") rfl), He.meth_ok (cd.fact 35 (f := .meth "Change" "check_open") rfl), b_Change__check_open⟩
  have O_Change__state_to := ok_Change__state_to (b := b) (w := w) (mg := mg) (base := base) (P := (PySem.Challenge.rw_landstack_k08_votes_owners_and_remarks).prog) A_Change__state_to TC_ENDS_OF_CHANGES fl_Change_state X_ReviewError C_Change__check_open
  have C_Change__state_to : CalM (PySem.Challenge.rw_landstack_k08_votes_owners_and_remarks).prog w b mg base "Change" "state_to" 2 ["self", "state"] F_Change__state_to (He.fAd K ("Change", some "state_to")) fd_Change__state_to := ⟨O_Change__state_to, He.cls_ok (cd.fact 22 (f := .cls "Change") rfl), He.meth_ok (cd.fact 36 (f := .meth "Change" "state_to") rfl), b_Change__state_to⟩
  have O_Change__vote := ok_Change__vote (b := b) (w := w) (mg := mg) (base := base) (P := (PySem.Challenge.rw_landstack_k08_votes_owners_and_remarks).prog) A_Change__vote fl_Change_author fl_Change_votes X_ReviewError C_Change__check_open
  have C_Change__vote : CalM (PySem.Challenge.rw_landstack_k08_votes_owners_and_remarks).prog w b mg base "Change" "vote" 2 ["self", "name", "value"] F_Change__vote (He.fAd K ("Change", some "vote")) fd_Change__vote := ⟨O_Change__vote, He.cls_ok (cd.fact 22 (f := .cls "Change") rfl), He.meth_ok (cd.fact 37 (f := .meth "Change" "vote") rfl), b_Change__vote⟩
  have O_Change__remark := ok_Change__remark (b := b) (w := w) (mg := mg) (base := base) (P := (PySem.Challenge.rw_landstack_k08_votes_owners_and_remarks).prog) A_Change__remark z_len fl_Change_remarks C_Change__check_open
  have C_Change__remark : CalM (PySem.Challenge.rw_landstack_k08_votes_owners_and_remarks).prog w b mg base "Change" "remark" 2 ["self", "name", "path", "line", "text"] F_Change__remark (He.fAd K ("Change", some "remark")) fd_Change__remark := ⟨O_Change__remark, He.cls_ok (cd.fact 22 (f := .cls "Change") rfl), He.meth_ok (cd.fact 38 (f := .meth "Change" "remark") rfl), b_Change__remark⟩
  have O_Change__settle := ok_Change__settle (b := b) (w := w) (mg := mg) (base := base) (P := (PySem.Challenge.rw_landstack_k08_votes_owners_and_remarks).prog) A_Change__settle z_len fl_Change_remarks X_ReviewError C_Change__check_open
  have C_Change__settle : CalM (PySem.Challenge.rw_landstack_k08_votes_owners_and_remarks).prog w b mg base "Change" "settle" 2 ["self", "place"] F_Change__settle (He.fAd K ("Change", some "settle")) fd_Change__settle := ⟨O_Change__settle, He.cls_ok (cd.fact 22 (f := .cls "Change") rfl), He.meth_ok (cd.fact 39 (f := .meth "Change" "settle") rfl), b_Change__settle⟩
  have O_Change__move := ok_Change__move (b := b) (w := w) (mg := mg) (base := base) (P := (PySem.Challenge.rw_landstack_k08_votes_owners_and_remarks).prog) A_Change__move fl_Change_head fl_Change_votes C_Change__check_open
  have C_Change__move : CalM (PySem.Challenge.rw_landstack_k08_votes_owners_and_remarks).prog w b mg base "Change" "move" 2 ["self", "head", "keep"] F_Change__move (He.fAd K ("Change", some "move")) fd_Change__move := ⟨O_Change__move, He.cls_ok (cd.fact 22 (f := .cls "Change") rfl), He.meth_ok (cd.fact 40 (f := .meth "Change" "move") rfl), b_Change__move⟩
  have O_Change__supporters := ok_Change__supporters (b := b) (w := w) (mg := mg) (base := base) (P := (PySem.Challenge.rw_landstack_k08_votes_owners_and_remarks).prog) A_Change__supporters z_sorted fl_Change_votes
  have C_Change__supporters : CalM (PySem.Challenge.rw_landstack_k08_votes_owners_and_remarks).prog w b mg base "Change" "supporters" 1 ["self"] F_Change__supporters (He.fAd K ("Change", some "supporters")) fd_Change__supporters := ⟨O_Change__supporters, He.cls_ok (cd.fact 22 (f := .cls "Change") rfl), He.meth_ok (cd.fact 41 (f := .meth "Change" "supporters") rfl), b_Change__supporters⟩
  have O_lacks := ok_lacks (b := b) (w := w) (mg := mg) (base := base) (P := (PySem.Challenge.rw_landstack_k08_votes_owners_and_remarks).prog) A_lacks z_any z_len z_list z_tuple fl_Change_author fl_Change_remarks fl_Change_votes fl_Rules_needed C_Change__supporters C_Rules__owners_of (code_of A_lacks) (PD.tabG_of T_lacks) (by simp [tb, b]) (fun q hq => by simp only [tb, b, List.mem_cons, List.not_mem_nil, or_false] at hq; rcases hq with rfl <;> (first | exact ne_0_1 | exact fun z => ne_0_1 z.symm | exact ne_0_2 | exact fun z => ne_0_2 z.symm | exact ne_1_2 | exact fun z => ne_1_2 z.symm))
  have C_lacks : Cal (PySem.Challenge.rw_landstack_k08_votes_owners_and_remarks).prog w b mg base "lacks" 3 ["change", "rules", "paths"] F_lacks (He.fAd K ("lacks", none)) fd_lacks := ⟨O_lacks, g_lacks, U_lacks.kp, b_lacks⟩
  have O__law_dice := ok__law_dice (b := b) (w := w) (mg := mg) (base := base) (P := (PySem.Challenge.rw_landstack_k08_votes_owners_and_remarks).prog) A__law_dice z_abs z_int
  have C__law_dice : Cal (PySem.Challenge.rw_landstack_k08_votes_owners_and_remarks).prog w b mg base "_law_dice" 1 ["cell"] F__law_dice (He.fAd K ("_law_dice", none)) fd__law_dice := ⟨O__law_dice, g__law_dice, U__law_dice.kp, b__law_dice⟩
  have O__law_roll := ok__law_roll (b := b) (w := w) (mg := mg) (base := base) (P := (PySem.Challenge.rw_landstack_k08_votes_owners_and_remarks).prog) A__law_roll z_int
  have C__law_roll : Cal (PySem.Challenge.rw_landstack_k08_votes_owners_and_remarks).prog w b mg base "_law_roll" 1 ["dice", "many"] F__law_roll (He.fAd K ("_law_roll", none)) fd__law_roll := ⟨O__law_roll, g__law_roll, U__law_roll.kp, b__law_roll⟩
  have O__law_rounds := ok__law_rounds (b := b) (w := w) (mg := mg) (base := base) (P := (PySem.Challenge.rw_landstack_k08_votes_owners_and_remarks).prog) A__law_rounds C__law_dice
  have C__law_rounds : Cal (PySem.Challenge.rw_landstack_k08_votes_owners_and_remarks).prog w b mg base "_law_rounds" 2 ["script", "most"] F__law_rounds (He.fAd K ("_law_rounds", none)) fd__law_rounds := ⟨O__law_rounds, g__law_rounds, U__law_rounds.kp, b__law_rounds⟩
  exact ok_law (b := b) A_law z_dict z_int z_len z_list z_range z_sorted z_tuple fl_Change_head fl_Change_votes X_ReviewError C__law_rounds C__law_roll C_Rules__new0 C_Change__new0 C_Rules__owners_of C_Change__vote C_Change__remark C_Change__settle C_Change__move C_lacks C_Change__supporters C_Change__state_to C_Rules__new2 (code_of A_law) T_law (by simp [tb, b]) (by simp [tb, b]) (fun q hq => by simp only [tb, b, List.mem_cons, List.not_mem_nil, or_false] at hq; rcases hq with rfl | rfl <;> (first | exact ne_0_1 | exact fun z => ne_0_1 z.symm | exact ne_0_2 | exact fun z => ne_0_2 z.symm | exact ne_1_2 | exact fun z => ne_1_2 z.symm)) U__law_told g__law_told b__law_told
end K08
open PySem PySem.W PySem.Calls PyProof.Rows
theorem K08.of_good (good : ∀ ns, PH.GoodL K08.N_law.length 1 K08.m_law_call K08.m_law_body K08.m_law_ret ns) : PySem.Challenge.rw_landstack_k08_votes_owners_and_remarks.Holds := by
  w_on; o_law
  refine HandSHeadRun.head_any (r := OpenLaw.row PySem.Challenge.rw_landstack_k08_votes_owners_and_remarks) (q := view (OpenLaw.row PySem.Challenge.rw_landstack_k08_votes_owners_and_remarks).prog [17]) (H := K08.hk) (ob := K08.ob) (M := 2000) (loose := K08.loose) (d := HandSHeadRun.topDef (OpenLaw.row PySem.Challenge.rw_landstack_k08_votes_owners_and_remarks).prog 17) (kwd := []) K08.ob_eq
    (by kernel_rfl) (fun s => by kernel_rfl) K08.run (by kernel_rfl) (by kernel_rfl) (by kernel_rfl) (by rfl) (by first | assumption | decide +kernel) (by decide +kernel) ⟨rfl, rfl, rfl, rfl, rfl, by decide +kernel⟩ ?hw ?hc
  case hw => w_witness2
  case hc =>
    refine LamX.walk_ofTsE (l := PySem.Challenge.rw_landstack_k08_votes_owners_and_remarks) (n := 63) (k := 5) (x := "script") (CX := fun w => L2.CX (PySem.Challenge.rw_landstack_k08_votes_owners_and_remarks).prog w) rfl (by decide) (by kernel_rfl) ⟨rfl, by decide, by decide⟩ ?F (fun _ _ _ _ _ z => by obtain ⟨_, _, _, _, _, _, _, _, _, _, _, _, z⟩ := z; exact z)
    intro w mg fa h Y G hmg0
    obtain ⟨K, KX, c⟩ := Y
    have hmg : mg ("law" : PySem.Str) = some (.ref fa) := by
      have e : (HandSHeadRun.topDef (OpenLaw.row PySem.Challenge.rw_landstack_k08_votes_owners_and_remarks).prog 17).name = ("law" : PySem.Str) := by kernel_rfl
      rw [← e]
      exact hmg0
    have e := hmg.symm.trans (He.glo_ok KX G (c.t.d.fact 6 (f := .glo "law") rfl))
    cases e
    exact ⟨K, KX, K08.facts KX G c good⟩
end
theorem PySem.Challenge.cw_landstack_k08_votes_owners_and_remarks_holds : PySem.Challenge.rw_landstack_k08_votes_owners_and_remarks.Holds :=
  K08.of_good K08.good
