import PyProof.Rows.All
import Wide.All
import OpenK.AllK
import Wide.FinOn
import HandS.ForMost
import HandS.Exc
import HandS.ExcOwn
import HandS.WordsExc
import HandS.CallSlots
import HandS.TryOnly
import HandS.Lambda
import HandS.AnyAll
import HandS.TupAny
import HandS.Text
import HandS.More
import HandS.Wide
import HandS.Rev
import HandS.Star
import HandS.Style
import HandS.FStr
import HandS.RaiseMore
import HandS.Iter
import KE.DataEq
import HandS.Zip
import HandS.Conv
import PyProof.AutoSeq1
import HandS.HeadHook4
import KE.KNest
import HandS.Head0
import HandS.Head1
import HandS.Head2
import HandS.HeadEnd
import HandS.HeadHook1
import HandS.HeadHook2
import HandS.HeadHook3
import HandS.HeadWalk
import PySem.Challenge.RW_landstack_k02_patches_between_texts
set_option Elab.async false
set_option linter.all false
set_option maxRecDepth 100000
section
set_option maxHeartbeats 0
/-! PD: readings by data. Values that are never changed are plain data (D); lists that a def changes are its slots' own. -/
namespace PD
open PySem L2

/-! ### data, what represents it -/
inductive D where
  | non | bl (b : Bool) | int (i : Int) | str (x : Str) | tup (xs : List D) | lst (xs : List D) | dct (kvs : List (Key × D)) | frz (xs : List D)

mutual
inductive Rep (K : PySem.W.Frag) (W : Hp) : V → D → Prop
  | non : Rep K W .non .non
  | bl (b : Bool) : Rep K W (.bl b) (.bl b)
  | int (i : Int) : Rep K W (.int i) (.int i)
  | str (x : Str) : Rep K W (.str x) (.str x)
  | tup {a : Addr} {vs : List V} {ds : List D} : SqT K W a vs → Reps K W vs ds → Rep K W (.ref a) (.tup ds)
  | lst {a : Addr} {vs : List V} {ds : List D} : W a = some (.lst vs) → Reps K W vs ds → Rep K W (.ref a) (.lst ds)
  | frz {a : Addr} {vs : List V} {ds : List D} : SqL K W a vs → Reps K W vs ds → Rep K W (.ref a) (.frz ds)
  | dct {a : Addr} {kv : List (Key × V)} {kd : List (Key × D)} : W a = some (.dK kv) → RepK K W kv kd → Rep K W (.ref a) (.dct kd)
inductive Reps (K : PySem.W.Frag) (W : Hp) : List V → List D → Prop
  | nil : Reps K W [] []
  | cons {v : V} {vs : List V} {d : D} {ds : List D} : Rep K W v d → Reps K W vs ds → Reps K W (v :: vs) (d :: ds)
inductive RepK (K : PySem.W.Frag) (W : Hp) : List (Key × V) → List (Key × D) → Prop
  | nil : RepK K W [] []
  | cons {k : Key} {v : V} {vs : List (Key × V)} {d : D} {ds : List (Key × D)} : Rep K W v d → RepK K W vs ds → RepK K W ((k, v) :: vs) ((k, d) :: ds)
end

def Ex (H H' : Hp) : Prop := ∀ a o, H a = some o → H' a = some o
theorem Ex.refl (H : Hp) : Ex H H := fun _ _ h => h
theorem Ex.trans {H H1 H2 : Hp} (a : Ex H H1) (b : Ex H1 H2) : Ex H H2 := fun x o h => b x o (a x o h)
theorem Ex.rd {H H' : Hp} {a : Addr} {u : HO} (e : Ex H H') (h : Rd H a u) : Rd H' a u := by
  rcases h with h | ⟨o, h⟩
  · exact .inl (e a _ h)
  · exact .inr ⟨o, e a _ h⟩
theorem Ex.sl {K : PySem.W.Frag} {H H' : Hp} {a : Addr} {xs : List V} (e : Ex H H') (h : SqL K H a xs) : SqL K H' a xs := by
  rcases h with h | h
  · exact .inl (e.rd h)
  · exact .inr h
theorem Ex.st {K : PySem.W.Frag} {H H' : Hp} {a : Addr} {xs : List V} (e : Ex H H') (h : SqT K H a xs) : SqT K H' a xs := by
  rcases h with h | h
  · exact .inl (e.rd h)
  · exact .inr h

section
variable {K : PySem.W.Frag} {W W' H : Hp}
mutual
theorem Rep.mono (e : Ex W W') : ∀ {v : V} {d : D}, Rep K W v d → Rep K W' v d
  | _, _, .non => .non
  | _, _, .bl b => .bl b
  | _, _, .int i => .int i
  | _, _, .str x => .str x
  | _, _, .tup h r => .tup (e.st h) (Reps.mono e r)
  | _, _, .lst h r => .lst (e _ _ h) (Reps.mono e r)
  | _, _, .frz h r => .frz (e.sl h) (Reps.mono e r)
  | _, _, .dct h r => .dct (e _ _ h) (RepK.mono e r)
theorem Reps.mono (e : Ex W W') : ∀ {vs : List V} {ds : List D}, Reps K W vs ds → Reps K W' vs ds
  | _, _, .nil => .nil
  | _, _, .cons h r => .cons (Rep.mono e h) (Reps.mono e r)
theorem RepK.mono (e : Ex W W') : ∀ {vs : List (Key × V)} {ds : List (Key × D)}, RepK K W vs ds → RepK K W' vs ds
  | _, _, .nil => .nil
  | _, _, .cons h r => .cons (Rep.mono e h) (RepK.mono e r)
end
theorem Reps.length : ∀ {vs : List V} {ds : List D}, Reps K W vs ds → vs.length = ds.length
  | _, _, .nil => rfl
  | _, _, .cons _ r => by rw [List.length_cons, List.length_cons, Reps.length r]
theorem Reps.get : ∀ {vs : List V} {ds : List D} {i : Nat} {v : V}, Reps K W vs ds → vs[i]? = some v → ∃ d, ds[i]? = some d ∧ Rep K W v d
  | _, _, _, _, .nil, e => by simp at e
  | _, _, 0, _, .cons r _, e => by simp at e; subst e; exact ⟨_, rfl, r⟩
  | _, _, i + 1, v, .cons _ t, e => by
    obtain ⟨d, h1, h2⟩ := Reps.get (i := i) t (by simpa using e)
    exact ⟨d, by simpa using h1, h2⟩
theorem Reps.getD : ∀ {vs : List V} {ds : List D} {i : Nat} {d : D}, Reps K W vs ds → ds[i]? = some d → ∃ v, vs[i]? = some v ∧ Rep K W v d
  | _, _, _, _, .nil, e => by simp at e
  | _, _, 0, _, .cons r _, e => by simp at e; subst e; exact ⟨_, rfl, r⟩
  | _, _, i + 1, v, .cons _ t, e => by
    obtain ⟨d, h1, h2⟩ := Reps.getD (i := i) t (by simpa using e)
    exact ⟨d, by simpa using h1, h2⟩
theorem Reps.append : ∀ {vs us : List V} {ds es : List D}, Reps K W vs ds → Reps K W us es → Reps K W (vs ++ us) (ds ++ es)
  | _, _, _, _, .nil, s => s
  | _, _, _, _, .cons r t, s => .cons r (Reps.append t s)
theorem Reps.take : ∀ {vs : List V} {ds : List D} (n : Nat), Reps K W vs ds → Reps K W (vs.take n) (ds.take n)
  | _, _, 0, _ => .nil
  | _, _, _ + 1, .nil => .nil
  | _, _, n + 1, .cons r t => .cons r (Reps.take n t)
theorem Reps.drop : ∀ {vs : List V} {ds : List D} (n : Nat), Reps K W vs ds → Reps K W (vs.drop n) (ds.drop n)
  | _, _, 0, r => r
  | _, _, _ + 1, .nil => .nil
  | _, _, n + 1, .cons _ t => Reps.drop n t
theorem Reps.set {v : V} {d : D} (r : Rep K W v d) : ∀ {vs : List V} {ds : List D} (i : Nat), Reps K W vs ds → Reps K W (vs.set i v) (ds.set i d)
  | _, _, _, .nil => .nil
  | _, _, 0, .cons _ t => .cons r t
  | _, _, i + 1, .cons q t => .cons q (Reps.set r i t)
theorem Reps.reverse {vs : List V} {ds : List D} (r : Reps K W vs ds) : Reps K W vs.reverse ds.reverse := by
  induction r using Reps.rec (motive_1 := fun _ _ _ => True) (motive_3 := fun _ _ _ => True) with
  | nil => exact .nil
  | cons r _ _ ih => rw [List.reverse_cons, List.reverse_cons]; exact ih.append (.cons r .nil)
  | _ => trivial
theorem Reps.dropLast {vs : List V} {ds : List D} (r : Reps K W vs ds) : Reps K W vs.dropLast ds.dropLast := by
  rw [List.dropLast_eq_take, List.dropLast_eq_take, r.length]
  exact r.take _
theorem Reps.replicate {v : V} {d : D} (r : Rep K W v d) : ∀ n : Nat, Reps K W (List.replicate n v) (List.replicate n d)
  | 0 => .nil
  | n + 1 => .cons r (Reps.replicate r n)
theorem Reps.eraseIdx : ∀ {vs : List V} {ds : List D} (i : Nat), Reps K W vs ds → Reps K W (vs.eraseIdx i) (ds.eraseIdx i)
  | _, _, _, .nil => .nil
  | _, _, 0, .cons _ t => t
  | _, _, i + 1, .cons q t => .cons q (Reps.eraseIdx i t)
theorem Reps.nilL {ds : List D} (r : Reps K W [] ds) : ds = [] := by cases r; rfl
theorem Reps.nilR {vs : List V} (r : Reps K W vs []) : vs = [] := by cases r; rfl
end

/-! ### tables of code objects -/
def NTbl (o : HO) : Prop := ∀ ps, o ≠ .tbl ps
/-- LT: tables with the name of the code objects in them; GT: tables of which nothing more is known -/
structure TBs where
  LT : List (Addr × Str)
  GT : List Addr
def TBok (tb : TBs) (H : Hp) : Prop := LamX.Tabs tb.LT H ∧ ∀ P ∈ tb.GT, GxR.TabG H P
theorem TBok.ext {tb : TBs} {H H' : Hp} (t : TBok tb H) (e : ∀ a o, H a = some o → (∀ xs, o ≠ .lst xs) → (∀ kv, o ≠ .dK kv) → H' a = some o) : TBok tb H' := by
  refine ⟨fun p hp => ?_, fun P hP => ?_⟩
  · obtain ⟨ps, h1, h2, h3⟩ := t.1 p hp
    refine ⟨ps, e _ _ h1 (fun _ z => nomatch z) (fun _ z => nomatch z), h2, fun pos cv hc => ?_⟩
    obtain ⟨c, e1, e2⟩ := h3 pos cv hc
    exact ⟨c, e1, e _ _ e2 (fun _ z => nomatch z) (fun _ z => nomatch z)⟩
  · obtain ⟨ps, h1, h2⟩ := t.2 P hP
    exact ⟨ps, e _ _ h1 (fun _ z => nomatch z) (fun _ z => nomatch z), h2⟩
theorem TBok.Ex {tb : TBs} {H H' : Hp} (t : TBok tb H) (e : Ex H H') : TBok tb H' := t.ext fun a o h _ _ => e a o h

/-! ### one step of the world: what is known grows, what stood stays -/
def NoT (W : Hp) : Prop := ∀ a o, W a = some o → NTbl o
structure Nw (tb : TBs) (W H W' H' : Hp) : Prop where
  w : Ex W W'
  x : Ex W' H'
  nt : NoT W'
  n : ∀ a, H a ≠ none → W a = none → W' a = none
  f : ∀ a o, H a = some o → NTbl o → H' a = some o
  p : ∀ a, H a ≠ none → H' a ≠ none
  t : TBok tb H'
section
variable {tb : TBs} {W H W' H' W2 H2 : Hp}
theorem Nw.refl (x : Ex W H) (nt : NoT W) (t : TBok tb H) : Nw tb W H W H := ⟨Ex.refl _, x, nt, fun _ _ h => h, fun _ _ h _ => h, fun _ h => h, t⟩
theorem Nw.trans (a : Nw tb W H W' H') (b : Nw tb W' H' W2 H2) : Nw tb W H W2 H2 :=
  ⟨a.w.trans b.w, b.x, b.nt, fun c h1 h2 => b.n c (a.p c h1) (a.n c h1 h2), fun c o h1 h2 => b.f c o (a.f c o h1 h2) h2, fun c h => b.p c (a.p c h), b.t⟩
/-- a new object, known for good -/
theorem Nw.new (x : Ex W H) (nt : NoT W) (t : TBok tb H) {p : Addr} {o : HO} (hp : H p = none) (ho : NTbl o) : Nw tb W H (upd W p o) (upd H p o) := by
  have wp : W p = none := by
    cases e : W p with
    | none => rfl
    | some u => rw [x p u e] at hp; cases hp
  have eH : Ex H (upd H p o) := fun a u e => by rw [upd_ne (ne_of_none e hp)]; exact e
  refine ⟨fun a u e => by rw [upd_ne (ne_of_none e wp)]; exact e, fun a u e => ?_, fun a u e => ?_, fun a h1 h2 => ?_, fun a u e _ => eH a u e, fun a h => ?_, t.Ex eH⟩
  · by_cases ha : a = p
    · rw [ha, upd_same] at e; rw [ha, upd_same]; exact e
    · rw [upd_ne ha] at e; rw [upd_ne ha]; exact x a u e
  · by_cases ha : a = p
    · rw [ha, upd_same] at e; cases e; exact ho
    · rw [upd_ne ha] at e; exact nt a u e
  · have ha : a ≠ p := fun z => h1 (z ▸ hp)
    rw [upd_ne ha]; exact h2
  · have ha : a ≠ p := fun z => h (z ▸ hp)
    rw [upd_ne ha]; exact h
/-- a new object, not known -/
theorem Nw.own (x : Ex W H) (nt : NoT W) (t : TBok tb H) {p : Addr} {o : HO} (hp : H p = none) : Nw tb W H W (upd H p o) := by
  have eH : Ex H (upd H p o) := fun a u e => by rw [upd_ne (ne_of_none e hp)]; exact e
  refine ⟨Ex.refl _, x.trans eH, nt, fun a _ h => h, fun a u e _ => eH a u e, fun a h => ?_, t.Ex eH⟩
  have ha : a ≠ p := fun z => h (z ▸ hp)
  rw [upd_ne ha]; exact h
end

/-! ### the slots -/
inductive Own where
  | lst (ds : List D) | dct (kvs : List (Key × D))
def Own.d : Own → D
  | .lst ds => .lst ds
  | .dct kvs => .dct kvs
/-- a slot: nothing that is known; data; a list or dict of its own; one that was handed in to be changed -/
inductive Loc where
  | non | dat (d : D) | own (o : Own) | pin (o : Own)
abbrev Env := List Loc
structure Ws where
  W : Hp
  H : Hp
  A : Nat → Option Addr
section
variable (K : PySem.W.Frag) (tb : TBs)
def OwnOk (W H : Hp) (p : Addr) : Own → Prop
  | .lst ds => ∃ vs, H p = some (.lst vs) ∧ Reps K W vs ds
  | .dct kd => ∃ kv, H p = some (.dK kv) ∧ RepK K W kv kd
def LocOk (W H : Hp) (ov : Option V) (oa : Option Addr) : Loc → Prop
  | .non => oa = none
  | .dat d => oa = none ∧ ∃ v, ov = some v ∧ Rep K W v d
  | .own o => ∃ p, oa = some p ∧ ov = some (.ref p) ∧ W p = none ∧ OwnOk K W H p o
  | .pin o => ∃ p, oa = some p ∧ ov = some (.ref p) ∧ W p = none ∧ OwnOk K W H p o
structure SR (ρ : Env) (s : Ws) (σ : L2.St) : Prop where
  len : σ.length = ρ.length
  loc : ∀ i l, ρ[i]? = some l → LocOk K s.W s.H ((σ[i]?).getD none) (s.A i) l
  out : ∀ i, ρ.length ≤ i → s.A i = none
  inj : ∀ i j p, s.A i = some p → s.A j = some p → i = j
  ex : Ex s.W s.H
  nt : NoT s.W
  tb : TBok tb s.H
end
def OwnsA (s : Ws) (a : Addr) : Prop := ∃ i, s.A i = some a
/-- P: the slots whose objects were handed in -/
structure Tr (P : Nat → Bool) (s s' : Ws) : Prop where
  w : Ex s.W s'.W
  n : ∀ a, s.H a ≠ none → ¬ OwnsA s a → s.W a = none → s'.W a = none
  f : ∀ a o, ¬ OwnsA s a → s.H a = some o → NTbl o → s'.H a = some o
  o : ∀ a, OwnsA s' a → OwnsA s a ∨ s.H a = none
  p : ∀ a, s.H a ≠ none → s'.H a ≠ none
  pin : ∀ i, P i = true → s'.A i = s.A i
section
variable {P : Nat → Bool} {s s1 s2 : Ws}
theorem Tr.refl : Tr P s s := ⟨Ex.refl _, fun _ _ _ h => h, fun _ _ _ h _ => h, fun _ h => .inl h, fun _ h => h, fun _ _ => rfl⟩
theorem Tr.trans (a : Tr P s s1) (b : Tr P s1 s2) : Tr P s s2 := by
  have no : ∀ c, s.H c ≠ none → ¬ OwnsA s c → ¬ OwnsA s1 c := fun c h1 h2 h3 => (a.o c h3).elim h2 h1
  refine ⟨a.w.trans b.w, fun c h1 h2 h3 => b.n c (a.p c h1) (no c h1 h2) (a.n c h1 h2 h3), fun c u h1 h2 h3 => ?_, fun c h => ?_, fun c h => b.p c (a.p c h), fun i h => (b.pin i h).trans (a.pin i h)⟩
  · exact b.f c u (no c (by rw [h2]; exact fun z => nomatch z) h1) (a.f c u h1 h2 h3) h3
  · rcases b.o c h with h1 | h1
    · exact a.o c h1
    · refine .inr ?_
      cases e : s.H c with
      | none => rfl
      | some u => exact absurd h1 (a.p c (by rw [e]; exact fun z => nomatch z))
theorem Tr.nw {tb : TBs} {W' H' : Hp} (n : Nw tb s.W s.H W' H') : Tr P s ⟨W', H', s.A⟩ :=
  ⟨n.w, fun a h1 _ h3 => n.n a h1 h3, fun a u _ h2 h3 => n.f a u h2 h3, fun a h => .inl h, n.p, fun _ _ => rfl⟩
end
section
variable {K : PySem.W.Frag} {tb : TBs} {P : Nat → Bool} {ρ : Env} {s : Ws} {σ : L2.St}
theorem OwnOk.mono {W H W' H' : Hp} {p : Addr} {o : Own} (h : OwnOk K W H p o) (e : Ex W W') (k : ∀ u, NTbl u → H p = some u → H' p = some u) : OwnOk K W' H' p o := by
  cases o with
  | lst ds => obtain ⟨vs, h1, h2⟩ := h; exact ⟨vs, k _ (fun _ z => nomatch z) h1, h2.mono e⟩
  | dct kd => obtain ⟨vs, h1, h2⟩ := h; exact ⟨vs, k _ (fun _ z => nomatch z) h1, h2.mono e⟩
theorem OwnOk.there {W H : Hp} {p : Addr} {o : Own} (h : OwnOk K W H p o) : ∃ u, H p = some u ∧ NTbl u := by
  cases o with
  | lst ds => obtain ⟨vs, h1, _⟩ := h; exact ⟨_, h1, fun _ z => nomatch z⟩
  | dct kd => obtain ⟨vs, h1, _⟩ := h; exact ⟨_, h1, fun _ z => nomatch z⟩
theorem LocOk.mono {W H W' H' : Hp} {ov : Option V} {oa : Option Addr} {l : Loc} (h : LocOk K W H ov oa l) (e : Ex W W') (n : ∀ p, oa = some p → H p ≠ none → W p = none → W' p = none) (k : ∀ p, oa = some p → ∀ u, NTbl u → H p = some u → H' p = some u) : LocOk K W' H' ov oa l := by
  cases l with
  | non => exact h
  | dat d => obtain ⟨h1, v, h2, h3⟩ := h; exact ⟨h1, v, h2, h3.mono e⟩
  | own o =>
    obtain ⟨p, h1, h2, h3, h4⟩ := h
    obtain ⟨u, hu, _⟩ := h4.there
    exact ⟨p, h1, h2, n p h1 (by rw [hu]; exact fun z => nomatch z) h3, h4.mono e (k p h1)⟩
  | pin o =>
    obtain ⟨p, h1, h2, h3, h4⟩ := h
    obtain ⟨u, hu, _⟩ := h4.there
    exact ⟨p, h1, h2, n p h1 (by rw [hu]; exact fun z => nomatch z) h3, h4.mono e (k p h1)⟩
theorem SR.nw {W' H' : Hp} (h : SR K tb ρ s σ) (n : Nw tb s.W s.H W' H') : SR K tb ρ ⟨W', H', s.A⟩ σ :=
  ⟨h.len, fun i l e => (h.loc i l e).mono n.w (fun p _ h1 h2 => n.n p h1 h2) fun p _ u hu e => n.f p u e hu, h.out, h.inj, n.x, n.nt, n.t⟩
theorem SR.nref (h : SR K tb ρ s σ) : Nw tb s.W s.H s.W s.H := .refl h.ex h.nt h.tb
end
end PD
end
section
set_option maxHeartbeats 0
namespace PD
open PySem L2

/-! ### mirrors -/
inductive Res (α : Type) where
  | ok (a : α) (ρ : Env) | er (c : Str) (ρ : Env)
abbrev MM (α : Type) := Env → Option (Res α)
def ret {α : Type} (a : α) : MM α := fun ρ => some (.ok a ρ)
def bnd {α β : Type} (m : MM α) (f : α → MM β) : MM β := fun ρ => match m ρ with
  | some (.ok a ρ') => f a ρ'
  | some (.er c ρ') => some (.er c ρ')
  | none => none
def lft {α : Type} (o : Option α) : MM α := fun ρ => match o with
  | some a => some (.ok a ρ)
  | none => none
theorem bnd_ok {α β : Type} {m : MM α} {f : α → MM β} {ρ ρ' : Env} {a : α} (h : m ρ = some (.ok a ρ')) : bnd m f ρ = f a ρ' := by unfold bnd; rw [h]
theorem bnd_ret {α β : Type} {a : α} {f : α → MM β} : bnd (ret a) f = f a := rfl
theorem bnd_some {α β : Type} {a : α} {f : α → MM β} : bnd (lft (some a)) f = f a := rfl
theorem bnd_cases {α β : Type} {m : MM α} {f : α → MM β} {ρ : Env} {r : Res β} (h : bnd m f ρ = some r) : (∃ a ρ', m ρ = some (.ok a ρ') ∧ f a ρ' = some r) ∨ (∃ c ρ', m ρ = some (.er c ρ') ∧ r = .er c ρ') := by
  unfold bnd at h
  split at h
  · rename_i a ρ' e; exact .inl ⟨a, ρ', e, h⟩
  · rename_i c ρ' e; exact .inr ⟨c, ρ', e, (Option.some.inj h).symm⟩
  · cases h
theorem lft_cases {α : Type} {o : Option α} {ρ : Env} {r : Res α} (h : lft o ρ = some r) : ∃ a, o = some a ∧ r = .ok a ρ := by
  unfold lft at h
  split at h
  · rename_i a; exact ⟨a, rfl, (Option.some.inj h).symm⟩
  · cases h

/-- what a body's judgements share: the written part, the tables, the slots handed in, what is wished of an exception -/
structure Cc where
  K : PySem.W.Frag
  tb : TBs
  P : Nat → Bool
  xw : Str → L2.St → Hp → Prop

abbrev TX (τ : Type) := L2.St → Hp → (τ → Hp → Prop) → Prop
section
variable (c : Cc)
def PostX {τ δ : Type} (rep : Hp → τ → δ → Prop) (s : Ws) (σ : L2.St) (Q : τ → Hp → Prop) : Res δ → Prop
  | .ok d ρ' => ∀ v s', SR c.K c.tb ρ' s' σ → Tr c.P s s' → rep s'.W v d → Q v s'.H
  | .er x ρ' => ∀ s', SR c.K c.tb ρ' s' σ → Tr c.P s s' → c.xw x σ s'.H
def Sx {τ δ : Type} (rep : Hp → τ → δ → Prop) (t : TX τ) (m : MM δ) : Prop :=
  ∀ ρ r, m ρ = some r → ∀ s σ, SR c.K c.tb ρ s σ → ∀ Q, PostX c rep s σ Q r → t σ s.H Q
abbrev SE (te : TE) (m : MM D) : Prop := Sx c (Rep c.K) te m
abbrev ST (t : TT) (m : MM Bool) : Prop := Sx c (fun _ b d => b = d) t m
abbrev SA (t : TA) (m : MM (List D)) : Prop := Sx c (Reps c.K) t m
abbrev SO (t : TO) (m : MM (Option Int)) : Prop := Sx c (fun _ b d => b = d) t m
end
section
variable {c : Cc}
theorem PostX.after {τ δ : Type} {rep : Hp → τ → δ → Prop} {s s1 : Ws} {σ : L2.St} {Q : τ → Hp → Prop} {r : Res δ} (h : PostX c rep s σ Q r) (t : Tr c.P s s1) : PostX c rep s1 σ Q r := by
  cases r with
  | ok d ρ' => exact fun v s' a b k => h v s' a (t.trans b) k
  | er x ρ' => exact fun s' a b => h s' a (t.trans b)
/-- one after another -/
theorem sx_bnd {τ δ υ ε : Type} {rep : Hp → τ → δ → Prop} {rep2 : Hp → υ → ε → Prop} {t : TX τ} {m : MM δ} {f : δ → MM ε} {k : τ → TX υ} (h : Sx c rep t m)
    (hk : ∀ v d ρ r, f d ρ = some r → ∀ s σ, SR c.K c.tb ρ s σ → rep s.W v d → ∀ Q, PostX c rep2 s σ Q r → k v σ s.H Q) :
    Sx c rep2 (fun σ H Q => t σ H fun v H1 => k v σ H1 Q) (bnd m f) := by
  intro ρ r e s σ hs Q q
  rcases bnd_cases e with ⟨d, ρ', e1, e2⟩ | ⟨x, ρ', e1, rfl⟩
  · exact h ρ _ e1 s σ hs _ fun v s' a b kk => hk v d ρ' r e2 s' σ a kk Q (q.after b)
  · exact h ρ _ e1 s σ hs _ fun s' a b => q s' a b

/-- the same, in the midst -/
theorem sx_go {τ δ υ ε : Type} {rep : Hp → τ → δ → Prop} {rep2 : Hp → υ → ε → Prop} {t : TX τ} {m : MM δ} {f : δ → MM ε} {ρ : Env} {r : Res ε} {s : Ws} {σ : L2.St} {Q2 : υ → Hp → Prop} {R : τ → Hp → Prop} (h : Sx c rep t m) (e : bnd m f ρ = some r) (hs : SR c.K c.tb ρ s σ)
    (q : PostX c rep2 s σ Q2 r) (hk : ∀ v d ρ' s', f d ρ' = some r → SR c.K c.tb ρ' s' σ → rep s'.W v d → PostX c rep2 s' σ Q2 r → Tr c.P s s' → R v s'.H) : t σ s.H R := by
  rcases bnd_cases e with ⟨d, ρ', e1, e2⟩ | ⟨x, ρ', e1, rfl⟩
  · exact h ρ _ e1 s σ hs _ fun v s' a b kk => hk v d ρ' s' e2 a kk (q.after b) b
  · exact h ρ _ e1 s σ hs _ fun s' a b => q s' a b

/-! ### names, constants -/
def rd (i : Nat) : MM D := fun ρ => match ρ[i]? with
  | some (.dat d) => some (.ok d ρ)
  | some (.own o) => some (.ok o.d (ρ.set i (.dat o.d)))
  | _ => none
def updA (A : Nat → Option Addr) (i : Nat) (o : Option Addr) : Nat → Option Addr := fun j => if j = i then o else A j
theorem updA_same {A : Nat → Option Addr} {i : Nat} {o : Option Addr} : updA A i o i = o := if_pos rfl
theorem updA_ne {A : Nat → Option Addr} {i j : Nat} {o : Option Addr} (h : j ≠ i) : updA A i o j = A j := if_neg h
theorem OwnOk.rep {K : PySem.W.Frag} {W H : Hp} {p : Addr} {o : Own} (h : OwnOk K W H p o) (wp : W p = none) : ∃ u, H p = some u ∧ NTbl u ∧ Rep K (upd W p u) (.ref p) o.d := by
  have e : ∀ u, Ex W (upd W p u) := fun u a x q => by rw [upd_ne (ne_of_none q wp)]; exact q
  cases o with
  | lst ds => obtain ⟨vs, h1, h2⟩ := h; exact ⟨_, h1, (fun _ z => nomatch z), .lst upd_same (h2.mono (e _))⟩
  | dct ds => obtain ⟨vs, h1, h2⟩ := h; exact ⟨_, h1, (fun _ z => nomatch z), .dct upd_same (h2.mono (e _))⟩
theorem SR.freeze {ρ : Env} {s : Ws} {σ : L2.St} {i : Nat} {o : Own} (h : SR c.K c.tb ρ s σ) (e : ρ[i]? = some (.own o)) (hP : c.P i = false) :
    ∃ v s', SR c.K c.tb (ρ.set i (.dat o.d)) s' σ ∧ Tr c.P s s' ∧ σ[i]? = some (some v) ∧ Rep c.K s'.W v o.d ∧ s'.H = s.H := by
  obtain ⟨p, hA, hv, wp, ho⟩ := h.loc i _ e
  obtain ⟨u, hu, nu, r⟩ := ho.rep wp
  have hi : i < ρ.length := (List.getElem?_eq_some_iff.mp e).1
  have hv' : σ[i]? = some (some (.ref p)) := by
    cases q : σ[i]? with
    | none => rw [q] at hv; cases hv
    | some x => rw [q] at hv; exact congrArg some hv
  have eW : Ex s.W (upd s.W p u) := fun a x q => by rw [upd_ne (ne_of_none q wp)]; exact q
  refine ⟨.ref p, ⟨upd s.W p u, s.H, updA s.A i none⟩, ⟨by rw [List.length_set]; exact h.len, fun j l ej => ?_, fun j hj => ?_, fun j k q a b => ?_, fun a x q => ?_, fun a x q => ?_, h.tb⟩, ⟨eW, fun a h1 h2 h3 => ?_, fun a x _ h2 _ => h2, fun a ⟨j, ha⟩ => ?_, fun _ h => h, fun j hj => ?_⟩, hv', r, rfl⟩
  · by_cases hj : j = i
    · subst hj
      rw [List.getElem?_set_self hi] at ej
      cases ej
      exact ⟨updA_same, _, hv, r⟩
    · rw [List.getElem?_set_ne (Ne.symm hj)] at ej
      have q := h.loc j l ej
      show LocOk c.K (upd s.W p u) s.H _ (updA s.A i none j) l
      rw [updA_ne hj]
      refine q.mono eW (fun p' hp' _ w => ?_) fun p' _ u _ e => e
      have np : p' ≠ p := fun z => hj (h.inj j i p' hp' (by rw [hA, z]))
      show upd s.W p _ p' = none
      rw [upd_ne np]; exact w
  · rw [List.length_set] at hj
    by_cases hji : j = i
    · subst hji; exact updA_same
    · exact (updA_ne hji).trans (h.out j hj)
  · by_cases hj : j = i
    · subst hj; cases updA_same.symm.trans a
    · by_cases hk : k = i
      · subst hk; cases updA_same.symm.trans b
      · exact h.inj j k q ((updA_ne hj).symm.trans a) ((updA_ne hk).symm.trans b)
  · by_cases ha : a = p
    · subst ha
      cases upd_same.symm.trans q; exact hu
    · exact h.ex a x ((upd_ne ha).symm.trans q)
  · by_cases ha : a = p
    · subst ha
      cases upd_same.symm.trans q; exact nu
    · exact h.nt a x ((upd_ne ha).symm.trans q)
  · have ha : a ≠ p := fun z => h2 ⟨i, by rw [hA, z]⟩
    show upd s.W p u a = none
    rw [upd_ne ha]; exact h3
  · by_cases hj : j = i
    · subst hj; cases updA_same.symm.trans ha
    · exact .inl ⟨j, (updA_ne hj).symm.trans ha⟩
  · have hji : j ≠ i := fun z => by rw [z, hP] at hj; cases hj
    exact updA_ne hji
def rdOk (c : Cc) (i : Nat) : Prop := c.P i = false
theorem se_var {i : Nat} (hP : c.P i = false) : SE c (tVar i) (rd i) := by
  intro ρ r e s σ hs Q q
  unfold rd at e
  split at e
  · rename_i d ed
    cases e
    obtain ⟨_, v, hv, rv⟩ := hs.loc i _ ed
    have hv' : σ[i]? = some (some v) := by
      cases z : σ[i]? with
      | none => rw [z] at hv; cases hv
      | some x => rw [z] at hv; exact congrArg some hv
    exact ⟨v, hv', q v s hs .refl rv⟩
  · rename_i o eo
    cases e
    obtain ⟨v, s', h1, h2, h3, h4, h5⟩ := hs.freeze eo hP
    refine ⟨v, h3, ?_⟩
    have z := q v s' h1 h2 h4
    rw [h5] at z
    exact z
  · cases e
/-- a slot of data alone (also one handed in) -/
def rdD (i : Nat) : MM D := fun ρ => match ρ[i]? with
  | some (.dat d) => some (.ok d ρ)
  | _ => none
theorem se_varD {i : Nat} : SE c (tVar i) (rdD i) := by
  intro ρ r e s σ hs Q q
  unfold rdD at e
  split at e
  · rename_i d ed
    cases e
    obtain ⟨_, v, hv, rv⟩ := hs.loc i _ ed
    have hv' : σ[i]? = some (some v) := by
      cases z : σ[i]? with
      | none => rw [z] at hv; cases hv
      | some x => rw [z] at hv; exact congrArg some hv
    exact ⟨v, hv', q v s hs .refl rv⟩
  · cases e
theorem se_c {v : V} {d : D} (h : ∀ W, Rep c.K W v d) : SE c (tC v) (ret d) := by
  intro ρ r e s σ hs Q q
  cases e
  exact q v s hs .refl (h _)

/-! ### operators on values -/
section
variable (c)
def RX {τ δ : Type} (rep : Hp → τ → δ → Prop) (r : Hp → (τ → Hp → Prop) → Prop) (W : Hp) (H : Hp) (d : δ) : Prop := ∀ Q, (∀ v W' H', Nw c.tb W H W' H' → rep W' v d → Q v H') → r H Q
structure Wd (W H : Hp) : Prop where
  ex : Ex W H
  nt : NoT W
  tb : TBok c.tb H
def ROp (r : R2) (op : D → D → Option D) : Prop := ∀ W H x y a b d, Wd c W H → Rep c.K W x a → Rep c.K W y b → op a b = some d → RX c (Rep c.K) (r x y) W H d
def RUn (r : V → Hp → VK → Prop) (op : D → Option D) : Prop := ∀ W H x a d, Wd c W H → Rep c.K W x a → op a = some d → RX c (Rep c.K) (r x) W H d
def RCa (r : List V → Hp → VK → Prop) (op : List D → Option D) : Prop := ∀ W H xs as d, Wd c W H → Reps c.K W xs as → op as = some d → RX c (Rep c.K) (r xs) W H d
def RTr (r : V → Hp → (Bool → Hp → Prop) → Prop) (op : D → Option Bool) : Prop := ∀ W H x a b, Wd c W H → Rep c.K W x a → op a = some b → RX c (fun _ u d => u = d) (r x) W H b
end
theorem Wd.nref {W H : Hp} (h : Wd c W H) : Nw c.tb W H W H := .refl h.ex h.nt h.tb
theorem SR.wd {ρ : Env} {s : Ws} {σ : L2.St} (h : SR c.K c.tb ρ s σ) : Wd c s.W s.H := ⟨h.ex, h.nt, h.tb⟩
/-- the end of an operation -/
theorem post_nw {τ δ : Type} {rep : Hp → τ → δ → Prop} {ρ : Env} {s : Ws} {σ : L2.St} {Q : τ → Hp → Prop} {d : δ} (hs : SR c.K c.tb ρ s σ) (q : PostX c rep s σ Q (.ok d ρ)) : ∀ v W' H', Nw c.tb s.W s.H W' H' → rep W' v d → Q v H' :=
  fun v _ _ n rv => q v _ (hs.nw n) (.nw n) rv
theorem rx_val {τ δ : Type} {rep : Hp → τ → δ → Prop} {r : Hp → (τ → Hp → Prop) → Prop} {W H : Hp} {d : δ} (w : Wd c W H) (v : τ) (rv : rep W v d) (h : ∀ Q : τ → Hp → Prop, Q v H → r H Q) : RX c rep r W H d := fun Q q => h Q (q v W H w.nref rv)
theorem se_op {r : R2} {op : D → D → Option D} {ta tb : TE} {ma mb : MM D} (ho : ROp c r op) (ha : SE c ta ma) (hb : SE c tb mb) : SE c (tOp r ta tb) (bnd ma fun a => bnd mb fun b => lft (op a b)) := by
  intro ρ rr e s σ hs Q q
  refine sx_go (t := ta) ha e hs q fun x a ρ s e hs rx q tr => ?_
  refine sx_go (t := tb) hb e hs q fun y b ρ' s' e hs' ry q tr => ?_
  obtain ⟨d, e3, rfl⟩ := lft_cases e
  exact ho _ _ x y a b d hs'.wd (rx.mono tr.w) ry e3 _ (post_nw hs' q)
theorem se_un {r : V → Hp → VK → Prop} {op : D → Option D} {ta : TE} {ma : MM D} (ho : RUn c r op) (ha : SE c ta ma) : SE c (tUn r ta) (bnd ma fun a => lft (op a)) := by
  intro ρ rr e s σ hs Q q
  refine sx_go (t := ta) ha e hs q fun x a ρ s e hs rx q tr => ?_
  obtain ⟨d, e3, rfl⟩ := lft_cases e
  exact ho _ _ x a d hs.wd rx e3 _ (post_nw hs q)
/-- a value, then a step of its own -/
theorem se_then {r : V → Hp → VK → Prop} {op : D → Option D} {ta : TE} {ma : MM D} (ho : RUn c r op) (ha : SE c ta ma) : SE c (fun σ H Q => ta σ H fun x H1 => r x H1 Q) (bnd ma fun a => lft (op a)) := se_un ho ha
theorem se_cb {r : List V → Hp → VK → Prop} {op : List D → Option D} {ta : TA} {ma : MM (List D)} (ho : RCa c r op) (ha : SA c ta ma) : SE c (tCB r ta) (bnd ma fun a => lft (op a)) := by
  intro ρ rr e s σ hs Q q
  refine sx_go (t := ta) ha e hs q fun x a ρ s e hs rx q tr => ?_
  obtain ⟨d, e3, rfl⟩ := lft_cases e
  exact ho _ _ x a d hs.wd rx e3 _ (post_nw hs q)
theorem sa_nil : SA c tNil (ret []) := by
  intro ρ r e s σ hs Q q
  cases e
  exact q [] s hs .refl .nil
theorem sa_cons {te : TE} {t : TA} {m : MM D} {ms : MM (List D)} (h : SE c te m) (hr : SA c t ms) : SA c (tCons te t) (bnd m fun d => bnd ms fun ds => ret (d :: ds)) := by
  intro ρ rr e s σ hs Q q
  refine sx_go (t := te) h e hs q fun x a ρ s e hs rx q tr => ?_
  refine sx_go (t := t) hr e hs q fun y b ρ' s' e hs' ry q tr => ?_
  cases e
  exact q _ s' hs' .refl (.cons (rx.mono tr.w) ry)

def cap : Nat := 100000
theorem cap_le {n : Nat} (h : n ≤ cap) : n ≤ sizeLine := Nat.le_trans h (by decide)
theorem cap_lt {n : Nat} (h : n < cap) : n < sizeLine := Nat.lt_of_lt_of_le h (by decide)
def mTup (ds : List D) : Option D := if ds.length ≤ cap then some (.tup ds) else none
def mLst (ds : List D) : Option D := if ds.length ≤ cap then some (.lst ds) else none
theorem mTup_some {ds : List D} {d : D} (h : mTup ds = some d) : ds.length ≤ cap ∧ d = .tup ds := by
  unfold mTup at h; split at h
  · rename_i q; exact ⟨q, (Option.some.inj h).symm⟩
  · cases h
theorem mLst_some {ds : List D} {d : D} (h : mLst ds = some d) : ds.length ≤ cap ∧ d = .lst ds := by
  unfold mLst at h; split at h
  · rename_i q; exact ⟨q, (Option.some.inj h).symm⟩
  · cases h
/-- a new tuple, a new list, known for good -/
theorem rx_tup {W H : Hp} {vs : List V} {ds : List D} (w : Wd c W H) (r : Reps c.K W vs ds) : RX c (Rep c.K) (fun H Q => ∀ p, H p = none → Q (.ref p) (upd H p (.tup vs))) W H (.tup ds) := fun Q q p hp => by
  have n := Nw.new (o := .tup vs) w.ex w.nt w.tb hp (fun _ z => nomatch z)
  exact q _ _ _ n (.tup (.inl (.inl upd_same)) (r.mono n.w))
theorem rx_lst {W H : Hp} {vs : List V} {ds : List D} (w : Wd c W H) (r : Reps c.K W vs ds) : RX c (Rep c.K) (fun H Q => ∀ p, H p = none → Q (.ref p) (upd H p (.lst vs))) W H (.lst ds) := fun Q q p hp => by
  have n := Nw.new (o := .lst vs) w.ex w.nt w.tb hp (fun _ z => nomatch z)
  exact q _ _ _ n (.lst upd_same (r.mono n.w))
theorem se_tup {t : TA} {ms : MM (List D)} (h : SA c t ms) : SE c (tTup t) (bnd ms fun ds => lft (mTup ds)) := by
  intro ρ rr e s σ hs Q q
  refine sx_go (t := t) h e hs q fun xs ds ρ s e hs rx q tr => ?_
  obtain ⟨d, e3, rfl⟩ := lft_cases e
  obtain ⟨hl, rfl⟩ := mTup_some e3
  exact ⟨cap_le (by rw [rx.length]; exact hl), rx_tup hs.wd rx _ (post_nw hs q)⟩
theorem se_lst {t : TA} {ms : MM (List D)} (h : SA c t ms) : SE c (tLst t) (bnd ms fun ds => lft (mLst ds)) := by
  intro ρ rr e s σ hs Q q
  refine sx_go (t := t) h e hs q fun xs ds ρ s e hs rx q tr => ?_
  obtain ⟨d, e3, rfl⟩ := lft_cases e
  obtain ⟨hl, rfl⟩ := mLst_some e3
  exact ⟨cap_le (by rw [rx.length]; exact hl), rx_lst hs.wd rx _ (post_nw hs q)⟩

/-! ### tests -/
def asB : D → Option Bool
  | .bl b => some b
  | _ => none
theorem st_val {te : TE} {m : MM D} (h : SE c te m) : ST c (tB te) (bnd m fun d => lft (asB d)) := by
  intro ρ rr e s σ hs Q q
  refine sx_go (t := te) h e hs q fun x a ρ s e hs rx q tr => ?_
  obtain ⟨b, e3, rfl⟩ := lft_cases e
  cases a <;> cases e3
  cases rx
  exact ⟨_, rfl, q _ s hs .refl rfl⟩
theorem st_test {te : TE} {m : MM D} (h : SE c te m) : ST c (tTest te) (bnd m fun d => lft (asB d)) := by
  intro ρ rr e s σ hs Q q
  refine sx_go (t := te) h e hs q fun x a ρ s e hs rx q tr => ?_
  obtain ⟨b, e3, rfl⟩ := lft_cases e
  cases a <;> cases e3
  cases rx
  exact ⟨_, rfl, q _ s hs .refl rfl⟩
theorem st_and {t u : TT} {m n : MM Bool} (h : ST c t m) (k : ST c u n) : ST c (tAnd t u) (bnd m fun a => if a = true then n else ret false) := by
  intro ρ rr e s σ hs Q q
  refine sx_go (t := t) h e hs q fun x a ρ s e hs rx q tr => ?_
  subst rx
  cases x with
  | true => exact k ρ _ e s σ hs Q q
  | false => cases e; exact q false s hs .refl rfl
theorem st_or {t u : TT} {m n : MM Bool} (h : ST c t m) (k : ST c u n) : ST c (tOr t u) (bnd m fun a => if a = true then ret true else n) := by
  intro ρ rr e s σ hs Q q
  refine sx_go (t := t) h e hs q fun x a ρ s e hs rx q tr => ?_
  subst rx
  cases x with
  | true => cases e; exact q true s hs .refl rfl
  | false => exact k ρ _ e s σ hs Q q
theorem st_not {t : TT} {m : MM Bool} (h : ST c t m) : ST c (tNot t) (bnd m fun a => ret (!a)) := by
  intro ρ rr e s σ hs Q q
  refine sx_go (t := t) h e hs q fun x a ρ s e hs rx q tr => ?_
  subst rx
  cases e
  exact q _ s hs .refl rfl
theorem se_and {ta tb : TE} {m n : MM D} (h : SE c ta m) (k : SE c tb n) : SE c (tAndV ta tb) (bnd m fun a => bnd (lft (asB a)) fun b => if b = true then n else ret (.bl false)) := by
  intro ρ rr e s σ hs Q q
  refine sx_go (t := ta) h e hs q fun x a ρ s e hs rx q tr => ?_
  cases a <;> try (cases e; done)
  rename_i b
  cases rx
  refine ⟨b, rfl, ?_⟩
  cases b with
  | true => exact k ρ _ e s σ hs Q q
  | false => cases e; exact q _ s hs .refl (.bl _)
theorem se_or {ta tb : TE} {m n : MM D} (h : SE c ta m) (k : SE c tb n) : SE c (tOrV ta tb) (bnd m fun a => bnd (lft (asB a)) fun b => if b = true then ret (.bl true) else n) := by
  intro ρ rr e s σ hs Q q
  refine sx_go (t := ta) h e hs q fun x a ρ s e hs rx q tr => ?_
  cases a <;> try (cases e; done)
  rename_i b
  cases rx
  refine ⟨b, rfl, ?_⟩
  cases b with
  | true => cases e; exact q _ s hs .refl (.bl _)
  | false => exact k ρ _ e s σ hs Q q
theorem se_not {ta : TE} {m : MM D} (h : SE c ta m) : SE c (tNotV ta) (bnd m fun a => bnd (lft (asB a)) fun b => ret (.bl (!b))) := by
  intro ρ rr e s σ hs Q q
  refine sx_go (t := ta) h e hs q fun x a ρ s e hs rx q tr => ?_
  cases a <;> try (cases e; done)
  rename_i b
  cases rx
  cases e
  exact ⟨b, rfl, q _ s hs .refl (.bl _)⟩
theorem se_if {t : TT} {ta tb : TE} {m : MM Bool} {ma mb : MM D} (h : ST c t m) (ha : SE c ta ma) (hb : SE c tb mb) : SE c (tIf t ta tb) (bnd m fun a => if a = true then ma else mb) := by
  intro ρ rr e s σ hs Q q
  refine sx_go (t := t) h e hs q fun x a ρ s e hs rx q tr => ?_
  subst rx
  cases x with
  | true => exact ha ρ _ e s σ hs Q q
  | false => exact hb ρ _ e s σ hs Q q
end
end PD
end
section
set_option maxHeartbeats 0
namespace PD
open PySem L2

/-! ### statements -/
inductive Out where
  | nx (ρ : Env) | rt (d : D) (ρ : Env) | bk (ρ : Env) | ct (ρ : Env) | er (x : Str) (ρ : Env)
abbrev MS := Env → Option Out
section
variable (c : Cc)
def PostS (E : Ends) (s : Ws) : Out → Prop
  | .nx ρ => ∀ s' σ', SR c.K c.tb ρ s' σ' → Tr c.P s s' → E.nx σ' s'.H
  | .rt d ρ => ∀ v s' σ', SR c.K c.tb ρ s' σ' → Tr c.P s s' → Rep c.K s'.W v d → E.rt v s'.H
  | .bk ρ => ∀ s' σ', SR c.K c.tb ρ s' σ' → Tr c.P s s' → E.bk σ' s'.H
  | .ct ρ => ∀ s' σ', SR c.K c.tb ρ s' σ' → Tr c.P s s' → E.ct σ' s'.H
  | .er x ρ => ∀ s' σ', SR c.K c.tb ρ s' σ' → Tr c.P s s' → c.xw x σ' s'.H
def SS (t : TS) (m : MS) : Prop := ∀ ρ o, m ρ = some o → ∀ s σ, SR c.K c.tb ρ s σ → ∀ E : Ends, PostS c E s o → t E σ s.H
/-- a target -/
def SG (g : TG) (m : D → Env → Option Env) : Prop := ∀ d ρ ρ', m d ρ = some ρ' → ∀ v s σ, SR c.K c.tb ρ s σ → Rep c.K s.W v d → ∀ Q : L2.St → Hp → Prop, (∀ s' σ', SR c.K c.tb ρ' s' σ' → Tr c.P s s' → Q σ' s'.H) → g v σ s.H Q
def SGs (g : TGs) (m : List D → Env → Option Env) : Prop := ∀ ds ρ ρ', m ds ρ = some ρ' → ∀ vs s σ, SR c.K c.tb ρ s σ → Reps c.K s.W vs ds → ∀ Q : L2.St → Hp → Prop, (∀ s' σ', SR c.K c.tb ρ' s' σ' → Tr c.P s s' → Q σ' s'.H) → g vs σ s.H Q
end
section
variable {c : Cc}
theorem PostS.after {E : Ends} {s s1 : Ws} {o : Out} (h : PostS c E s o) (t : Tr c.P s s1) : PostS c E s1 o := by
  cases o with
  | nx ρ => exact fun s' σ' a b => h s' σ' a (t.trans b)
  | rt d ρ => exact fun v s' σ' a b => h v s' σ' a (t.trans b)
  | bk ρ => exact fun s' σ' a b => h s' σ' a (t.trans b)
  | ct ρ => exact fun s' σ' a b => h s' σ' a (t.trans b)
  | er x ρ => exact fun s' σ' a b => h s' σ' a (t.trans b)
/-- the end of an expression in a statement -/
def mE {α : Type} (m : MM α) (f : α → MS) : MS := fun ρ => match m ρ with
  | some (.ok a ρ') => f a ρ'
  | some (.er x ρ') => some (.er x ρ')
  | none => none
theorem mE_cases {α : Type} {m : MM α} {f : α → MS} {ρ : Env} {o : Out} (h : mE m f ρ = some o) : (∃ a ρ', m ρ = some (.ok a ρ') ∧ f a ρ' = some o) ∨ (∃ x ρ', m ρ = some (.er x ρ') ∧ o = .er x ρ') := by
  unfold mE at h
  split at h
  · rename_i a ρ' e; exact .inl ⟨a, ρ', e, h⟩
  · rename_i x ρ' e; exact .inr ⟨x, ρ', e, (Option.some.inj h).symm⟩
  · cases h
theorem mE_ok {α : Type} {m : MM α} {f : α → MS} {ρ ρ' : Env} {a : α} (h : m ρ = some (.ok a ρ')) : mE m f ρ = f a ρ' := by unfold mE; rw [h]
theorem ss_go {τ δ : Type} {rep : Hp → τ → δ → Prop} {t : TX τ} {m : MM δ} {f : δ → MS} {ρ : Env} {o : Out} {s : Ws} {σ : L2.St} {E : Ends} {R : τ → Hp → Prop} (h : Sx c rep t m) (e : mE m f ρ = some o) (hs : SR c.K c.tb ρ s σ)
    (q : PostS c E s o) (hk : ∀ v d ρ' s', f d ρ' = some o → SR c.K c.tb ρ' s' σ → rep s'.W v d → PostS c E s' o → Tr c.P s s' → R v s'.H) : t σ s.H R := by
  rcases mE_cases e with ⟨d, ρ', e1, e2⟩ | ⟨x, ρ', e1, rfl⟩
  · exact h ρ _ e1 s σ hs _ fun v s' a b kk => hk v d ρ' s' e2 a kk (q.after b) b
  · exact h ρ _ e1 s σ hs _ fun s' a b => q s' σ a b

def mNext : MS := fun ρ => some (.nx ρ)
theorem ss_next : SS c tNext mNext := by
  intro ρ o e s σ hs E q
  cases e
  exact q s σ hs .refl
def mSeq (m n : MS) : MS := fun ρ => match m ρ with
  | some (.nx ρ') => n ρ'
  | o => o
theorem mSeq_nx {m n : MS} {ρ ρ' : Env} (h : m ρ = some (.nx ρ')) : mSeq m n ρ = n ρ' := by unfold mSeq; rw [h]
theorem ss_seq {t u : TS} {m n : MS} (h : SS c t m) (k : SS c u n) : SS c (tSeq t u) (mSeq m n) := by
  intro ρ o e s σ hs E q
  unfold mSeq at e
  split at e
  · rename_i ρ' e1
    exact h ρ _ e1 s σ hs _ fun s' σ' a b => k ρ' o e s' σ' a E (q.after b)
  · rename_i e1
    refine h ρ _ e s σ hs _ ?_
    cases o with
    | nx ρ' => exact absurd e (e1 ρ')
    | rt d ρ' => exact q
    | bk ρ' => exact q
    | ct ρ' => exact q
    | er x ρ' => exact q
def mIf (t : MM Bool) (m n : MS) : MS := mE t fun b => if b = true then m else n
theorem ss_if {tc : TT} {t u : TS} {mt : MM Bool} {m n : MS} (h : ST c tc mt) (k1 : SS c t m) (k2 : SS c u n) : SS c (tIfS tc t u) (mIf mt m n) := by
  intro ρ o e s σ hs E q
  refine ss_go (t := tc) h e hs q fun b d ρ s e hs rx q tr => ?_
  subst rx
  cases b with
  | true => exact k1 ρ o e s σ hs E q
  | false => exact k2 ρ o e s σ hs E q
def mRet (m : MM D) : MS := mE m fun d ρ => some (.rt d ρ)
theorem ss_ret {te : TE} {m : MM D} (h : SE c te m) : SS c (tRet te) (mRet m) := by
  intro ρ o e s σ hs E q
  refine ss_go (t := te) h e hs q fun v d ρ s e hs rx q tr => ?_
  cases e
  exact q v s σ hs .refl rx
def mRetN : MS := fun ρ => some (.rt .non ρ)
theorem ss_retN : SS c tRetN mRetN := by
  intro ρ o e s σ hs E q
  cases e
  exact q _ s σ hs .refl .non
def mDrop {α : Type} (m : MM α) : MS := mE m fun _ ρ => some (.nx ρ)
theorem ss_drop {te : TE} {m : MM D} (h : SE c te m) : SS c (tDrop te) (mDrop m) := by
  intro ρ o e s σ hs E q
  refine ss_go (t := te) h e hs q fun v d ρ s e hs rx q tr => ?_
  cases e
  exact q s σ hs .refl
def mBreak : MS := fun ρ => some (.bk ρ)
def mCont : MS := fun ρ => some (.ct ρ)
theorem ss_break : SS c tBreak mBreak := by
  intro ρ o e s σ hs E q
  cases e
  exact q s σ hs .refl
theorem ss_cont : SS c tCont mCont := by
  intro ρ o e s σ hs E q
  cases e
  exact q s σ hs .refl
def mNever : MS := fun _ => none
theorem ss_never : SS c tNever mNever := by
  intro ρ o e
  cases e

/-! ### stores -/
def setD (i : Nat) (d : D) (ρ : Env) : Option Env := if i < ρ.length then some (ρ.set i (.dat d)) else none
theorem getElem_set {α : Type} {l : List α} {i j : Nat} {a b : α} (h : (l.set i a)[j]? = some b) : (j = i ∧ b = a ∧ i < l.length) ∨ (j ≠ i ∧ l[j]? = some b) := by
  by_cases e : j = i
  · subst e
    have hl := (List.getElem?_eq_some_iff.mp h).1
    rw [List.length_set] at hl
    rw [List.getElem?_set_self hl] at h
    exact .inl ⟨rfl, (Option.some.inj h).symm, hl⟩
  · rw [List.getElem?_set_ne (Ne.symm e)] at h
    exact .inr ⟨e, h⟩
theorem setV_self {σ : L2.St} {i : Nat} {o : Option V} (h : i < σ.length) : (((σ.set i o)[i]?).getD none) = o := by rw [List.getElem?_set_self h]; rfl
theorem setV_ne {σ : L2.St} {i j : Nat} {o : Option V} (h : j ≠ i) : (σ.set i o)[j]? = σ[j]? := List.getElem?_set_ne (Ne.symm h)
/-- what slot i held is let go; the heap, what is known stay -/
theorem SR.letgo {ρ : Env} {s : Ws} {σ : L2.St} {i : Nat} {ov : Option V} {l : Loc} {oa : Option Addr} (h : SR c.K c.tb ρ s σ) (hi : i < ρ.length) (hl : LocOk c.K s.W s.H ov oa l) (hn : ∀ p, oa = some p → ∀ j, s.A j ≠ some p) :
    SR c.K c.tb (ρ.set i l) ⟨s.W, s.H, updA s.A i oa⟩ (σ.set i ov) := by
  refine ⟨by rw [List.length_set, List.length_set]; exact h.len, fun j k e => ?_, fun j hj => ?_, fun j k p a b => ?_, h.ex, h.nt, h.tb⟩
  · rcases getElem_set e with ⟨rfl, rfl, _⟩ | ⟨hj, e⟩
    · show LocOk c.K s.W s.H _ (updA s.A j oa j) k
      rw [updA_same, setV_self (by rw [h.len]; exact hi)]
      exact hl
    · show LocOk c.K s.W s.H _ (updA s.A i oa j) k
      rw [updA_ne hj, setV_ne hj]
      exact h.loc j k e
  · rw [List.length_set] at hj
    show updA s.A i oa j = none
    rw [updA_ne (by omega)]
    exact h.out j hj
  · have a' : updA s.A i oa j = some p := a
    have b' : updA s.A i oa k = some p := b
    by_cases hj : j = i
    · by_cases hk : k = i
      · rw [hj, hk]
      · rw [hj, updA_same] at a'
        rw [updA_ne hk] at b'
        exact absurd b' (hn p a' k)
    · by_cases hk : k = i
      · rw [hk, updA_same] at b'
        rw [updA_ne hj] at a'
        exact absurd a' (hn p b' j)
      · rw [updA_ne hj] at a'
        rw [updA_ne hk] at b'
        exact h.inj j k p a' b'
theorem tr_letgo {s : Ws} {i : Nat} {oa : Option Addr} (hP : c.P i = false) (hn : ∀ p, oa = some p → s.H p = none ∨ OwnsA s p) : Tr c.P s ⟨s.W, s.H, updA s.A i oa⟩ := by
  refine ⟨Ex.refl _, fun _ _ _ h => h, fun _ _ _ h _ => h, fun a ⟨j, hj⟩ => ?_, fun _ h => h, fun j hj => ?_⟩
  · have hj' : updA s.A i oa j = some a := hj
    by_cases e : j = i
    · rw [e, updA_same] at hj'
      exact (hn a hj').symm
    · rw [updA_ne e] at hj'
      exact .inl ⟨j, hj'⟩
  · exact updA_ne fun z => by rw [z, hP] at hj; cases hj
theorem SR.put {ρ : Env} {s : Ws} {σ : L2.St} {i : Nat} {v : V} {d : D} (h : SR c.K c.tb ρ s σ) (hi : i < ρ.length) (hP : c.P i = false) (r : Rep c.K s.W v d) :
    ∃ s', SR c.K c.tb (ρ.set i (.dat d)) s' (σ.set i (some v)) ∧ Tr c.P s s' ∧ s'.H = s.H ∧ s'.W = s.W :=
  ⟨_, h.letgo (l := .dat d) hi ⟨rfl, v, rfl, r⟩ (fun _ z => nomatch z), tr_letgo hP (fun _ z => nomatch z), rfl, rfl⟩
theorem sg_name {i : Nat} (hP : c.P i = false) : SG c (gName i) (setD i) := by
  intro d ρ ρ' e v s σ hs r Q q
  unfold setD at e
  split at e
  · rename_i hi
    cases e
    obtain ⟨s', h1, h2, h3, _⟩ := hs.put hi hP r
    have z := q s' _ h1 h2
    rw [h3] at z
    exact z
  · cases e
def setNil : List D → Env → Option Env
  | [], ρ => some ρ
  | _ :: _, _ => none
def setCons (g : D → Env → Option Env) (gs : List D → Env → Option Env) : List D → Env → Option Env
  | d :: ds, ρ => (g d ρ).bind (gs ds)
  | [], _ => none
theorem sgs_nil : SGs c gNil setNil := by
  intro ds ρ ρ' e vs s σ hs r Q q
  cases ds with
  | cons d ds => cases e
  | nil =>
    cases e
    cases r
    exact ⟨rfl, q s σ hs .refl⟩
theorem sgs_cons {t : TG} {u : TGs} {m : D → Env → Option Env} {n : List D → Env → Option Env} (h : SG c t m) (k : SGs c u n) : SGs c (gCons t u) (setCons m n) := by
  intro ds ρ ρ' e vs s σ hs r Q q
  cases ds with
  | nil => cases e
  | cons d ds =>
    obtain ⟨ρ1, e1, e2⟩ := Option.bind_eq_some_iff.mp e
    cases r with
    | cons r rr => exact ⟨_, _, rfl, h d ρ ρ1 e1 _ s σ hs r _ fun s' σ' a b => k ds ρ1 ρ' e2 _ s' σ' a (rr.mono b.w) _ fun s2 σ2 a2 b2 => q s2 σ2 a2 (b.trans b2)⟩
def setTup (n : Nat) (g : List D → Env → Option Env) : D → Env → Option Env
  | .tup ds, ρ => if ds.length = n then g ds ρ else none
  | _, _ => none
theorem sg_tup {n : Nat} {t : TGs} {m : List D → Env → Option Env} (h : SGs c t m) : SG c (gTup c.K n t) (setTup n m) := by
  intro d ρ ρ' e v s σ hs r Q q
  cases d <;> try (cases e; done)
  rename_i ds
  have e : (if ds.length = n then m ds ρ else none) = some ρ' := e
  split at e
  · rename_i hn
    cases r with
    | tup hq rr => exact ⟨_, _, rfl, hs.ex.st hq, by rw [rr.length]; exact hn, h ds ρ ρ' e _ s σ hs rr Q q⟩
  · cases e
def mAsg (m : MM D) (g : D → Env → Option Env) : MS := mE m fun d ρ => (g d ρ).map .nx
theorem ss_asg {te : TE} {g : TG} {m : MM D} {mg : D → Env → Option Env} (h : SE c te m) (k : SG c g mg) : SS c (tAsg te g) (mAsg m mg) := by
  intro ρ o e s σ hs E q
  refine ss_go (t := te) h e hs q fun v d ρ s e hs rx q tr => ?_
  obtain ⟨ρ', e1, rfl⟩ := Option.map_eq_some_iff.mp e
  exact k d ρ ρ' e1 v s σ hs rx _ q
/-- x, y = a, b -/
def mPar (i j : Nat) (m : MM (List D)) : MS := mE m fun ds ρ => match ds with
  | [a, b] => ((setD i a ρ).bind (setD j b)).map .nx
  | _ => none
theorem ss_par {i j : Nat} {ta : TA} {m : MM (List D)} (hi : c.P i = false) (hj : c.P j = false) (h : SA c ta m) : SS c (tPar i j ta) (mPar i j m) := by
  intro ρ o e s σ hs E q
  refine ss_go (t := ta) h e hs q fun vs ds ρ s e hs rx q tr => ?_
  cases rx with
  | nil => cases e
  | cons r1 rx =>
    cases rx with
    | nil => cases e
    | cons r2 rx =>
      cases rx with
      | cons _ _ => cases e
      | nil =>
        obtain ⟨ρ', e1, rfl⟩ := Option.map_eq_some_iff.mp e
        obtain ⟨ρ1, e1, e2⟩ := Option.bind_eq_some_iff.mp e1
        refine ⟨_, _, rfl, ?_⟩
        exact sg_name (c := c) hi _ ρ ρ1 e1 _ s σ hs r1 (fun σ' H' => E.nx (σ'.set j (some _)) H') fun s1 σ1 a b => sg_name (c := c) hj _ ρ1 ρ' e2 _ s1 σ1 a (r2.mono b.w) _ fun s2 σ2 a2 b2 => q s2 σ2 a2 (b.trans b2)
def mPar3 (i j l : Nat) (m : MM (List D)) : MS := mE m fun ds ρ => match ds with
  | [a, b, d] => (((setD i a ρ).bind (setD j b)).bind (setD l d)).map .nx
  | _ => none
/-- x op= e -/
def mAug (i : Nat) (op : D → D → Option D) (m : MM D) : MS := mE (bnd (rdD i) fun a => bnd m fun b => lft (op a b)) fun d ρ => (setD i d ρ).map .nx
def RIp (c : Cc) (r : TIp) (op : D → D → Option D) : Prop := ROp c r op
theorem ss_aug {i : Nat} {te : TE} {ti : TIp} {op : D → D → Option D} {m : MM D} (hi : c.P i = false) (ho : ROp c ti op) (h : SE c te m) : SS c (tAug i te ti) (mAug i op m) := by
  intro ρ o e s σ hs E q
  have z : SE c (tOp ti (tVar i) te) (bnd (rdD i) fun a => bnd m fun b => lft (op a b)) := se_op ho se_varD h
  have y := ss_go (t := tOp ti (tVar i) te) (R := fun z H2 => E.nx (σ.set i (some z)) H2) z e hs q fun v d ρ s e hs rx q tr => by
    obtain ⟨ρ', e1, rfl⟩ := Option.map_eq_some_iff.mp e
    exact sg_name (c := c) hi d ρ ρ' e1 v s σ hs rx _ q
  exact y

/-! ### loops -/
def loopL (g : D → Env → Option Env) (b : MS) : List D → MS
  | [], ρ => some (.nx ρ)
  | d :: ds, ρ => match g d ρ with
    | none => none
    | some ρ1 => match b ρ1 with
      | some (.nx ρ2) => loopL g b ds ρ2
      | some (.ct ρ2) => loopL g b ds ρ2
      | some (.bk ρ2) => some (.nx ρ2)
      | some (.rt d ρ2) => some (.rt d ρ2)
      | some (.er x ρ2) => some (.er x ρ2)
      | none => none
/-- where a loop over data stands ahead of turn i -/
def LoopAt (c : Cc) (g : D → Env → Option Env) (b : MS) (ds : List D) (s : Ws) (o : Out) (i : Nat) (σ : L2.St) (H : Hp) : Prop :=
  ∃ ρ s', SR c.K c.tb ρ s' σ ∧ s'.H = H ∧ Tr c.P s s' ∧ loopL g b (ds.drop i) ρ = some o
theorem loop_turn {g : TG} {tb : TS} {mg : D → Env → Option Env} {mb : MS} {ds : List D} {s : Ws} {o : Out} {E : Ends} (hg : SG c g mg) (hb : SS c tb mb) (q : PostS c E s o) {i : Nat} {d : D} {v : V} {σ : L2.St} {H : Hp} (hd : ds[i]? = some d) (W0 : Hp) (hr : ∀ s', Tr c.P s s' → Rep c.K s'.W v d)
    (h : LoopAt c mg mb ds s o i σ H) : g v σ H fun σ2 H2 => tb { E with nx := LoopAt c mg mb ds s o (i + 1), ct := LoopAt c mg mb ds s o (i + 1), bk := E.nx } σ2 H2 := by
  obtain ⟨ρ, s1, hs, rfl, tr, e⟩ := h
  have hi := (List.getElem?_eq_some_iff.mp hd).1
  have hd2 : ds.drop i = d :: ds.drop (i + 1) := by
    rw [List.drop_eq_getElem_cons hi, (List.getElem?_eq_some_iff.mp hd).2]
  rw [hd2] at e
  unfold loopL at e
  split at e
  · cases e
  · rename_i ρ1 e1
    refine hg d ρ ρ1 e1 v s1 σ hs (hr s1 tr) _ fun s2 σ2 hs2 tr2 => ?_
    have t2 := tr.trans tr2
    split at e
    · rename_i ρ2 e2
      exact hb ρ1 _ e2 s2 σ2 hs2 _ fun s3 σ3 a b => ⟨ρ2, s3, a, rfl, t2.trans b, e⟩
    · rename_i ρ2 e2
      exact hb ρ1 _ e2 s2 σ2 hs2 _ fun s3 σ3 a b => ⟨ρ2, s3, a, rfl, t2.trans b, e⟩
    · rename_i ρ2 e2
      cases e
      exact hb ρ1 _ e2 s2 σ2 hs2 _ fun s3 σ3 a b => q s3 σ3 a (t2.trans b)
    · rename_i d' ρ2 e2
      cases e
      exact hb ρ1 _ e2 s2 σ2 hs2 _ fun v s3 σ3 a b r => q v s3 σ3 a (t2.trans b) r
    · rename_i x ρ2 e2
      cases e
      exact hb ρ1 _ e2 s2 σ2 hs2 _ fun s3 σ3 a b => q s3 σ3 a (t2.trans b)
    · cases e
theorem loop_end {mg : D → Env → Option Env} {mb : MS} {ds : List D} {s : Ws} {o : Out} {E : Ends} (q : PostS c E s o) {σ : L2.St} {H : Hp} (h : LoopAt c mg mb ds s o ds.length σ H) : E.nx σ H := by
  obtain ⟨ρ, s1, hs, rfl, tr, e⟩ := h
  rw [List.drop_length] at e
  cases e
  exact q s1 σ hs tr
/-- what is walked -/
def elems : D → Option (List D)
  | .tup ds => some ds
  | .lst ds => some ds
  | _ => none
def mFor (m : MM D) (g : D → Env → Option Env) (b : MS) : MS := mE m fun d => match elems d with
  | some ds => loopL g b ds
  | none => fun _ => none
theorem ss_forL {tl : TE} {g : TG} {tb : TS} {m : MM D} {mg : D → Env → Option Env} {mb : MS} (h : SE c tl m) (hg : SG c g mg) (hb : SS c tb mb) : SS c (tFor (fun σ H R => tl σ H fun x H1 => ∃ a, x = .ref a ∧ (((∃ xs, SqL c.K H1 a xs) ∧ R (Itl c.K a) H1) ∨ ((∃ xs, SqT c.K H1 a xs) ∧ R (Itt c.K a) H1))) g tb) (mFor m mg mb) := by
  intro ρ o e s σ hs E q
  refine ss_go (t := tl) h e hs q fun v d ρ s e hs rx q tr => ?_
  cases d <;> try (cases e; done)
  · rename_i ds
    cases rx with
    | @tup a vs _ hq rr =>
      have e' : loopL mg mb ds ρ = some o := e
      refine ⟨a, rfl, .inr ⟨⟨vs, hs.ex.st hq⟩, for_tup (K := c.K) (a := a) (xs := vs) (LoopAt c mg mb ds s o) ⟨ρ, s, hs, rfl, .refl, e'⟩ (fun i σ H _ ⟨ρ', s', hs', eH, tr', _⟩ => eH ▸ hs'.ex.st (tr'.w.st hq)) (fun i x σ H hx hp => ?_) fun σ H hp => ?_⟩⟩
      · obtain ⟨d, hd, rd'⟩ := rr.get hx
        exact loop_turn hg hb q hd s.W (fun s' t => rd'.mono t.w) hp
      · rw [rr.length] at hp
        exact loop_end q hp
  · rename_i ds
    cases rx with
    | @lst a vs _ hq rr =>
      have e' : loopL mg mb ds ρ = some o := e
      have hq' : SqL c.K s.W a vs := .inl (.inl hq)
      refine ⟨a, rfl, .inl ⟨⟨vs, hs.ex.sl hq'⟩, for_list (K := c.K) (a := a) (xs := vs) (LoopAt c mg mb ds s o) ⟨ρ, s, hs, rfl, .refl, e'⟩ (fun i σ H _ ⟨ρ', s', hs', eH, tr', _⟩ => eH ▸ hs'.ex.sl (tr'.w.sl hq')) (fun i x σ H hx hp => ?_) fun σ H hp => ?_⟩⟩
      · obtain ⟨d, hd, rd'⟩ := rr.get hx
        exact loop_turn hg hb q hd s.W (fun s' t => rd'.mono t.w) hp
      · rw [rr.length] at hp
        exact loop_end q hp
def rangeD (lo : Int) (n : Nat) : List D := (List.range n).map fun (i : Nat) => .int (lo + (i : Int))
theorem rangeD_get {lo : Int} {n i : Nat} (h : i < n) : (rangeD lo n)[i]? = some (.int (lo + (i : Int))) := by
  unfold rangeD
  rw [List.getElem?_map, List.getElem?_range h]
  rfl
theorem rangeD_len {lo : Int} {n : Nat} : (rangeD lo n).length = n := by unfold rangeD; rw [List.length_map, List.length_range]
/-- the ints of a range, within the bounds that the rules ask -/
def rgOk (i : Int) : Bool := decide (-(2 ^ 62) ≤ i) && decide (i < 2 ^ 62)
theorem rgOk_of {i : Int} (h : rgOk i = true) : -(2 ^ 62) ≤ i ∧ i < 2 ^ 62 := by
  unfold rgOk at h
  rw [Bool.and_eq_true] at h
  exact ⟨of_decide_eq_true h.1, of_decide_eq_true h.2⟩
def rg1 : List D → Option (List D)
  | [.int j] => if rgOk j = true then some (rangeD 0 j.toNat) else none
  | _ => none
def rg2 : List D → Option (List D)
  | [.int i, .int j] => if rgOk i = true ∧ rgOk j = true then some (rangeD i (j - i).toNat) else none
  | _ => none
def mForR (rg : List D → Option (List D)) (m : MM (List D)) (g : D → Env → Option Env) (b : MS) : MS := mE m fun ds => match rg ds with
  | some ds => loopL g b ds
  | none => fun _ => none
theorem for_rg {g : TG} {tb : TS} {mg : D → Env → Option Env} {mb : MS} {lo : Int} {n : Nat} {s : Ws} {o : Out} {E : Ends} {ρ : Env} {σ : L2.St} (hg : SG c g mg) (hb : SS c tb mb) (hs : SR c.K c.tb ρ s σ) (q : PostS c E s o) (e : loopL mg mb (rangeD lo n) ρ = some o) :
    ∃ W : Nat → Nat → L2.St → Hp → Prop, (∃ m, W 0 m σ s.H) ∧ ∀ i m σ H, W i m σ H →
      ((Itr lo n).stop i H ∧ E.nx σ H) ∨ ((Itr lo n).go i H ∧ ∃ N : L2.St → Hp → Prop, (∀ σ' H', N σ' H' → ∃ m', m' < m ∧ W (i + 1) m' σ' H') ∧ ∀ x H', (Itr lo n).yld i H x H' → g x σ H' fun σ2 H2 => tb { E with nx := N, ct := N, bk := E.nx } σ2 H2) :=
  for_range (lo := lo) (n := n) (LoopAt c mg mb (rangeD lo n) s o) ⟨ρ, s, hs, rfl, .refl, e⟩ (fun i σ H hi hp => loop_turn hg hb q (rangeD_get hi) s.W (fun s' _ => .int _) hp) fun σ H hp => loop_end q (by rw [rangeD_len]; exact hp)
theorem ss_for1 {ta : TA} {g : TG} {tb : TS} {m : MM (List D)} {mg : D → Env → Option Env} {mb : MS} (h : SA c ta m) (hg : SG c g mg) (hb : SS c tb mb) : SS c (tFor (iRng1 ta) g tb) (mForR rg1 m mg mb) := by
  intro ρ o e s σ hs E q
  refine ss_go (t := ta) h e hs q fun vs ds ρ s e hs rx q tr => ?_
  cases rx with
  | nil => cases e
  | cons r1 rx =>
    cases rx with
    | cons _ _ => cases r1 <;> cases e
    | nil =>
      cases r1 <;> try (cases e; done)
      rename_i j
      by_cases hj : rgOk j = true
      · have e' : loopL mg mb (rangeD 0 j.toNat) ρ = some o := by
          have z : rg1 [.int j] = some (rangeD 0 j.toNat) := if_pos hj
          simp only [z] at e
          exact e
        exact ⟨j, rfl, (rgOk_of hj).1, (rgOk_of hj).2, for_rg hg hb hs q e'⟩
      · have z : rg1 [.int j] = none := if_neg hj
        simp only [z] at e
        cases e
theorem ss_for2 {ta : TA} {g : TG} {tb : TS} {m : MM (List D)} {mg : D → Env → Option Env} {mb : MS} (h : SA c ta m) (hg : SG c g mg) (hb : SS c tb mb) : SS c (tFor (iRng2 ta) g tb) (mForR rg2 m mg mb) := by
  intro ρ o e s σ hs E q
  refine ss_go (t := ta) h e hs q fun vs ds ρ s e hs rx q tr => ?_
  cases rx with
  | nil => cases e
  | cons r1 rx =>
    cases rx with
    | nil => cases r1 <;> cases e
    | cons r2 rx =>
      cases rx with
      | cons _ _ => cases r1 <;> cases r2 <;> cases e
      | nil =>
        cases r1 <;> try (cases e; done)
        cases r2 <;> try (cases e; done)
        rename_i i j
        by_cases hj : rgOk i = true ∧ rgOk j = true
        · have e' : loopL mg mb (rangeD i (j - i).toNat) ρ = some o := by
            have z : rg2 [.int i, .int j] = some (rangeD i (j - i).toNat) := if_pos hj
            simp only [z] at e
            exact e
          exact ⟨i, j, rfl, ⟨(rgOk_of hj.1).1, (rgOk_of hj.1).2, (rgOk_of hj.2).1, (rgOk_of hj.2).2⟩, for_rg hg hb hs q e'⟩
        · have z : rg2 [.int i, .int j] = none := if_neg hj
          simp only [z] at e
          cases e
def loopW (t : MM Bool) (b : MS) : Nat → MS
  | 0, _ => none
  | n + 1, ρ => match t ρ with
    | some (.ok true ρ1) => match b ρ1 with
      | some (.nx ρ2) => loopW t b n ρ2
      | some (.ct ρ2) => loopW t b n ρ2
      | some (.bk ρ2) => some (.nx ρ2)
      | some (.rt d ρ2) => some (.rt d ρ2)
      | some (.er x ρ2) => some (.er x ρ2)
      | none => none
    | some (.ok false ρ1) => some (.nx ρ1)
    | some (.er x ρ1) => some (.er x ρ1)
    | none => none
def mWhile (fuel : Env → Nat) (t : MM Bool) (b : MS) : MS := fun ρ => loopW t b (fuel ρ) ρ
theorem ss_while {tc : TT} {tb : TS} {mt : MM Bool} {mb : MS} {fuel : Env → Nat} (h : ST c tc mt) (hb : SS c tb mb) : SS c (tWhile tc tb) (mWhile fuel mt mb) := by
  intro ρ o e s σ hs E q
  refine ⟨fun m σ H => ∃ ρ' s', SR c.K c.tb ρ' s' σ ∧ s'.H = H ∧ Tr c.P s s' ∧ loopW mt mb m ρ' = some o, ⟨fuel ρ, ρ, s, hs, rfl, .refl, e⟩, ?_⟩
  rintro m σ H ⟨ρ1, s1, hs1, rfl, tr1, e⟩
  cases m with
  | zero => cases e
  | succ m =>
    unfold loopW at e
    split at e
    · rename_i ρ2 e2
      refine h ρ1 _ e2 s1 σ hs1 _ fun b s2 hs2 tr2 hb' => ?_
      subst hb'
      refine ⟨fun σ H => ∃ ρ' s', SR c.K c.tb ρ' s' σ ∧ s'.H = H ∧ Tr c.P s s' ∧ loopW mt mb m ρ' = some o, fun σ' H' z => ⟨m, Nat.lt_succ_self m, z⟩, ?_⟩
      have t2 := tr1.trans tr2
      split at e
      · rename_i ρ3 e3
        exact hb ρ2 _ e3 s2 σ hs2 _ fun s3 σ3 a b => ⟨ρ3, s3, a, rfl, t2.trans b, e⟩
      · rename_i ρ3 e3
        exact hb ρ2 _ e3 s2 σ hs2 _ fun s3 σ3 a b => ⟨ρ3, s3, a, rfl, t2.trans b, e⟩
      · rename_i ρ3 e3
        cases e
        exact hb ρ2 _ e3 s2 σ hs2 _ fun s3 σ3 a b => q s3 σ3 a (t2.trans b)
      · rename_i d' ρ3 e3
        cases e
        exact hb ρ2 _ e3 s2 σ hs2 _ fun v s3 σ3 a b r => q v s3 σ3 a (t2.trans b) r
      · rename_i x ρ3 e3
        cases e
        exact hb ρ2 _ e3 s2 σ hs2 _ fun s3 σ3 a b => q s3 σ3 a (t2.trans b)
      · cases e
    · rename_i ρ2 e2
      cases e
      refine h ρ1 _ e2 s1 σ hs1 _ fun b s2 hs2 tr2 hb' => ?_
      subst hb'
      exact q s2 σ hs2 (tr1.trans tr2)
    · rename_i x ρ2 e2
      cases e
      exact h ρ1 _ e2 s1 σ hs1 _ fun s2 hs2 tr2 => q s2 σ hs2 (tr1.trans tr2)
    · cases e
end
end PD
end
section
set_option maxHeartbeats 0
namespace PD
open PySem L2
section
variable {c : Cc}
theorem SR.there {ρ : Env} {s : Ws} {σ : L2.St} {i : Nat} {p : Addr} (h : SR c.K c.tb ρ s σ) (e : s.A i = some p) : ∃ u, s.H p = some u ∧ NTbl u := by
  by_cases hi : i < ρ.length
  · have q := h.loc i ρ[i] (List.getElem?_eq_getElem hi)
    revert q
    cases ρ[i] with
    | non => intro q; rw [show s.A i = none from q] at e; cases e
    | dat d => intro q; rw [q.1] at e; cases e
    | own o => rintro ⟨p', h1, _, _, h4⟩; rw [h1] at e; cases e; exact h4.there
    | pin o => rintro ⟨p', h1, _, _, h4⟩; rw [h1] at e; cases e; exact h4.there
  · rw [h.out i (by omega)] at e; cases e
theorem SR.free {ρ : Env} {s : Ws} {σ : L2.St} {p : Addr} (h : SR c.K c.tb ρ s σ) (e : s.H p = none) : ¬ OwnsA s p := fun ⟨i, hi⟩ => by
  obtain ⟨u, hu, _⟩ := h.there hi
  rw [e] at hu; cases hu
theorem SR.wfree {ρ : Env} {s : Ws} {σ : L2.St} {p : Addr} (h : SR c.K c.tb ρ s σ) (e : s.H p = none) : s.W p = none := by
  cases q : s.W p with
  | none => rfl
  | some u => rw [h.ex p u q] at e; cases e

/-! ### what is made anew, for a slot's own -/
section
variable (c)
def PostF (s : Ws) (σ : L2.St) (Q : VK) : Res Own → Prop
  | .ok o ρ' => ∀ p s', SR c.K c.tb ρ' s' σ → Tr c.P s s' → s.H p = none → s'.W p = none → ¬ OwnsA s' p → OwnOk c.K s'.W s'.H p o → Q (.ref p) s'.H
  | .er x ρ' => ∀ s', SR c.K c.tb ρ' s' σ → Tr c.P s s' → c.xw x σ s'.H
def SF (te : TE) (m : MM Own) : Prop := ∀ ρ r, m ρ = some r → ∀ s σ, SR c.K c.tb ρ s σ → ∀ Q, PostF c s σ Q r → te σ s.H Q
end
theorem PostF.after {s s1 : Ws} {σ : L2.St} {Q : VK} {r : Res Own} (h : PostF c s σ Q r) (t : Tr c.P s s1) : PostF c s1 σ Q r := by
  cases r with
  | ok d ρ' => exact fun p s' a b hp k1 k2 k3 => h p s' a (t.trans b) (by
      cases e : s.H p with
      | none => rfl
      | some u => exact absurd hp (t.p p (by rw [e]; exact fun z => nomatch z))) k1 k2 k3
  | er x ρ' => exact fun s' a b => h s' a (t.trans b)
theorem sf_go {τ δ : Type} {rep : Hp → τ → δ → Prop} {t : TX τ} {m : MM δ} {f : δ → MM Own} {ρ : Env} {r : Res Own} {s : Ws} {σ : L2.St} {Q2 : VK} {R : τ → Hp → Prop} (h : Sx c rep t m) (e : bnd m f ρ = some r) (hs : SR c.K c.tb ρ s σ)
    (q : PostF c s σ Q2 r) (hk : ∀ v d ρ' s', f d ρ' = some r → SR c.K c.tb ρ' s' σ → rep s'.W v d → PostF c s' σ Q2 r → Tr c.P s s' → R v s'.H) : t σ s.H R := by
  rcases bnd_cases e with ⟨d, ρ', e1, e2⟩ | ⟨x, ρ', e1, rfl⟩
  · exact h ρ _ e1 s σ hs _ fun v s' a b kk => hk v d ρ' s' e2 a kk (q.after b) b
  · exact h ρ _ e1 s σ hs _ fun s' a b => q s' a b
theorem post_own {ρ : Env} {s : Ws} {σ : L2.St} {Q : VK} {vs : List V} {ds : List D} (hs : SR c.K c.tb ρ s σ) (q : PostF c s σ Q (.ok (.lst ds) ρ)) (r : Reps c.K s.W vs ds) : ∀ p, s.H p = none → Q (.ref p) (upd s.H p (.lst vs)) := fun p hp => by
  have n := Nw.own (p := p) (o := .lst vs) hs.ex hs.nt hs.tb hp
  exact q p _ (hs.nw n) (.nw n) hp (hs.wfree hp) (fun ⟨i, hi⟩ => hs.free hp ⟨i, hi⟩) ⟨vs, upd_same, r⟩
/-- a list made by values -/
def ROwn2 (c : Cc) (r : R2) (op : D → D → Option (List D)) : Prop := ∀ W H x y a b ds, Wd c W H → Rep c.K W x a → Rep c.K W y b → op a b = some ds → ∀ Q : VK, (∀ vs, Reps c.K W vs ds → (∀ p, H p = none → Q (.ref p) (upd H p (.lst vs))) → r x y H Q) ∧ ∃ vs, Reps c.K W vs ds
theorem sf_lst {t : TA} {ms : MM (List D)} (h : SA c t ms) : SF c (tLst t) (bnd ms fun ds => lft (if ds.length ≤ cap then some (.lst ds) else none)) := by
  intro ρ r e s σ hs Q q
  refine sf_go (t := t) h e hs q fun xs ds ρ s e hs rx q tr => ?_
  obtain ⟨d, e3, rfl⟩ := lft_cases e
  split at e3
  · rename_i hl
    cases e3
    exact ⟨cap_le (by rw [rx.length]; exact hl), post_own hs q rx⟩
  · cases e3
/-- a value, then a new list of it -/
theorem sf_un {r : V → Hp → VK → Prop} {op : D → Option (List D)} {ta : TE} {ma : MM D} (ho : ∀ W H x a ds, Wd c W H → Rep c.K W x a → op a = some ds → ∃ vs, Reps c.K W vs ds ∧ ∀ Q : VK, (∀ p, H p = none → Q (.ref p) (upd H p (.lst vs))) → r x H Q) (ha : SE c ta ma) :
    SF c (fun σ H Q => ta σ H fun x H1 => r x H1 Q) (bnd ma fun a => lft ((op a).map .lst)) := by
  intro ρ rr e s σ hs Q q
  refine sf_go (t := ta) ha e hs q fun x a ρ s e hs rx q tr => ?_
  obtain ⟨d, e3, rfl⟩ := lft_cases e
  obtain ⟨ds, e4, rfl⟩ := Option.map_eq_some_iff.mp e3
  obtain ⟨vs, hv, h⟩ := ho _ _ x a ds hs.wd rx e4
  exact h Q (post_own hs q hv)
theorem sf_op {r : R2} {op : D → D → Option (List D)} {ta tb : TE} {ma mb : MM D} (ho : ∀ W H x y a b ds, Wd c W H → Rep c.K W x a → Rep c.K W y b → op a b = some ds → ∃ vs, Reps c.K W vs ds ∧ ∀ Q : VK, (∀ p, H p = none → Q (.ref p) (upd H p (.lst vs))) → r x y H Q) (ha : SE c ta ma) (hb : SE c tb mb) :
    SF c (tOp r ta tb) (bnd ma fun a => bnd mb fun b => lft ((op a b).map .lst)) := by
  intro ρ rr e s σ hs Q q
  refine sf_go (t := ta) ha e hs q fun x a ρ s e hs rx q tr => ?_
  refine sf_go (t := tb) hb e hs q fun y b ρ s e hs ry q tr => ?_
  obtain ⟨d, e3, rfl⟩ := lft_cases e
  obtain ⟨ds, e4, rfl⟩ := Option.map_eq_some_iff.mp e3
  obtain ⟨vs, hv, h⟩ := ho _ _ x y a b ds hs.wd (rx.mono tr.w) ry e4
  exact h Q (post_own hs q hv)
/-- .. and known for good -/
theorem rop_of {r : R2} {op : D → D → Option (List D)} (ho : ∀ W H x y a b ds, Wd c W H → Rep c.K W x a → Rep c.K W y b → op a b = some ds → ∃ vs, Reps c.K W vs ds ∧ ∀ Q : VK, (∀ p, H p = none → Q (.ref p) (upd H p (.lst vs))) → r x y H Q) :
    ROp c r (fun a b => (op a b).map .lst) := by
  intro W H x y a b d w rx ry e Q q
  obtain ⟨ds, e4, rfl⟩ := Option.map_eq_some_iff.mp e
  obtain ⟨vs, hv, h⟩ := ho _ _ x y a b ds w rx ry e4
  exact h Q (rx_lst w hv Q q)
def mSetO (i : Nat) (m : MM Own) : MS := mE m fun o ρ => if i < ρ.length then some (.nx (ρ.set i (.own o))) else none
theorem ss_setO {i : Nat} {te : TE} {m : MM Own} (hP : c.P i = false) (h : SF c te m) : SS c (tAsg te (gName i)) (mSetO i m) := by
  intro ρ o e s σ hs E q
  rcases mE_cases e with ⟨d, ρ', e1, e2⟩ | ⟨x, ρ', e1, rfl⟩
  · split at e2
    · rename_i hi
      cases e2
      refine h ρ _ e1 s σ hs _ fun p s' hs' tr hp wp np ho => ?_
      have no : ∀ j, s'.A j ≠ some p := fun j hj => np ⟨j, hj⟩
      refine q ⟨s'.W, s'.H, updA s'.A i (some p)⟩ (σ.set i (some (.ref p))) (hs'.letgo (l := .own d) (ov := some (.ref p)) (oa := some p) hi ⟨p, rfl, rfl, wp, ho⟩ fun p' ep j => ?_) ?_
      · cases ep; exact no j
      · -- the new object is fresh
        refine ⟨tr.w, tr.n, tr.f, fun a ⟨j, hj⟩ => ?_, tr.p, fun j hj => ?_⟩
        · have hj' : updA s'.A i (some p) j = some a := hj
          by_cases e : j = i
          · rw [e, updA_same] at hj'
            cases hj'
            exact .inr hp
          · rw [updA_ne e] at hj'
            exact tr.o a ⟨j, hj'⟩
        · have : j ≠ i := fun z => by rw [z, hP] at hj; cases hj
          exact (updA_ne this).trans (tr.pin j hj)
    · cases e2
  · exact h ρ _ e1 s σ hs _ fun s' a b => q s' σ a b

/-! ### what a slot's own object is, read and changed -/
def ownAt (ρ : Env) (i : Nat) : Option Own := match ρ[i]? with
  | some (.own o) => some o
  | some (.pin o) => some o
  | _ => none
def ownSet (ρ : Env) (i : Nat) (o : Own) : Env := match ρ[i]? with
  | some (.pin _) => ρ.set i (.pin o)
  | _ => ρ.set i (.own o)
theorem SR.own {ρ : Env} {s : Ws} {σ : L2.St} {i : Nat} {o : Own} (h : SR c.K c.tb ρ s σ) (e : ownAt ρ i = some o) : ∃ p, s.A i = some p ∧ σ[i]? = some (some (.ref p)) ∧ s.W p = none ∧ OwnOk c.K s.W s.H p o := by
  unfold ownAt at e
  split at e
  · rename_i o' eo
    cases e
    obtain ⟨p, h1, h2, h3, h4⟩ := h.loc i _ eo
    refine ⟨p, h1, ?_, h3, h4⟩
    cases z : σ[i]? with
    | none => rw [z] at h2; cases h2
    | some x => rw [z] at h2; exact congrArg some h2
  · rename_i o' eo
    cases e
    obtain ⟨p, h1, h2, h3, h4⟩ := h.loc i _ eo
    refine ⟨p, h1, ?_, h3, h4⟩
    cases z : σ[i]? with
    | none => rw [z] at h2; cases h2
    | some x => rw [z] at h2; exact congrArg some h2
  · cases e
/-- the object at slot i becomes another one, behind a step that left all else -/
theorem SR.change {ρ : Env} {s : Ws} {σ : L2.St} {i : Nat} {o o2 : Own} {p : Addr} {u : HO} (h : SR c.K c.tb ρ s σ) (e : ownAt ρ i = some o) (hA : s.A i = some p) (nu : (∃ xs, u = .lst xs) ∨ ∃ kv, u = .dK kv) (ho : OwnOk c.K s.W (upd s.H p u) p o2) :
    SR c.K c.tb (ownSet ρ i o2) ⟨s.W, upd s.H p u, s.A⟩ σ ∧ Tr c.P s ⟨s.W, upd s.H p u, s.A⟩ := by
  obtain ⟨p', hA', hv, wp, ho'⟩ := h.own e
  rw [hA] at hA'; cases hA'
  obtain ⟨z, hz, nz⟩ := ho'.there
  have len : (ownSet ρ i o2).length = ρ.length := by
    unfold ownSet; split <;> rw [List.length_set]
  have tb : TBok c.tb (upd s.H p u) := by
    have hk : (∃ xs, z = .lst xs) ∨ ∃ kv, z = .dK kv := by
      cases o with
      | lst ds => obtain ⟨vs, q, _⟩ := ho'; rw [q] at hz; cases hz; exact .inl ⟨_, rfl⟩
      | dct ds => obtain ⟨vs, q, _⟩ := ho'; rw [q] at hz; cases hz; exact .inr ⟨_, rfl⟩
    refine h.tb.ext fun a x q n1 n2 => ?_
    have ha : a ≠ p := fun w => by
      rw [w, hz] at q; cases q
      rcases hk with ⟨xs, r⟩ | ⟨xs, r⟩
      · exact n1 _ r
      · exact n2 _ r
    rw [upd_ne ha]; exact q
  have own : OwnsA s p := ⟨i, hA⟩
  refine ⟨⟨h.len.trans len.symm, fun j l ej => ?_, fun j hj => h.out j (by rw [len] at hj; exact hj), h.inj, fun a x q => ?_, h.nt, tb⟩, ⟨Ex.refl _, fun _ _ _ w => w, fun a x na q _ => ?_, fun a q => .inl q, fun a q => ?_, fun _ _ => rfl⟩⟩
  · by_cases hj : j = i
    · have gl : LocOk c.K s.W (upd s.H p u) ((σ[j]?).getD none) (s.A j) (.own o2) := by rw [hj]; exact ⟨p, hA, by rw [hv]; rfl, wp, ho⟩
      have hl : l = .own o2 ∨ l = .pin o2 := by
        rw [hj] at ej
        unfold ownSet at ej
        split at ej
        · rcases getElem_set ej with ⟨_, q, _⟩ | ⟨q, _⟩
          · exact .inr q
          · exact absurd rfl q
        · rcases getElem_set ej with ⟨_, q, _⟩ | ⟨q, _⟩
          · exact .inl q
          · exact absurd rfl q
      rcases hl with rfl | rfl
      · exact gl
      · exact gl
    · have ej' : ρ[j]? = some l := by
        unfold ownSet at ej
        split at ej
        · exact (List.getElem?_set_ne (Ne.symm hj)).symm.trans ej
        · exact (List.getElem?_set_ne (Ne.symm hj)).symm.trans ej
      refine (h.loc j l ej').mono (Ex.refl _) (fun _ _ _ w => w) fun p2 hp2 x _ q => ?_
      have : p2 ≠ p := fun w => hj (h.inj j i p2 hp2 (by rw [hA, w]))
      exact (upd_ne this).trans q
  · have : a ≠ p := fun w => by rw [w, wp] at q; cases q
    show upd s.H p u a = some x
    rw [upd_ne this]; exact h.ex a x q
  · have : a ≠ p := fun w => na (w ▸ own)
    show upd s.H p u a = some x
    rw [upd_ne this]; exact q
  · by_cases ha : a = p
    · show upd s.H p u a ≠ none
      rw [ha, upd_same]; exact fun z => nomatch z
    · show upd s.H p u a ≠ none
      rw [upd_ne ha]; exact q
theorem tyV_l {p : Addr} {vs : List V} {K : PySem.W.Frag} {H : Hp} (h : H p = some (.lst vs)) : tyV K "list" (.ref p) H := .inl ⟨rfl, _, .inl (.inl h)⟩
/-- x.m(..) that changes x, a slot's own list -/
def mMeth (i : Nat) (op : List D → List D → Option (List D × D)) (m : MM (List D)) : MM D := fun ρ => match ownAt ρ i with
  | some (.lst _) => bnd m (fun as ρ => match ownAt ρ i with
      | some (.lst ds) => match op ds as with
        | some (ds2, d) => some (.ok d (ownSet ρ i (.lst ds2)))
        | none => none
      | _ => none) ρ
  | _ => none
/-- what a list's method does, by values -/
def RMe (c : Cc) (r : V → List V → Hp → VK → Prop) (op : List D → List D → Option (List D × D)) : Prop := ∀ W H p xs vs ds as ds2 d, Wd c W H → H p = some (.lst xs) → Reps c.K W xs ds → Reps c.K W vs as → op ds as = some (ds2, d) →
  ∃ ys v, Reps c.K W ys ds2 ∧ Rep c.K W v d ∧ ∀ Q : VK, Q v (upd H p (.lst ys)) → r (.ref p) vs H Q
theorem se_meth {i : Nat} {r : V → List V → Hp → VK → Prop} {op : List D → List D → Option (List D × D)} {t : TA} {m : MM (List D)} (ho : RMe c r op) (h : SA c t m) : SE c (tBM c.K "list" r (tVar i) t) (mMeth i op m) := by
  intro ρ rr e s σ hs Q q
  unfold mMeth at e
  split at e
  · rename_i ds0 e0
    obtain ⟨p, hA, hv, wp, vs0, hp0, r0⟩ := hs.own e0
    refine ⟨.ref p, hv, tyV_l hp0, ?_⟩
    refine sx_go (t := t) h e hs q fun vs as ρ s' e hs' rx q tr => ?_
    have e : (match ownAt ρ i with
      | some (.lst ds) => match op ds as with
        | some (ds2, d) => some (.ok d (ownSet ρ i (.lst ds2)))
        | none => none
      | _ => none) = some rr := e
    split at e
    · rename_i ds1 e1
      split at e
      · rename_i ds2 d eo
        cases e
        obtain ⟨p1, hA1, hv1, wp1, vs1, hp1, r1⟩ := hs'.own e1
        rw [hv] at hv1
        cases hv1
        obtain ⟨ys, v, ry, rv, hr⟩ := ho s'.W s'.H p vs1 vs ds1 as ds2 d hs'.wd hp1 r1 rx eo
        obtain ⟨k1, k2⟩ := hs'.change (u := .lst ys) (o2 := .lst ds2) e1 hA1 (.inl ⟨ys, rfl⟩) ⟨ys, upd_same, ry⟩
        exact hr Q (q v _ k1 k2 rv)
      · cases e
    · cases e
  · cases e
theorem se_meth0 {i : Nat} {r : V → List V → Hp → VK → Prop} {op : List D → List D → Option (List D × D)} (ho : RMe c r op) : SE c (tBM0 c.K "list" r (tVar i)) (mMeth i op (ret [])) := se_meth (t := tNil) ho sa_nil
/-- x[k] = e, a slot's own list -/
def mSetAt (i : Nat) (me mk : MM D) : MS := mE (bnd me fun d => bnd mk fun k => ret (d, k)) fun dk ρ => match ownAt ρ i, dk with
  | some (.lst ds), (d, .int k) => match ixN ds.length k with
    | some j => some (.nx (ownSet ρ i (.lst (ds.set j d))))
    | none => none
  | _, _ => none
theorem ss_setAt {i : Nat} {te tk : TE} {me mk : MM D} (he : SE c te me) (hk : SE c tk mk) : SS c (tAsg te (gSub (tVar i) tk rSetL)) (fun ρ => match ownAt ρ i with
    | some (.lst _) => mSetAt i me mk ρ
    | _ => none) := by
  intro ρ o e s σ hs E q
  have e : (match ownAt ρ i with
    | some (.lst _) => mSetAt i me mk ρ
    | _ => none) = some o := e
  split at e
  · rename_i ds0 e0
    obtain ⟨p, hA, hv, wp, vs0, hp0, r0⟩ := hs.own e0
    have body : ∀ v d ρ1 s1, SR c.K c.tb ρ1 s1 σ → Rep c.K s1.W v d → PostS c E s1 o → mE (bnd mk fun k => ret (d, k)) (fun dk ρ => match ownAt ρ i, dk with
        | some (.lst ds), (d, .int k) => match ixN ds.length k with
          | some j => some (.nx (ownSet ρ i (.lst (ds.set j d))))
          | none => none
        | _, _ => none) ρ1 = some o → tk σ s1.H fun k H2 => rSetL (.ref p) k v H2 fun H3 => E.nx σ H3 := by
      intro v d ρ1 s1 hs1 rv q1 e1
      have fin : ∀ y k ρ2 s2, SR c.K c.tb ρ2 s2 σ → Rep c.K s2.W y k → Tr c.P s1 s2 → PostS c E s2 o → (match ownAt ρ2 i, (d, k) with
        | some (.lst ds), (d, .int k) => match ixN ds.length k with
          | some j => some (Out.nx (ownSet ρ2 i (.lst (ds.set j d))))
          | none => none
        | _, _ => none) = some o → rSetL (.ref p) y v s2.H fun H3 => E.nx σ H3 := by
        intro y k ρ2 s2 hs2 ry tr2 q2 e2
        split at e2
        · rename_i ds d' k' eo ek
          cases ek
          split at e2
          · rename_i j ej
            cases e2
            cases ry
            obtain ⟨p1, hA1, hv1, wp1, vs1, hp1, r1⟩ := hs2.own eo
            rw [hv] at hv1
            cases hv1
            obtain ⟨k1, k2⟩ := hs2.change (u := .lst (vs1.set j v)) (o2 := .lst (ds.set j d)) eo hA1 (.inl ⟨_, rfl⟩) ⟨_, upd_same, r1.set (rv.mono tr2.w) j⟩
            exact ⟨p, vs1, _, j, rfl, rfl, hp1, by rw [r1.length]; exact ej, q2 _ σ k1 k2⟩
          · cases e2
        · cases e2
      rcases mE_cases e1 with ⟨dk, ρ', e2, e3⟩ | ⟨x, ρ', e2, rfl⟩
      · rcases bnd_cases e2 with ⟨k, ρ'', e4, e5⟩ | ⟨x, ρ'', e4, e5⟩
        · cases e5
          exact hk ρ1 _ e4 s1 σ hs1 _ fun y s2 a b ry => fin y k _ s2 a ry b (q1.after b) e3
        · cases e5
      · rcases bnd_cases e2 with ⟨k, ρ'', e4, e5⟩ | ⟨x', ρ'', e4, e5⟩
        · cases e5
        · cases e5
          exact hk ρ1 _ e4 s1 σ hs1 _ fun s2 a b => q1 s2 σ a b
    unfold mSetAt at e
    -- the value first
    have goal : te σ s.H fun v H1 => ∃ w, σ[i]? = some (some w) ∧ tk σ H1 fun k H2 => rSetL w k v H2 fun H3 => E.nx σ H3 := by
      rcases mE_cases e with ⟨dk, ρ', e2, e3⟩ | ⟨x, ρ', e2, rfl⟩
      · rcases bnd_cases e2 with ⟨d, ρ'', e4, e5⟩ | ⟨x, ρ'', e4, e5⟩
        · refine he ρ _ e4 s σ hs _ fun v s1 a b rv => ⟨.ref p, hv, body v d ρ'' s1 a rv (q.after b) ?_⟩
          unfold mE
          rw [e5]
          exact e3
        · cases e5
      · rcases bnd_cases e2 with ⟨d, ρ'', e4, e5⟩ | ⟨x', ρ'', e4, e5⟩
        · refine he ρ _ e4 s σ hs _ fun v s1 a b rv => ⟨.ref p, hv, body v d ρ'' s1 a rv (PostS.after (o := .er x ρ') q b) ?_⟩
          unfold mE
          rw [e5]
        · cases e5
          exact he ρ _ e4 s σ hs _ fun s1 a b => q s1 σ a b
    exact goal
  · cases e
/-- x[k], len(x), x by truth: a slot's own list, read -/
def ixOwn : Option Own → D → Option D
  | some (.lst ds), .int k => atI ds k
  | _, _ => none
def mIxO (i : Nat) (mk : MM D) : MM D := fun ρ => match ownAt ρ i with
  | some (.lst _) => bnd mk (fun k ρ => lft (ixOwn (ownAt ρ i) k) ρ) ρ
  | _ => none
theorem atI_reps {K : PySem.W.Frag} {W : Hp} {vs : List V} {ds : List D} {k : Int} {d : D} (r : Reps K W vs ds) (h : atI ds k = some d) : ∃ v, atI vs k = some v ∧ Rep K W v d := by
  unfold atI at h ⊢
  rw [r.length]
  obtain ⟨j, e1, e2⟩ := Option.bind_eq_some_iff.mp h
  obtain ⟨v, hv, rv⟩ := r.getD e2
  exact ⟨v, by rw [e1]; exact hv, rv⟩
theorem se_ixO {i : Nat} {tk : TE} {mk : MM D} (hk : SE c tk mk) : SE c (tOp (rIx c.K) (tVar i) tk) (mIxO i mk) := by
  intro ρ rr e s σ hs Q q
  unfold mIxO at e
  split at e
  · rename_i ds0 e0
    obtain ⟨p, hA, hv, wp, vs0, hp0, r0⟩ := hs.own e0
    refine ⟨.ref p, hv, ?_⟩
    refine sx_go (t := tk) hk e hs q fun y k ρ s' e hs' ry q tr => ?_
    obtain ⟨d, ed, rfl⟩ := lft_cases e
    cases eo : ownAt ρ i with
    | none => rw [eo] at ed; cases ed
    | some o =>
      rw [eo] at ed
      cases o with
      | dct _ => cases ed
      | lst ds =>
        cases k <;> try (cases ed; done)
        cases ry
        have ed : atI ds _ = some d := ed
        obtain ⟨p1, hA1, hv1, wp1, vs1, hp1, r1⟩ := hs'.own eo
        rw [hv] at hv1
        cases hv1
        obtain ⟨v, hv2, rv⟩ := atI_reps r1 ed
        exact .inl ⟨p, vs1, _, v, rfl, rfl, .inl (.inl hp1), hv2, q v s' hs' .refl rv⟩
  · cases e
def mLenO (i : Nat) : MM D := fun ρ => match ownAt ρ i with
  | some (.lst ds) => some (.ok (.int (ds.length : Int)) ρ)
  | _ => none
/-- len's reading -/
def rLn (K : PySem.W.Frag) : List V → Hp → VK → Prop := fun xs H Q => ∃ x n, xs = [x] ∧ LenV K x H n ∧ Q (.int n) H
theorem se_lenO {i : Nat} : SE c (tCB (rLn c.K) (tCons (tVar i) tNil)) (mLenO i) := by
  intro ρ rr e s σ hs Q q
  unfold mLenO at e
  split at e
  · rename_i ds e0
    cases e
    obtain ⟨p, hA, hv, wp, vs, hp, r⟩ := hs.own e0
    exact ⟨.ref p, hv, .ref p, ds.length, rfl, .inl ⟨vs, .inl (.inl hp), r.length.symm⟩, q _ s hs .refl (.int _)⟩
  · cases e
def mTruO (i : Nat) : MM Bool := fun ρ => match ownAt ρ i with
  | some (.lst ds) => some (.ok (!ds.isEmpty) ρ)
  | _ => none
/-- truth's reading -/
def tTru (K : PySem.W.Frag) (te : TE) : TT := fun σ H Q => te σ H fun x H1 => ∃ k, TruV K x H1 k ∧ Q k H1
theorem isEmpty_reps {K : PySem.W.Frag} {W : Hp} {vs : List V} {ds : List D} (r : Reps K W vs ds) : vs.isEmpty = ds.isEmpty := by
  cases r <;> rfl
theorem st_truO {i : Nat} : ST c (tTru c.K (tVar i)) (mTruO i) := by
  intro ρ rr e s σ hs Q q
  unfold mTruO at e
  split at e
  · rename_i ds e0
    cases e
    obtain ⟨p, hA, hv, wp, vs, hp, r⟩ := hs.own e0
    exact ⟨.ref p, hv, !ds.isEmpty, .inl ⟨vs, .inl (.inl hp), by rw [isEmpty_reps r]⟩, q _ s hs .refl rfl⟩
  · cases e
end
end PD
end
section
set_option maxHeartbeats 0
namespace PD
open PySem L2

/-! ### == of data -/
mutual
def toP : D → PyData
  | .non => .none
  | .bl b => .bool b
  | .int i => .int i
  | .str x => .str x
  | .tup xs => .tuple (toPs xs)
  | .lst xs => .list (toPs xs)
  | .dct _ => .dict []
  | .frz _ => .dict []
def toPs : List D → List PyData
  | [] => []
  | x :: xs => toP x :: toPs xs
end
mutual
theorem Rep.dp {K : PySem.W.Frag} {W H : Hp} (e : Ex W H) : ∀ {d : D} {v : V}, Rep K W v d → (toP d).plain = true → Dp K H v (toP d)
  | _, _, .non, _ => .non
  | _, _, .bl b, _ => .bl b
  | _, _, .int i, _ => .int i
  | _, _, .str x, _ => .str x
  | _, _, .tup h r, q => .tup (e.st h) (Reps.dp e r (by simpa [toP, PyData.plain] using q))
  | _, _, .lst h r, q => .lst (e.sl (.inl (.inl h))) (Reps.dp e r (by simpa [toP, PyData.plain] using q))
  | _, _, .dct h r, q => by simp [toP, PyData.plain] at q
  | _, _, .frz h r, q => by simp [toP, PyData.plain] at q
theorem Reps.dp {K : PySem.W.Frag} {W H : Hp} (e : Ex W H) : ∀ {ds : List D} {vs : List V}, Reps K W vs ds → PyData.plainAll (toPs ds) = true → DpAll K H vs (toPs ds)
  | _, _, .nil, _ => .nil
  | _, _, .cons h r, q => by
    simp only [toPs, PyData.plainAll, Bool.and_eq_true] at q
    exact .cons (Rep.dp e h q.1) (Reps.dp e r q.2)
end
def eqD (a b : D) : Option Bool := if (toP a).plain = true ∧ (toP b).plain = true ∧ min (toP a).depth (toP b).depth ≤ 64 then some (PyData.eqv (toP a) (toP b)) else none
def rEqP (K : PySem.W.Frag) : R2 := fun x y H Q => ∃ d e, Dp K H x d ∧ Dp K H y e ∧ d.plain = true ∧ e.plain = true ∧ min d.depth e.depth ≤ 64 ∧ Q (.bl (PyData.eqv d e)) H
def rNeP (K : PySem.W.Frag) : R2 := fun x y H Q => ∃ d e, Dp K H x d ∧ Dp K H y e ∧ d.plain = true ∧ e.plain = true ∧ min d.depth e.depth ≤ 64 ∧ Q (.bl (!PyData.eqv d e)) H
section
variable {X : Cx}
theorem op_eqP (hu : X.A.units + 64 < cLine) : OpR X (compareOp .Eq) (rEqP X.K) := by
  intro pins s σ H x y v u Q I rx ry h
  obtain ⟨d, e, hd, he, sd, se, hm, q⟩ := h
  obtain ⟨as, r1⟩ := Dp.reads I d x v hd rx
  obtain ⟨bs, r2⟩ := Dp.reads I e y u he ry
  exact SeqAt.eq_plain r1 r2 sd se (by omega) ⟨.bl _, H, I, rfl, q⟩
theorem op_neP (hu : X.A.units + 64 < cLine) : OpR X (compareOp .NotEq) (rNeP X.K) := by
  intro pins s σ H x y v u Q I rx ry h
  obtain ⟨d, e, hd, he, sd, se, hm, q⟩ := h
  obtain ⟨as, r1⟩ := Dp.reads I d x v hd rx
  obtain ⟨bs, r2⟩ := Dp.reads I e y u he ry
  exact SeqAt.ne_plain r1 r2 sd se (by omega) ⟨.bl _, H, I, rfl, q⟩
end
def dEq (a b : D) : Option D := (eqD a b).map .bl
def dNe (a b : D) : Option D := (eqD a b).map fun b => .bl (!b)
section
variable {c : Cc}
theorem rop_eq : ROp c (rEqP c.K) dEq := by
  intro W H x y a b d w rx ry e Q q
  obtain ⟨k, e1, rfl⟩ := Option.map_eq_some_iff.mp e
  unfold eqD at e1
  split at e1
  · rename_i h
    cases e1
    exact ⟨_, _, rx.dp w.ex h.1, ry.dp w.ex h.2.1, h.1, h.2.1, h.2.2, q _ W H w.nref (.bl _)⟩
  · cases e1
theorem rop_ne : ROp c (rNeP c.K) dNe := by
  intro W H x y a b d w rx ry e Q q
  obtain ⟨k, e1, rfl⟩ := Option.map_eq_some_iff.mp e
  unfold eqD at e1
  split at e1
  · rename_i h
    cases e1
    exact ⟨_, _, rx.dp w.ex h.1, ry.dp w.ex h.2.1, h.1, h.2.1, h.2.2, q _ W H w.nref (.bl _)⟩
  · cases e1

/-! ### arithmetic -/
def dInt2 (C : Int → Int → Bool) (g : Int → Int → D) : D → D → Option D
  | .int i, .int j => if C i j = true then some (g i j) else none
  | _, _ => none
theorem rop_I {C : Int → Int → Prop} {Cb : Int → Int → Bool} {g : Int → Int → V} {gd : Int → Int → D} (hc : ∀ i j, Cb i j = true → C i j) (hg : ∀ W i j, Rep c.K W (g i j) (gd i j)) : ROp c (rI C g) (dInt2 Cb gd) := by
  intro W H x y a b d w rx ry e Q q
  cases a <;> try (cases e; done)
  cases b <;> try (cases e; done)
  rename_i i j
  cases rx
  cases ry
  have e : (if Cb i j = true then some (gd i j) else none) = some d := e
  split at e
  · rename_i h
    cases e
    exact ⟨i, j, rfl, rfl, hc i j h, q _ W H w.nref (hg W i j)⟩
  · cases e
def dInt (g : Int → Int → D) : D → D → Option D
  | .int i, .int j => some (g i j)
  | _, _ => none
theorem rop_I0 {g : Int → Int → V} {gd : Int → Int → D} (hg : ∀ W i j, Rep c.K W (g i j) (gd i j)) : ROp c (rI0 g) (dInt gd) := by
  intro W H x y a b d w rx ry e Q q
  cases a <;> try (cases e; done)
  cases b <;> try (cases e; done)
  rename_i i j
  cases rx
  cases ry
  cases e
  exact ⟨i, j, rfl, rfl, q _ W H w.nref (hg W i j)⟩
def dSub : D → D → Option D := dInt fun i j => .int (i - j)
def dMod : D → D → Option D := dInt2 (fun _ j => j != 0) fun i j => .int (i.fmod j)
def dDiv : D → D → Option D := dInt2 (fun _ j => decide (0 < j) && decide (j < 1073741824)) fun i j => .int (i / j)
def dLt : D → D → Option D := dInt fun i j => .bl (decide (i < j))
def dLe : D → D → Option D := dInt fun i j => .bl (decide (i ≤ j))
def dGt : D → D → Option D := dInt fun i j => .bl (decide (j < i))
def dGe : D → D → Option D := dInt fun i j => .bl (decide (j ≤ i))
theorem rop_sub : ROp c (rI0 fun i j => .int (i - j)) dSub := rop_I0 fun _ _ _ => .int _
theorem rop_mod : ROp c (rI (fun _ j => j ≠ 0) fun i j => .int (i.fmod j)) dMod := rop_I (fun i j h => by simpa using h) fun _ _ _ => .int _
theorem rop_div : ROp c (rI CDiv fun i j => .int (i / j)) dDiv := rop_I (fun i j h => by rw [Bool.and_eq_true] at h; exact ⟨of_decide_eq_true h.1, of_decide_eq_true h.2⟩) fun _ _ _ => .int _
theorem rop_lt : ROp c (rI0 fun i j => .bl (decide (i < j))) dLt := rop_I0 fun _ _ _ => .bl _
theorem rop_le : ROp c (rI0 fun i j => .bl (decide (i ≤ j))) dLe := rop_I0 fun _ _ _ => .bl _
theorem rop_gt : ROp c (rI0 fun i j => .bl (decide (j < i))) dGt := rop_I0 fun _ _ _ => .bl _
theorem rop_ge : ROp c (rI0 fun i j => .bl (decide (j ≤ i))) dGe := rop_I0 fun _ _ _ => .bl _

/-! ### + -/
def rOr (r r' : R2) : R2 := fun x y H Q => r x y H Q ∨ r' x y H Q
theorem OpR.or {X : Cx} {f : Value → Value → Sem Value} {r r' : R2} (h : OpR X f r) (h' : OpR X f r') : OpR X f (rOr r r') := by
  intro pins s σ H x y v u Q I rx ry q
  rcases q with q | q
  · exact h pins s σ H x y v u Q I rx ry q
  · exact h' pins s σ H x y v u Q I rx ry q
theorem ROp.or {r r' : R2} {f g : D → D → Option D} (h : ROp c r f) (h' : ROp c r' g) : ROp c (rOr r r') (fun a b => (f a b).or (g a b)) := by
  intro W H x y a b d w rx ry e Q q
  dsimp only at e
  cases e1 : f a b with
  | none => rw [e1] at e; exact .inr (h' W H x y a b d w rx ry e Q q)
  | some z => rw [e1] at e; cases e; exact .inl (h W H x y a b _ w rx ry e1 Q q)
def rStrAdd : R2 := fun x y H Q => ∃ i j, x = .str i ∧ y = .str j ∧ i.length + j.length ≤ sizeLine ∧ Q (.str (i ++ j)) H
def dAdd : D → D → Option D
  | .int i, .int j => some (.int (i + j))
  | .str x, .str y => if x.length + y.length ≤ cap then some (.str (x ++ y)) else none
  | .tup x, .tup y => if x.length + y.length ≤ cap then some (.tup (x ++ y)) else none
  | .lst x, .lst y => if x.length + y.length ≤ cap then some (.lst (x ++ y)) else none
  | _, _ => none
def rAddAll (K : PySem.W.Frag) : R2 := rOr (rI0 fun i j => .int (i + j)) (rOr rStrAdd (rOr (rCatA K) rCat))
theorem op_addAll {X : Cx} : OpR X (binaryOp .Add) (rAddAll X.K) := OpR.or op_add (OpR.or op_add_str (OpR.or op_catA op_cat))
theorem rop_add : ROp c (rAddAll c.K) dAdd := by
  intro W H x y a b d w rx ry e Q q
  cases a <;> try (cases e; done)
  · cases b <;> try (cases e; done)
    cases rx; cases ry; cases e
    exact .inl ⟨_, _, rfl, rfl, q _ W H w.nref (.int _)⟩
  · cases b <;> try (cases e; done)
    rename_i z1 z2
    cases rx; cases ry
    have e : (if z1.length + z2.length ≤ cap then some (D.str (z1 ++ z2)) else none) = some d := e
    split at e
    · rename_i h
      cases e
      exact .inr (.inl ⟨_, _, rfl, rfl, cap_le h, q _ W H w.nref (.str _)⟩)
    · cases e
  · cases b <;> try (cases e; done)
    rename_i z1 z2
    have e : (if z1.length + z2.length ≤ cap then some (D.tup (z1 ++ z2)) else none) = some d := e
    split at e
    · rename_i h
      cases e
      cases rx with
      | @tup p xs _ hx r1 =>
        cases ry with
        | @tup p2 ys _ hy r2 =>
          refine .inr (.inr (.inl ⟨p, p2, xs, ys, rfl, rfl, w.ex.st hx, w.ex.st hy, cap_le (by rw [r1.length, r2.length]; exact h), fun hn => ?_, fun _ hn => ?_, fun _ _ => rx_tup w (r1.append r2) Q q⟩))
          · subst hn
            have := r1.nilL
            subst this
            exact q _ W H w.nref (.tup hy r2)
          · subst hn
            have := r2.nilL
            subst this
            exact q _ W H w.nref (.tup hx (by rw [List.append_nil]; exact r1))
    · cases e
  · cases b <;> try (cases e; done)
    rename_i z1 z2
    have e : (if z1.length + z2.length ≤ cap then some (D.lst (z1 ++ z2)) else none) = some d := e
    split at e
    · rename_i h
      cases e
      cases rx with
      | @lst p xs _ hx r1 =>
        cases ry with
        | @lst p2 ys _ hy r2 =>
          exact .inr (.inr (.inr ⟨p, p2, xs, ys, rfl, rfl, w.ex _ _ hx, w.ex _ _ hy, cap_le (by rw [r1.length, r2.length]; exact h), rx_lst w (r1.append r2) Q q⟩))
    · cases e
/-! ### * -/
def mulOk (i j : Int) : Bool := (decide (-(2 ^ 64) < i) && decide (i < 2 ^ 64)) || (decide (-(2 ^ 64) < j) && decide (j < 2 ^ 64))
def repOk (n : Nat) (k : Int) : Bool := decide (-(2 ^ 63) ≤ k) && decide (k < 2 ^ 63) && decide (n * k.toNat ≤ cap)
def rStrMul : R2 := fun x y H Q => ∃ z k, x = .str z ∧ y = .int k ∧ 1 ≤ k ∧ k ≤ 1000 ∧ z.length ≤ 1000 ∧ Q (.str (Txt.mul z k)) H
theorem op_strMul {X : Cx} : OpR X (binaryOp .Mult) rStrMul := by
  intro pins s σ H x y v u Q I rx ry h
  obtain ⟨z, k, rfl, rfl, h1, h2, h3, q⟩ := h
  obtain ⟨t, rfl⟩ := rx
  obtain ⟨t', rfl⟩ := ry
  refine SB.mul ⟨?_, fun _ _ => ?_, fun _ _ => ?_⟩ fun t' k' => ⟨.str _, H, I.tok _, ⟨_, rfl⟩, q⟩
  · rw [decide_eq_false (by omega), decide_eq_false (by omega)]; rfl
  · have : (z.length : Int) ≤ (2 ^ 63 - 1) / k := by
      rw [Int.le_ediv_iff_mul_le (by omega)]
      have h4 : (z.length : Int) * k ≤ 1000 * 1000 := Int.mul_le_mul (by omega) h2 (by omega) (by omega)
      omega
    omega
  · have h5 : z.length * k.toNat ≤ 1000 * 1000 := Nat.mul_le_mul h3 (by omega)
    show decide (z.length * k.toNat > sizeLine) = false
    rw [sizeLine_eq]
    exact decide_eq_false (by omega)
def dMul : D → D → Option D
  | .int i, .int j => if mulOk i j = true then some (.int (i * j)) else none
  | .str z, .int k => if 1 ≤ k ∧ k ≤ 1000 ∧ z.length ≤ 1000 then some (.str (Txt.mul z k)) else none
  | .lst x, .int k => if repOk x.length k = true then some (.lst (List.replicate k.toNat x).flatten) else none
  | _, _ => none
theorem Reps.flat {K : PySem.W.Frag} {W : Hp} {vs : List V} {ds : List D} (r : Reps K W vs ds) : ∀ n : Nat, Reps K W (List.replicate n vs).flatten (List.replicate n ds).flatten
  | 0 => .nil
  | n + 1 => by
    rw [List.replicate_succ, List.replicate_succ, List.flatten_cons, List.flatten_cons]
    exact r.append (Reps.flat r n)
def rMulAll : R2 := rOr (rI CMul fun i j => .int (i * j)) (rOr rStrMul rRep)
theorem op_mulAll {X : Cx} : OpR X (binaryOp .Mult) rMulAll := OpR.or op_mul (OpR.or op_strMul op_rep)
theorem rop_mul : ROp c rMulAll dMul := by
  intro W H x y a b d w rx ry e Q q
  cases a <;> try (cases e; done)
  · cases b <;> try (cases e; done)
    rename_i i j
    cases rx; cases ry
    have e : (if mulOk i j = true then some (D.int (i * j)) else none) = some d := e
    split at e
    · rename_i h
      cases e
      refine .inl ⟨_, _, rfl, rfl, ?_, q _ W H w.nref (.int _)⟩
      unfold mulOk at h
      rw [Bool.or_eq_true, Bool.and_eq_true, Bool.and_eq_true] at h
      rcases h with h | h
      · exact .inl ⟨of_decide_eq_true h.1, of_decide_eq_true h.2⟩
      · exact .inr ⟨of_decide_eq_true h.1, of_decide_eq_true h.2⟩
    · cases e
  · cases b <;> try (cases e; done)
    rename_i z k
    cases rx; cases ry
    have e : (if 1 ≤ k ∧ k ≤ 1000 ∧ z.length ≤ 1000 then some (D.str (Txt.mul z k)) else none) = some d := e
    split at e
    · rename_i h
      cases e
      exact .inr (.inl ⟨_, _, rfl, rfl, h.1, h.2.1, h.2.2, q _ W H w.nref (.str _)⟩)
    · cases e
  · cases b <;> try (cases e; done)
    rename_i ds k
    cases ry
    have e : (if repOk ds.length k = true then some (D.lst (List.replicate k.toNat ds).flatten) else none) = some d := e
    split at e
    · rename_i h
      cases e
      cases rx with
      | @lst p xs _ hx r1 =>
        unfold repOk at h
        rw [Bool.and_eq_true, Bool.and_eq_true] at h
        exact .inr (.inr ⟨p, _, xs, rfl, rfl, w.ex _ _ hx, of_decide_eq_true h.1.1, of_decide_eq_true h.1.2, by rw [r1.length]; exact cap_le (of_decide_eq_true h.2), rx_lst w (r1.flat _) Q q⟩)
    · cases e
/-- a list times an int, for a slot's own -/
def dRepL : D → D → Option (List D)
  | .lst x, .int k => if repOk x.length k = true then some (List.replicate k.toNat x).flatten else none
  | _, _ => none
theorem own_rep : ∀ W H x y a b ds, Wd c W H → Rep c.K W x a → Rep c.K W y b → dRepL a b = some ds → ∃ vs, Reps c.K W vs ds ∧ ∀ Q : VK, (∀ p, H p = none → Q (.ref p) (upd H p (.lst vs))) → rMulAll x y H Q := by
  intro W H x y a b ds w rx ry e
  cases a <;> try (cases e; done)
  cases b <;> try (cases e; done)
  rename_i xs k
  cases ry
  have e : (if repOk xs.length k = true then some (List.replicate k.toNat xs).flatten else none) = some ds := e
  split at e
  · rename_i h
    cases e
    cases rx with
    | @lst p vs _ hx r1 =>
      unfold repOk at h
      rw [Bool.and_eq_true, Bool.and_eq_true] at h
      exact ⟨_, r1.flat _, fun Q q => .inr (.inr ⟨p, _, vs, rfl, rfl, w.ex _ _ hx, of_decide_eq_true h.1.1, of_decide_eq_true h.1.2, by rw [r1.length]; exact cap_le (of_decide_eq_true h.2), q⟩)⟩
  · cases e

/-! ### subscripts, slices -/
def dIx : D → D → Option D
  | .tup ds, .int k => atI ds k
  | .lst ds, .int k => atI ds k
  | .str z, .int k => if z.length ≤ cap then (atI z.cps.toList k).map fun c => .str ⟨#[c]⟩ else none
  | _, _ => none
theorem rop_ix : ROp c (rIx c.K) dIx := by
  intro W H x y a b d w rx ry e Q q
  cases a <;> try (cases e; done)
  · cases b <;> try (cases e; done)
    rename_i z k
    cases rx; cases ry
    have e : (if z.length ≤ cap then (atI z.cps.toList k).map fun c => D.str ⟨#[c]⟩ else none) = some d := e
    split at e
    · rename_i h
      obtain ⟨ch, e1, rfl⟩ := Option.map_eq_some_iff.mp e
      exact .inr (.inr ⟨z, k, ch, rfl, rfl, cap_le h, e1, q _ W H w.nref (.str _)⟩)
    · cases e
  · cases b <;> try (cases e; done)
    rename_i ds k
    cases ry
    cases rx with
    | @tup p xs _ hx r1 =>
      obtain ⟨v, hv, rv⟩ := atI_reps r1 e
      exact .inr (.inl ⟨p, xs, k, v, rfl, rfl, w.ex.st hx, hv, q v W H w.nref rv⟩)
  · cases b <;> try (cases e; done)
    rename_i ds k
    cases ry
    cases rx with
    | @lst p xs _ hx r1 =>
      obtain ⟨v, hv, rv⟩ := atI_reps r1 e
      exact .inl ⟨p, xs, k, v, rfl, rfl, w.ex.sl (.inl (.inl hx)), hv, q v W H w.nref rv⟩
def cutD (xs : List D) (lo hi : Option Int) : List D := (xs.drop (HT.sIx xs.length 0 lo)).take (HT.sIx xs.length xs.length hi - HT.sIx xs.length 0 lo)
theorem cut_reps {K : PySem.W.Frag} {W : Hp} {vs : List V} {ds : List D} (r : Reps K W vs ds) (lo hi : Option Int) : Reps K W (cutV vs lo hi) (cutD ds lo hi) := by
  unfold cutV cutD
  rw [r.length]
  exact (r.drop _).take _
def dSl : D → Option Int → Option Int → Option D
  | .tup ds, lo, hi => some (.tup (cutD ds lo hi))
  | .lst ds, lo, hi => some (.lst (cutD ds lo hi))
  | .frz ds, lo, hi => some (.lst (cutD ds lo hi))
  | .str z, lo, hi => if z.length ≤ cap then some (.str (cutS z lo hi)) else none
  | _, _, _ => none
def rSlAll (K : PySem.W.Frag) : V → Option Int → Option Int → Hp → VK → Prop := fun x lo hi H Q => rSlA K x lo hi H Q ∨ (rSlL K x lo hi H Q ∨ rSlS x lo hi H Q)
theorem sl_all {X : Cx} : SlR X (rSlAll X.K) := sl_tupA.or (sl_list.or sl_str)
theorem cutD_whole {ds : List D} {lo hi : Option Int} (h : HT.sIx ds.length 0 lo = 0 ∧ HT.sIx ds.length ds.length hi = ds.length) : cutD ds lo hi = ds := by
  unfold cutD
  rw [h.1, h.2, List.drop_zero, Nat.sub_zero, List.take_length]
theorem rsl {W H : Hp} {x : V} {a d : D} {lo hi : Option Int} (w : Wd c W H) (rx : Rep c.K W x a) (e : dSl a lo hi = some d) : RX c (Rep c.K) (rSlAll c.K x lo hi) W H d := by
  intro Q q
  cases a <;> try (cases e; done)
  · rename_i z
    cases rx
    have e : (if z.length ≤ cap then some (D.str (cutS z lo hi)) else none) = some d := e
    split at e
    · rename_i h
      cases e
      exact .inr (.inr ⟨z, rfl, cap_le h, q _ W H w.nref (.str _)⟩)
    · cases e
  · cases e
    cases rx with
    | @tup p xs ds hx r1 =>
      refine .inl ⟨p, xs, rfl, w.ex.st hx, fun h => ?_, fun _ => rx_tup w (cut_reps r1 lo hi) Q q⟩
      rw [r1.length] at h
      rw [cutD_whole h] at q
      exact q _ W H w.nref (.tup hx r1)
  · cases e
    cases rx with
    | @lst p xs ds hx r1 => exact .inr (.inl ⟨p, xs, rfl, w.ex.sl (.inl (.inl hx)), rx_lst w (cut_reps r1 lo hi) Q q⟩)
  · cases e
    cases rx with
    | @frz p xs ds hx r1 => exact .inr (.inl ⟨p, xs, rfl, w.ex.sl hx, rx_lst w (cut_reps r1 lo hi) Q q⟩)
def asI : D → Option Int
  | .int i => some i
  | _ => none
theorem so_none : SO c tNoPart (ret none) := by
  intro ρ r e s σ hs Q q
  cases e
  exact q _ s hs .refl rfl
theorem so_some {te : TE} {m : MM D} (h : SE c te m) : SO c (tPart te) (bnd m fun d => lft ((asI d).map some)) := by
  intro ρ rr e s σ hs Q q
  refine sx_go (t := te) h e hs q fun x a ρ s e hs rx q tr => ?_
  obtain ⟨b, e3, rfl⟩ := lft_cases e
  cases a <;> try (cases e3; done)
  cases e3
  cases rx
  exact ⟨_, rfl, q _ s hs .refl rfl⟩
def mSl (m : MM D) (ml mh : MM (Option Int)) : MM D := bnd m fun d => bnd ml fun lo => bnd mh fun hi => lft (dSl d lo hi)
theorem se_sl {te : TE} {tl th : TO} {m : MM D} {ml mh : MM (Option Int)} (h : SE c te m) (hl : SO c tl ml) (hh : SO c th mh) : SE c (tSl (rSlAll c.K) te tl th) (mSl m ml mh) := by
  intro ρ rr e s σ hs Q q
  refine sx_go (t := te) h e hs q fun x a ρ s e hs rx q tr => ?_
  refine sx_go (t := tl) hl e hs q fun l lo ρ s1 e hs1 el q tr1 => ?_
  refine sx_go (t := th) hh e hs1 q fun u hi ρ s2 e hs2 eu q tr2 => ?_
  obtain ⟨d, e3, rfl⟩ := lft_cases e
  subst el eu
  exact rsl hs2.wd (rx.mono (tr1.w.trans tr2.w)) e3 Q (post_nw hs2 q)

/-! ### built-in functions -/
def dLen : List D → Option D
  | [.tup ds] => some (.int (ds.length : Int))
  | [.lst ds] => some (.int (ds.length : Int))
  | [.str z] => if z.length ≤ cap then some (.int (z.length : Int)) else none
  | _ => none
theorem rca1 {r : List V → Hp → VK → Prop} {op : List D → Option D} (h : ∀ W H x a d, Wd c W H → Rep c.K W x a → op [a] = some d → RX c (Rep c.K) (r [x]) W H d) (h0 : op [] = none) (h2 : ∀ a b l, op (a :: b :: l) = none) : RCa c r op := by
  intro W H xs as d w rx e
  cases rx with
  | nil => rw [h0] at e; cases e
  | cons r1 r2 =>
    cases r2 with
    | nil => exact h W H _ _ d w r1 e
    | cons _ _ => rw [h2] at e; cases e
theorem rca_len : RCa c (rLn c.K) dLen := by
  refine rca1 (fun W H x a d w rx e Q q => ?_) rfl (fun a b l => by cases a <;> rfl)
  cases a <;> try (cases e; done)
  · rename_i z
    cases rx
    have e : (if z.length ≤ cap then some (D.int (z.length : Int)) else none) = some d := e
    split at e
    · rename_i h
      cases e
      exact ⟨_, z.length, rfl, ⟨cap_le h, rfl⟩, q _ W H w.nref (.int _)⟩
    · cases e
  · cases e
    cases rx with
    | @tup p xs ds hx r1 => exact ⟨_, _, rfl, .inr ⟨xs, w.ex.st hx, r1.length.symm⟩, q _ W H w.nref (.int _)⟩
  · cases e
    cases rx with
    | @lst p xs ds hx r1 => exact ⟨_, _, rfl, .inl ⟨xs, w.ex.sl (.inl (.inl hx)), r1.length.symm⟩, q _ W H w.nref (.int _)⟩
def rLs (K : PySem.W.Frag) : List V → Hp → VK → Prop := fun xs H Q => ∃ p ys, xs = [.ref p] ∧ (SqL K H p ys ∨ SqT K H p ys) ∧ ∀ l, H l = none → Q (.ref l) (upd H l (.lst ys))
def dList : List D → Option (List D)
  | [.tup ds] => some ds
  | [.lst ds] => some ds
  | _ => none
theorem own_list {W H : Hp} {xs : List V} {as ds : List D} (w : Wd c W H) (rx : Reps c.K W xs as) (e : dList as = some ds) : ∃ vs, Reps c.K W vs ds ∧ ∀ Q : VK, (∀ p, H p = none → Q (.ref p) (upd H p (.lst vs))) → rLs c.K xs H Q := by
  cases rx with
  | nil => cases e
  | @cons v vs a as r1 r2 =>
    cases r2 with
    | cons _ _ => cases a <;> cases e
    | nil =>
      cases a <;> try (cases e; done)
      · cases e
        cases r1 with
        | @tup p xs ds hx r => exact ⟨xs, r, fun Q q => ⟨p, xs, rfl, .inr (w.ex.st hx), q⟩⟩
      · cases e
        cases r1 with
        | @lst p xs ds hx r => exact ⟨xs, r, fun Q q => ⟨p, xs, rfl, .inl (w.ex.sl (.inl (.inl hx))), q⟩⟩
theorem rca_list : RCa c (rLs c.K) (fun as => (dList as).map .lst) := by
  intro W H xs as d w rx e Q q
  obtain ⟨ds, e1, rfl⟩ := Option.map_eq_some_iff.mp e
  obtain ⟨vs, hv, h⟩ := own_list w rx e1
  exact h Q (rx_lst w hv Q q)
theorem sf_cb {r : List V → Hp → VK → Prop} {op : List D → Option (List D)} {ta : TA} {ma : MM (List D)} (ho : ∀ W H xs as ds, Wd c W H → Reps c.K W xs as → op as = some ds → ∃ vs, Reps c.K W vs ds ∧ ∀ Q : VK, (∀ p, H p = none → Q (.ref p) (upd H p (.lst vs))) → r xs H Q) (ha : SA c ta ma) :
    SF c (tCB r ta) (bnd ma fun a => lft ((op a).map .lst)) := by
  intro ρ rr e s σ hs Q q
  refine sf_go (t := ta) ha e hs q fun x a ρ s e hs rx q tr => ?_
  obtain ⟨d, e3, rfl⟩ := lft_cases e
  obtain ⟨ds, e4, rfl⟩ := Option.map_eq_some_iff.mp e3
  obtain ⟨vs, hv, h⟩ := ho _ _ x a ds hs.wd rx e4
  exact h Q (post_own hs q hv)
theorem own_list' : ∀ W H xs as ds, Wd c W H → Reps c.K W xs as → dList as = some ds → ∃ vs, Reps c.K W vs ds ∧ ∀ Q : VK, (∀ p, H p = none → Q (.ref p) (upd H p (.lst vs))) → rLs c.K xs H Q := fun _ _ _ _ _ w rx e => own_list w rx e
def rTp (K : PySem.W.Frag) : List V → Hp → VK → Prop := fun xs H Q => ∃ p ys, xs = [.ref p] ∧ ((SqL K H p ys ∧ ∀ l, H l = none → Q (.ref l) (upd H l (.tup ys))) ∨ (SqT K H p ys ∧ Q (.ref p) H))
def dTuple : List D → Option D
  | [.tup ds] => some (.tup ds)
  | [.lst ds] => some (.tup ds)
  | _ => none
theorem rca_tuple : RCa c (rTp c.K) dTuple := by
  refine rca1 (fun W H x a d w rx e Q q => ?_) rfl (fun a b l => by cases a <;> rfl)
  cases a <;> try (cases e; done)
  · cases e
    cases rx with
    | @tup p xs ds hx r1 => exact ⟨p, xs, rfl, .inr ⟨w.ex.st hx, q _ W H w.nref (.tup hx r1)⟩⟩
  · cases e
    cases rx with
    | @lst p xs ds hx r1 => exact ⟨p, xs, rfl, .inl ⟨w.ex.sl (.inl (.inl hx)), rx_tup w r1 Q q⟩⟩
def rMx2 : List V → Hp → VK → Prop := fun xs H Q => ∃ i j, xs = [.int i, .int j] ∧ Q (.int (if j > i then j else i)) H
def dMax2 : List D → Option D
  | [.int i, .int j] => some (.int (if j > i then j else i))
  | _ => none
theorem rca_max2 : RCa c rMx2 dMax2 := by
  intro W H xs as d w rx e Q q
  cases rx with
  | nil => cases e
  | @cons v vs a as r1 r2 =>
    cases r2 with
    | nil => cases a <;> cases e
    | @cons v2 vs2 a2 as2 r2 r3 =>
      cases r3 with
      | cons _ _ => cases a <;> cases a2 <;> cases e
      | nil =>
        cases a <;> try (cases e; done)
        cases a2 <;> try (cases e; done)
        cases e
        cases r1; cases r2
        exact ⟨_, _, rfl, q _ W H w.nref (.int _)⟩
def rInt : List V → Hp → VK → Prop := fun xs H Q => ((∃ i, xs = [.int i] ∧ Q (.int i) H) ∨ ∃ k, xs = [.bl k] ∧ Q (.int (if k then 1 else 0)) H) ∨ ∃ a n, xs = [.str a] ∧ PySem.intText? a = some n ∧ a.length ≤ 640 ∧ Q (.int n) H
theorem call_intAll {X : Cx} : CallR X (.type "int") rInt := by
  intro pins s σ H xs us Q I r h
  rcases h with h | h
  · exact call_int1 pins s σ H xs us Q I r h
  · exact call_int_str pins s σ H xs us Q I r h
def dIntOf : List D → Option D
  | [.int i] => some (.int i)
  | [.bl k] => some (.int (if k then 1 else 0))
  | [.str z] => if z.length ≤ 640 then (PySem.intText? z).map .int else none
  | _ => none
theorem rca_int : RCa c rInt dIntOf := by
  refine rca1 (fun W H x a d w rx e Q q => ?_) rfl (fun a b l => by cases a <;> rfl)
  cases a <;> try (cases e; done)
  · cases e; cases rx; exact .inl (.inr ⟨_, rfl, q _ W H w.nref (.int _)⟩)
  · cases e; cases rx; exact .inl (.inl ⟨_, rfl, q _ W H w.nref (.int _)⟩)
  · rename_i z
    cases rx
    have e : (if z.length ≤ 640 then (PySem.intText? z).map D.int else none) = some d := e
    split at e
    · rename_i h
      obtain ⟨n, e1, rfl⟩ := Option.map_eq_some_iff.mp e
      exact .inr ⟨z, n, rfl, e1, h, q _ W H w.nref (.int _)⟩
    · cases e
def rAbs : List V → Hp → VK → Prop := fun xs H Q => ∃ i, xs = [.int i] ∧ Q (.int (if i < 0 then -i else i)) H
def dAbs : List D → Option D
  | [.int i] => some (.int (if i < 0 then -i else i))
  | _ => none
theorem rca_abs : RCa c rAbs dAbs := by
  refine rca1 (fun W H x a d w rx e Q q => ?_) rfl (fun a b l => by cases a <;> rfl)
  cases a <;> try (cases e; done)
  cases e; cases rx; exact ⟨_, rfl, q _ W H w.nref (.int _)⟩
def rStrI : List V → Hp → VK → Prop := fun xs H Q => ∃ i, xs = [.int i] ∧ i.natAbs.log2 < 1920 ∧ Q (.str (toString i)) H
def dStrI : List D → Option D
  | [.int i] => if i.natAbs.log2 < 1920 then some (.str (toString i)) else none
  | _ => none
theorem rca_str : RCa c rStrI dStrI := by
  refine rca1 (fun W H x a d w rx e Q q => ?_) rfl (fun a b l => by cases a <;> rfl)
  cases a <;> try (cases e; done)
  rename_i i
  cases rx
  have e : (if i.natAbs.log2 < 1920 then some (D.str (toString i)) else none) = some d := e
  split at e
  · rename_i h
    cases e
    exact ⟨i, rfl, h, q _ W H w.nref (.str _)⟩
  · cases e
def intsD : List D → Option (List Int)
  | [] => some []
  | .int i :: ds => (intsD ds).map (i :: ·)
  | _ => none
theorem ints_reps {K : PySem.W.Frag} {W : Hp} : ∀ {vs : List V} {ds : List D} {ns : List Int}, Reps K W vs ds → intsD ds = some ns → vs = ns.map V.int
  | _, _, _, .nil, e => by cases e; rfl
  | _, _, ns, .cons (d := d) r1 r2, e => by
    cases d <;> try (cases e; done)
    obtain ⟨ms, e1, rfl⟩ := Option.map_eq_some_iff.mp e
    cases r1
    rw [List.map_cons, ints_reps r2 e1]
def dSum : List D → Option D
  | [.lst ds] => (intsD ds).map fun ns => .int ns.sum
  | _ => none
theorem rca_sum : RCa c (rSum c.K) dSum := by
  refine rca1 (fun W H x a d w rx e Q q => ?_) rfl (fun a b l => by cases a <;> rfl)
  cases a <;> try (cases e; done)
  obtain ⟨ns, e1, rfl⟩ := Option.map_eq_some_iff.mp e
  cases rx with
  | @lst p xs ds hx r1 =>
    have := ints_reps r1 e1
    subst this
    exact ⟨p, ns, rfl, w.ex.sl (.inl (.inl hx)), q _ W H w.nref (.int _)⟩
/-! ### truth of data -/
def truD : D → Option Bool
  | .non => some false
  | .bl b => some b
  | .int i => some (i != 0)
  | .str z => if z.length ≤ cap then some ((z.length : Int) != 0) else none
  | .tup ds => some (!ds.isEmpty)
  | .lst ds => some (!ds.isEmpty)
  | .dct kvs => some (!kvs.isEmpty)
  | .frz _ => none
theorem isEmpty_repk {K : PySem.W.Frag} {W : Hp} {vs : List (Key × V)} {ds : List (Key × D)} (r : RepK K W vs ds) : vs.isEmpty = ds.isEmpty := by
  cases r <;> rfl
theorem st_tru {te : TE} {m : MM D} (h : SE c te m) : ST c (tTru c.K te) (bnd m fun d => lft (truD d)) := by
  intro ρ rr e s σ hs Q q
  refine sx_go (t := te) h e hs q fun x a ρ s e hs rx q tr => ?_
  obtain ⟨b, e3, rfl⟩ := lft_cases e
  refine ⟨b, ?_, q _ s hs .refl rfl⟩
  cases a with
  | non => cases e3; cases rx; exact rfl
  | bl b => cases e3; cases rx; exact rfl
  | int i => cases e3; cases rx; exact rfl
  | str z =>
    cases rx
    have e : (if z.length ≤ cap then some ((z.length : Int) != 0) else none) = some b := e3
    split at e
    · rename_i h
      cases e
      exact ⟨cap_le h, rfl⟩
    · cases e
  | tup ds =>
    cases e3
    cases rx with
    | @tup p xs _ hx r1 => exact .inr (.inl ⟨xs, hs.ex.st hx, by rw [isEmpty_reps r1]⟩)
  | lst ds =>
    cases e3
    cases rx with
    | @lst p xs _ hx r1 => exact .inl ⟨xs, hs.ex.sl (.inl (.inl hx)), by rw [isEmpty_reps r1]⟩
  | dct ds =>
    cases e3
    cases rx with
    | @dct p xs _ hx r1 => exact .inr (.inr ⟨xs, hs.ex _ _ hx, by rw [isEmpty_repk r1]⟩)
  | frz ds => cases e3
end
end PD
end
section
set_option maxHeartbeats 0
namespace PD
open PySem PySem.Spec PyProof.Rows L2

/-! ### defs -/
def cleanL : Loc → Loc
  | .pin o => .pin o
  | _ => .non
def clean (n : Nat) (ρ : Env) : Env := (ρ.take n).map cleanL
def isPin : Option Loc → Bool
  | some (.pin _) => true
  | _ => false
/-- what was handed in is still there -/
def okEnd (Pm : Nat → Bool) (n : Nat) (ρ : Env) : Bool := decide (n ≤ ρ.length) && (List.range n).all fun i => Pm i == isPin ρ[i]?
theorem okEnd_of {Pm : Nat → Bool} {n : Nat} {ρ : Env} (h : okEnd Pm n ρ = true) : n ≤ ρ.length ∧ ∀ i, i < n → isPin ρ[i]? = Pm i := by
  unfold okEnd at h
  rw [Bool.and_eq_true] at h
  refine ⟨of_decide_eq_true h.1, fun i hi => ?_⟩
  have := List.all_eq_true.mp h.2 i (List.mem_range.mpr hi)
  exact (beq_iff_eq.mp this).symm
/-- a def's mirror: N names, n parameters -/
def runF (Pm : Nat → Bool) (N n : Nat) (m : MS) (ρ : Env) : Option (Res D) := match m (ρ ++ List.replicate (N - n) .non) with
  | some (.nx ρ') => if okEnd Pm n ρ' = true then some (.ok .non (clean n ρ')) else none
  | some (.rt d ρ') => if okEnd Pm n ρ' = true then some (.ok d (clean n ρ')) else none
  | some (.er x ρ') => if okEnd Pm n ρ' = true then some (.er x (clean n ρ')) else none
  | _ => none
section
variable (K : PySem.W.Frag) (tb : TBs) (ca : Str → Addr) (Pm : Nat → Bool)
/-- data, or handed in -/
def ArgL : Loc → Prop
  | .dat _ => True
  | .pin _ => True
  | _ => False
def spG (n : Nat) (F : Env → Option (Res D)) : Sp := fun vs H Q E => ∃ (ρ : Env) (s : Ws) (r : Res D), vs.length = n ∧ SR K tb ρ s (vs.map some) ∧ s.H = H ∧ (∀ i, Pm i = isPin ρ[i]?) ∧ F ρ = some r ∧ match r with
  | .ok d ρ' => ∀ v s', SR K tb ρ' s' (vs.map some) → Tr Pm s s' → Rep K s'.W v d → Q v s'.H
  | .er x ρ' => ∀ s', SR K tb ρ' s' (vs.map some) → Tr Pm s s' → E (.ref (ca x)) none s'.H
def ccOf (E : XK) : Cc := ⟨K, tb, Pm, fun x _ H => E (.ref (ca x)) none H⟩
end
/-- the wish of an exception, from what is wished by names -/
def wOf (ca : Str → Addr) (xw : Str → L2.St → Hp → Prop) : WX := fun cls d σ H => ∃ x, cls = .ref (ca x) ∧ d = none ∧ xw x σ H
section
variable {K : PySem.W.Frag} {tb : TBs} {ca : Str → Addr} {Pm : Nat → Bool}
theorem SR.extend {ρ : Env} {s : Ws} {σ : L2.St} (h : SR K tb ρ s σ) (k : Nat) : SR K tb (ρ ++ List.replicate k .non) s (σ ++ List.replicate k none) := by
  refine ⟨by rw [List.length_append, List.length_append, List.length_replicate, List.length_replicate, h.len], fun i l e => ?_, fun i hi => h.out i (by rw [List.length_append] at hi; omega), h.inj, h.ex, h.nt, h.tb⟩
  by_cases hi : i < ρ.length
  · rw [List.getElem?_append_left hi] at e
    rw [List.getElem?_append_left (by rw [h.len]; exact hi)]
    exact h.loc i l e
  · rw [List.getElem?_append_right (by omega), List.getElem?_replicate] at e
    split at e
    · cases e
      exact h.out i (by omega)
    · cases e
/-- behind a body: what was handed in -/
theorem SR.clean {ρ : Env} {s s0 : Ws} {σ : L2.St} {vs : List V} {n : Nat} (h : SR K tb ρ s σ) (hn : n ≤ ρ.length) (hv : vs.length = n) (hp : ∀ i o, i < n → ρ[i]? = some (.pin o) → ∃ p, s.A i = some p ∧ vs[i]? = some (.ref p)) :
    SR K tb (clean n ρ) ⟨s.W, s.H, fun i => if isPin ((ρ.take n)[i]?) = true then s.A i else none⟩ (vs.map some) := by
  refine ⟨by rw [List.length_map]; unfold PD.clean; rw [List.length_map, List.length_take]; omega, fun i l e => ?_, fun i hi => ?_, fun i j p a b => ?_, h.ex, h.nt, h.tb⟩
  · unfold PD.clean at e
    rw [List.getElem?_map] at e
    obtain ⟨l0, e0, rfl⟩ := Option.map_eq_some_iff.mp e
    have hi : i < n := by
      have := (List.getElem?_eq_some_iff.mp e0).1
      rw [List.length_take] at this
      omega
    have e1 : ρ[i]? = some l0 := by rw [List.getElem?_take_of_lt hi] at e0; exact e0
    show LocOk K s.W s.H _ (if isPin ((ρ.take n)[i]?) = true then s.A i else none) _
    rw [e0]
    cases l0 with
    | pin o =>
      obtain ⟨p, hA, hv2⟩ := hp i o hi e1
      obtain ⟨p', h1, h2, h3, h4⟩ := h.loc i _ e1
      rw [hA] at h1; cases h1
      refine ⟨p, hA, ?_, h3, h4⟩
      rw [List.getElem?_map, hv2]; rfl
    | non => exact rfl
    | dat d => exact rfl
    | own o => exact rfl
  · show (if isPin ((ρ.take n)[i]?) = true then s.A i else none) = none
    have hi' : n ≤ i := by
      unfold PD.clean at hi
      rw [List.length_map, List.length_take] at hi
      omega
    rw [List.getElem?_eq_none (by rw [List.length_take]; omega)]
    rfl
  · have a' : (if isPin ((ρ.take n)[i]?) = true then s.A i else none) = some p := a
    have b' : (if isPin ((ρ.take n)[j]?) = true then s.A j else none) = some p := b
    split at a'
    · split at b'
      · exact h.inj i j p a' b'
      · cases b'
    · cases a'
theorem tr_clean {s0 s : Ws} {ρ : Env} {n : Nat} (h : Tr Pm s0 s) (hp : ∀ i, Pm i = true → isPin ((ρ.take n)[i]?) = true) : Tr Pm s0 ⟨s.W, s.H, fun i => if isPin ((ρ.take n)[i]?) = true then s.A i else none⟩ := by
  refine ⟨h.w, h.n, h.f, fun a ⟨i, hi⟩ => h.o a ⟨i, ?_⟩, h.p, fun i hi => ?_⟩
  · have hi' : (if isPin ((ρ.take n)[i]?) = true then s.A i else none) = some a := hi
    split at hi'
    · exact hi'
    · cases hi'
  · show (if isPin ((ρ.take n)[i]?) = true then s.A i else none) = s0.A i
    rw [if_pos (hp i hi)]
    exact h.pin i hi
section
variable {P : Program} {w : World} {mg : Str → Option Value} {base : Heap}
/-- what SR and the pins say behind a body -/
theorem post_pins {ρ ρ0 : Env} {s s0 : Ws} {σ : L2.St} {vs : List V} {n : Nat} (h0 : SR K tb ρ0 s0 (vs.map some)) (hn : vs.length = n) (t : Tr Pm s0 s) (hPm : ∀ i, Pm i = isPin ρ0[i]?) (h : SR K tb ρ s σ) (hk : ∀ i, i < n → isPin ρ[i]? = isPin ρ0[i]?) :
    ∀ i o, i < n → ρ[i]? = some (.pin o) → ∃ p, s.A i = some p ∧ vs[i]? = some (.ref p) := by
  intro i o hi e
  have e2 : isPin ρ0[i]? = true := by rw [← hk i hi, e]; rfl
  have e3 : ∃ o0, ρ0[i]? = some (.pin o0) := by
    revert e2
    cases ρ0[i]? with
    | none => intro z; cases z
    | some l => cases l <;> intro z <;> first | exact ⟨_, rfl⟩ | cases z
  obtain ⟨o0, e3⟩ := e3
  obtain ⟨p, h1, h2, _, _⟩ := h0.loc i _ e3
  refine ⟨p, (t.pin i (by rw [hPm, e2])).trans h1, ?_⟩
  rw [List.getElem?_map] at h2
  cases z : vs[i]? with
  | none => rw [z] at h2; cases h2
  | some v => rw [z] at h2; cases h2; rfl
theorem okXC {x qual : Str} {st : Stmt} {f : Addr} {fd : FuncData} {N ps : List Str} {k : Nat} {sp : Sp} (F : Fun K x qual st f fd) (S : FnScope N ps (defScope st)) (len : ∀ vs H Q E, sp vs H Q E → vs.length = ps.length)
    (hbody : ∀ (cdv : Value) (A : Around) (outer : List PySem.Env) (s : Shared) (H : Hp) (vs : List V) (Q : VK) (E : XK), fd.code = cdv → Room k (A.deeper (envOfC qual (defScope st) s.heap.objs.size f cdv)) → sp vs H Q E →
      ∃ t, PSs (cxOf (L2.CX P w) P w K mg base N qual (defScope st) f cdv A outer s H E) (defBody st) t ∧ t { nx := fun _ H' => Q .non H', rt := Q } (start N vs) H) : FnOk P w K mg base (L2.CX P w) (k + 1) f fd ps sp := by
  obtain ⟨oc, od, kV, doc, pm, an, cdv, ct, osl, rfl, lk, hcd⟩ := F.ex
  exact fn_of lk hcd S len fun A outer s H vs Q E hr hsp => hbody cdv A outer s H vs Q E rfl hr hsp
theorem fn_pdC {x qual : Str} {st : Stmt} {f : Addr} {fd : FuncData} {N ps : List Str} {k : Nat} {m : MS} (F : Fun K x qual st f fd) (S : FnScope N ps (defScope st))
    (body : ∀ (cdv : Value) (A : Around) (outer : List PySem.Env) (s : Shared) (H : Hp) (E : XK), fd.code = cdv → Room k (A.deeper (envOfC qual (defScope st) s.heap.objs.size f cdv)) →
      ∃ t, PSs (cxOf (L2.CX P w) P w K mg base N qual (defScope st) f cdv A outer s H E) (defBody st) t ∧ SS (ccOf K tb ca Pm E) t m) :
    FnOk P w K mg base (L2.CX P w) (k + 1) f fd ps (spG K tb ca Pm ps.length (runF Pm N.length ps.length m)) := by
  refine okXC F S (fun vs H Q E h => ?_) (fun cdv A outer s H vs Q E hcdv hr h => ?_)
  · obtain ⟨_, _, _, h, _⟩ := h; exact h
  · obtain ⟨ρ, s0, r, hv, hs, rfl, hPm, hF, post⟩ := h
    obtain ⟨t, h1, h2⟩ := body cdv A outer s s0.H E hcdv hr
    refine ⟨t, h1, ?_⟩
    have hρ : ρ.length = ps.length := by rw [← hs.len, List.length_map, hv]
    have hs' := hs.extend (N.length - ps.length)
    have est : L2.start N vs = vs.map some ++ List.replicate (N.length - ps.length) none := by unfold L2.start; rw [hv]
    rw [est]
    unfold runF at hF
    have pin1 : ∀ {ρ' : Env}, okEnd Pm ps.length ρ' = true → ∀ i, i < ps.length → isPin ρ'[i]? = isPin ρ[i]? := fun {ρ'} e i hi => by
      rw [(okEnd_of e).2 i hi, hPm]
    have pin2 : ∀ {ρ' : Env}, okEnd Pm ps.length ρ' = true → ∀ i, Pm i = true → isPin ((ρ'.take ps.length)[i]?) = true := fun {ρ'} e i hi => by
      have hlt : i < ps.length := by
        by_cases z : i < ps.length
        · exact z
        · rw [hPm, List.getElem?_eq_none (by omega)] at hi; cases hi
      rw [List.getElem?_take_of_lt hlt, (okEnd_of e).2 i hlt]
      exact hi
    split at hF
    · rename_i ρ' e
      split at hF
      · rename_i ok
        cases hF
        refine h2 _ _ e s0 _ hs' _ fun s' σ' a b => ?_
        have pp := post_pins (n := ps.length) hs hv b hPm a (pin1 ok)
        exact post .non ⟨s'.W, s'.H, fun i => if isPin ((ρ'.take ps.length)[i]?) = true then s'.A i else none⟩ (a.clean (s0 := s0) (okEnd_of ok).1 hv pp) (tr_clean b (pin2 ok)) .non
      · cases hF
    · rename_i d ρ' e
      split at hF
      · rename_i ok
        cases hF
        refine h2 _ _ e s0 _ hs' _ fun v s' σ' a b r => ?_
        have pp := post_pins (n := ps.length) hs hv b hPm a (pin1 ok)
        exact post v ⟨s'.W, s'.H, fun i => if isPin ((ρ'.take ps.length)[i]?) = true then s'.A i else none⟩ (a.clean (s0 := s0) (okEnd_of ok).1 hv pp) (tr_clean b (pin2 ok)) r
      · cases hF
    · rename_i y ρ' e
      split at hF
      · rename_i ok
        cases hF
        refine h2 _ _ e s0 _ hs' _ fun s' σ' a b => ?_
        have pp := post_pins (n := ps.length) hs hv b hPm a (pin1 ok)
        exact post ⟨s'.W, s'.H, fun i => if isPin ((ρ'.take ps.length)[i]?) = true then s'.A i else none⟩ (a.clean (s0 := s0) (okEnd_of ok).1 hv pp) (tr_clean b (pin2 ok))
      · cases hF
    · cases hF
theorem fn_pd {x qual : Str} {st : Stmt} {f : Addr} {fd : FuncData} {N ps : List Str} {k : Nat} {m : MS} (F : Fun K x qual st f fd) (S : FnScope N ps (defScope st))
    (body : ∀ (cdv : Value) (A : Around) (outer : List PySem.Env) (s : Shared) (H : Hp) (E : XK), Room k (A.deeper (envOfC qual (defScope st) s.heap.objs.size f cdv)) →
      ∃ t, PSs (cxOf (L2.CX P w) P w K mg base N qual (defScope st) f cdv A outer s H E) (defBody st) t ∧ SS (ccOf K tb ca Pm E) t m) :
    FnOk P w K mg base (L2.CX P w) (k + 1) f fd ps (spG K tb ca Pm ps.length (runF Pm N.length ps.length m)) := fn_pdC F S fun cdv A outer s H E _ hr => body cdv A outer s H E hr
end
end

/-! ### calls of defs -/
def noPin : Nat → Bool := fun _ => false
def pin0 : Nat → Bool := fun i => i == 0
def mCall (F : Env → Option (Res D)) (ma : MM (List D)) : MM D := bnd ma fun ds ρ => match F (ds.map .dat) with
  | some (.ok d _) => some (.ok d ρ)
  | some (.er x _) => some (.er x ρ)
  | none => none
def locsP (o : Own) (ds : List D) : Env := .pin o :: ds.map .dat
def mCallP (F : Env → Option (Res D)) (j : Nat) (ma : MM (List D)) : MM D := fun ρ => match ownAt ρ j with
  | some _ => bnd ma (fun ds ρ => match ownAt ρ j with
    | some o => match F (locsP o ds) with
      | some (.ok d (.pin o2 :: _)) => some (.ok d (ownSet ρ j o2))
      | some (.er x (.pin o2 :: _)) => some (.er x (ownSet ρ j o2))
      | _ => none
    | none => none) ρ
  | none => none
section
variable {c : Cc} {ca : Str → Addr}
theorem sr_dat {vs : List V} {ds : List D} {W H : Hp} (r : Reps c.K W vs ds) (w : Wd c W H) : SR c.K c.tb (ds.map .dat) ⟨W, H, fun _ => none⟩ (vs.map some) := by
  refine ⟨by rw [List.length_map, List.length_map, r.length], fun i l e => ?_, fun _ _ => rfl, (fun i j p a => nomatch a), w.ex, w.nt, w.tb⟩
  rw [List.getElem?_map] at e
  obtain ⟨d, e1, rfl⟩ := Option.map_eq_some_iff.mp e
  obtain ⟨v, hv, rv⟩ := r.getD e1
  exact ⟨rfl, v, by rw [List.getElem?_map, hv]; rfl, rv⟩
theorem nw_of_tr {W H : Hp} {s' : Ws} {ρ : Env} {σ : L2.St} (t : Tr noPin ⟨W, H, fun _ => none⟩ s') (h : SR c.K c.tb ρ s' σ) : Nw c.tb W H s'.W s'.H := by
  have no : ∀ a, ¬ OwnsA ⟨W, H, fun _ => none⟩ a := fun a ⟨i, hi⟩ => nomatch hi
  exact ⟨t.w, h.ex, h.nt, fun a h1 h2 => t.n a h1 (no a) h2, fun a o h1 h2 => t.f a o (no a) h1 h2, t.p, h.tb⟩
theorem isPin_dat (ds : List D) (i : Nat) : isPin ((ds.map Loc.dat)[i]?) = false := by
  rw [List.getElem?_map]
  cases ds[i]? <;> rfl
theorem se_call {n : Nat} {F : Env → Option (Res D)} {t : TA} {ma : MM (List D)} (h : SA c t ma) (hn : ∀ ρ as ρ', ma ρ = some (.ok as ρ') → as.length = n) :
    SE c (tCallSD (spG c.K c.tb ca noPin n F) [] (WE (wOf ca c.xw)) t) (mCall F ma) := by
  intro ρ rr e s σ hs Q q
  rcases bnd_cases e with ⟨as, ρ1, e1, e2⟩ | ⟨x, ρ1, e1, rfl⟩
  · refine h ρ _ e1 s σ hs _ fun vs s1 hs1 t1 rv => ?_
    have q1 := q.after t1
    have len := hn _ _ _ e1
    have fin : ∃ r, F (as.map .dat) = some r ∧ (match r with
        | .ok d ρ' => ∀ v s', SR c.K c.tb ρ' s' ((vs ++ []).map some) → Tr noPin ⟨s1.W, s1.H, fun _ => none⟩ s' → Rep c.K s'.W v d → Q v s'.H
        | .er x ρ' => ∀ s', SR c.K c.tb ρ' s' ((vs ++ []).map some) → Tr noPin ⟨s1.W, s1.H, fun _ => none⟩ s' → WE (wOf ca c.xw) σ (.ref (ca x)) none s'.H) := by
      have e2 : (match F (as.map .dat) with
        | some (.ok d _) => some (.ok d ρ1)
        | some (.er x _) => some (.er x ρ1)
        | none => none) = some rr := e2
      split at e2
      · rename_i d ρ' eF
        cases e2
        exact ⟨_, eF, fun v s' a b r => q1 v ⟨s'.W, s'.H, s1.A⟩ (hs1.nw (nw_of_tr b a)) (.nw (nw_of_tr b a)) r⟩
      · rename_i x ρ' eF
        cases e2
        exact ⟨_, eF, fun s' a b => ⟨x, rfl, rfl, q1 ⟨s'.W, s'.H, s1.A⟩ (hs1.nw (nw_of_tr b a)) (.nw (nw_of_tr b a))⟩⟩
      · cases e2
    obtain ⟨r, hF, hp⟩ := fin
    refine ⟨as.map .dat, ⟨s1.W, s1.H, fun _ => none⟩, r, ?_, ?_, rfl, fun i => (isPin_dat as i).symm, hF, hp⟩
    · rw [List.append_nil, rv.length, len]
    · rw [List.append_nil]; exact sr_dat rv hs1.wd
  · exact h ρ _ e1 s σ hs _ fun s1 a b => q s1 a b
theorem sr_pin {vs : List V} {ds : List D} {W H : Hp} {p : Addr} {o : Own} (r : Reps c.K W vs ds) (w : Wd c W H) (wp : W p = none) (ho : OwnOk c.K W H p o) : SR c.K c.tb (locsP o ds) ⟨W, H, fun i => if i = 0 then some p else none⟩ ((V.ref p :: vs).map some) := by
  refine ⟨?_, fun i l e => ?_, fun i hi => ?_, fun i j q a b => ?_, w.ex, w.nt, w.tb⟩
  · unfold locsP
    rw [List.length_map, List.length_cons, List.length_cons, List.length_map, r.length]
  · cases i with
    | zero =>
      have e : some (Loc.pin o) = some l := e
      cases e
      exact ⟨p, rfl, rfl, wp, ho⟩
    | succ i =>
      have e : (ds.map Loc.dat)[i]? = some l := e
      rw [List.getElem?_map] at e
      obtain ⟨d, e1, rfl⟩ := Option.map_eq_some_iff.mp e
      obtain ⟨v, hv, rv⟩ := r.getD e1
      refine ⟨rfl, v, ?_, rv⟩
      show ((vs.map some)[i]?).getD none = some v
      rw [List.getElem?_map, hv]; rfl
  · have : 0 < i := by unfold locsP at hi; rw [List.length_cons] at hi; omega
    exact if_neg (by omega)
  · have a' : (if i = 0 then some p else none) = some q := a
    have b' : (if j = 0 then some p else none) = some q := b
    split at a'
    · split at b'
      · omega
      · cases b'
    · cases a'
theorem isPin_locsP (o : Own) (ds : List D) (i : Nat) : isPin ((locsP o ds)[i]?) = pin0 i := by
  cases i with
  | zero => rfl
  | succ i => exact isPin_dat ds i
/-- behind a call that changed what slot j has -/
theorem sr_back {ρ : Env} {s s' : Ws} {σ : L2.St} {j : Nat} {o o2 : Own} {p : Addr} {ρ2 : Env} {σ2 : L2.St} (hs : SR c.K c.tb ρ s σ) (e : ownAt ρ j = some o) (hA : s.A j = some p) (t : Tr pin0 ⟨s.W, s.H, fun i => if i = 0 then some p else none⟩ s') (h : SR c.K c.tb (.pin o2 :: ρ2) s' σ2) (hv : σ2[0]? = some (some (.ref p))) :
    SR c.K c.tb (ownSet ρ j o2) ⟨s'.W, s'.H, s.A⟩ σ ∧ Tr c.P s ⟨s'.W, s'.H, s.A⟩ := by
  have ow : ∀ a, OwnsA ⟨s.W, s.H, fun i => if i = 0 then some p else none⟩ a → a = p := fun a ⟨i, hi⟩ => by
    have hi' : (if i = 0 then some p else none) = some a := hi
    split at hi'
    · exact (Option.some.inj hi').symm
    · cases hi'
  obtain ⟨p', hA', hv', wp, ho⟩ := hs.own e
  rw [hA] at hA'; cases hA'
  obtain ⟨z, hz, nz⟩ := ho.there
  obtain ⟨p2, k1, k2, k3, k4⟩ := h.loc 0 (.pin o2) rfl
  have : p2 = p := by
    rw [hv] at k2
    cases k2; rfl
  subst this
  have len : (ownSet ρ j o2).length = ρ.length := by
    unfold ownSet; split <;> rw [List.length_set]
  refine ⟨⟨hs.len.trans len.symm, fun i l el => ?_, fun i hi => hs.out i (by rw [len] at hi; exact hi), hs.inj, h.ex, h.nt, h.tb⟩, ⟨t.w, fun a h1 h2 h3 => ?_, fun a u h1 h2 h3 => ?_, fun a h => .inl h, t.p, fun _ _ => rfl⟩⟩
  · by_cases hi : i = j
    · have gl : LocOk c.K s'.W s'.H ((σ[i]?).getD none) (s.A i) (.own o2) := by rw [hi]; exact ⟨p2, hA, by rw [hv']; rfl, k3, k4⟩
      have hl : l = .own o2 ∨ l = .pin o2 := by
        rw [hi] at el
        unfold ownSet at el
        split at el
        · rcases getElem_set el with ⟨_, q, _⟩ | ⟨q, _⟩
          · exact .inr q
          · exact absurd rfl q
        · rcases getElem_set el with ⟨_, q, _⟩ | ⟨q, _⟩
          · exact .inl q
          · exact absurd rfl q
      rcases hl with rfl | rfl
      · exact gl
      · exact gl
    · have ej' : ρ[i]? = some l := by
        unfold ownSet at el
        split at el
        · exact (List.getElem?_set_ne (Ne.symm hi)).symm.trans el
        · exact (List.getElem?_set_ne (Ne.symm hi)).symm.trans el
      have np : ∀ a, s.A i = some a → a ≠ p2 := fun a ha w => hi (hs.inj i j a ha (by rw [hA, w]))
      exact (hs.loc i l ej').mono t.w (fun a ha h1 h2 => t.n a h1 (fun z => np a ha (ow a z)) h2) fun a ha u nu hu => t.f a u (fun z => np a ha (ow a z)) hu nu
  · exact t.n a h1 (fun z => h2 (by rw [ow a z]; exact ⟨j, hA⟩)) h3
  · exact t.f a u (fun z => h1 (by rw [ow a z]; exact ⟨j, hA⟩)) h2 h3
theorem se_callP {n j : Nat} {F : Env → Option (Res D)} {t : TA} {ma : MM (List D)} (h : SA c t ma) (hn : ∀ ρ as ρ', ma ρ = some (.ok as ρ') → as.length + 1 = n) :
    SE c (tCallSD (spG c.K c.tb ca pin0 n F) [] (WE (wOf ca c.xw)) (tCons (tVar j) t)) (mCallP F j ma) := by
  intro ρ rr e s σ hs Q q
  have e : (match ownAt ρ j with
    | some _ => bnd ma (fun ds ρ => match ownAt ρ j with
      | some o => match F (locsP o ds) with
        | some (.ok d (.pin o2 :: _)) => some (Res.ok d (ownSet ρ j o2))
        | some (.er x (.pin o2 :: _)) => some (.er x (ownSet ρ j o2))
        | _ => none
      | none => none) ρ
    | none => none) = some rr := e
  split at e
  · rename_i o0 eo0
    obtain ⟨p, hA, hv, wp, ho⟩ := hs.own eo0
    refine ⟨.ref p, hv, ?_⟩
    rcases bnd_cases e with ⟨as, ρ1, e1, e2⟩ | ⟨x, ρ1, e1, rfl⟩
    · refine h ρ _ e1 s σ hs _ fun vs s1 hs1 t1 rv => ?_
      have q1 := q.after t1
      have len := hn _ _ _ e1
      split at e2
      · rename_i o eo
        obtain ⟨p1, hA1, hv1, wp1, ho1⟩ := hs1.own eo
        rw [hv] at hv1
        cases hv1
        have fin : ∃ r, F (locsP o as) = some r ∧ (match r with
          | .ok d ρ' => ∀ v s', SR c.K c.tb ρ' s' ((V.ref p :: vs ++ []).map some) → Tr pin0 ⟨s1.W, s1.H, fun i => if i = 0 then some p else none⟩ s' → Rep c.K s'.W v d → Q v s'.H
          | .er x ρ' => ∀ s', SR c.K c.tb ρ' s' ((V.ref p :: vs ++ []).map some) → Tr pin0 ⟨s1.W, s1.H, fun i => if i = 0 then some p else none⟩ s' → WE (wOf ca c.xw) σ (.ref (ca x)) none s'.H) := by
          split at e2
          · rename_i d o2 ρ' eF
            cases e2
            refine ⟨_, eF, fun v s' a b r => ?_⟩
            obtain ⟨k1, k2⟩ := sr_back hs1 eo hA1 b a rfl
            exact q1 v ⟨s'.W, s'.H, s1.A⟩ k1 k2 r
          · rename_i x o2 ρ' eF
            cases e2
            refine ⟨_, eF, fun s' a b => ?_⟩
            obtain ⟨k1, k2⟩ := sr_back hs1 eo hA1 b a rfl
            exact ⟨x, rfl, rfl, q1 ⟨s'.W, s'.H, s1.A⟩ k1 k2⟩
          · cases e2
        obtain ⟨r, hF, hp⟩ := fin
        refine ⟨locsP o as, ⟨s1.W, s1.H, fun i => if i = 0 then some p else none⟩, r, ?_, ?_, rfl, fun i => (isPin_locsP o as i).symm, hF, hp⟩
        · rw [List.append_nil, List.length_cons, rv.length, len]
        · rw [List.append_nil]; exact sr_pin rv hs1.wd wp1 ho1
      · cases e2
    · exact h ρ _ e1 s σ hs _ fun s1 a b => q s1 a b
  · cases e
/-! ### raise -/
def mRaise (x : Str) : MS := fun ρ => some (.er x ρ)
def mRaiseE (x : Str) (m : MM D) : MS := mE m fun _ ρ => some (.er x ρ)
theorem ss_raise {x : Str} : SS c (fun _ σ H => wOf ca c.xw (.ref (ca x)) none σ H) (mRaise x) := by
  intro ρ o e s σ hs E q
  cases e
  exact ⟨x, rfl, rfl, q s σ hs .refl⟩
theorem ss_raiseE {x : Str} {te : TE} {m : MM D} (h : SE c te m) : SS c (fun _ σ H => te σ H fun _ H1 => wOf ca c.xw (.ref (ca x)) none σ H1) (mRaiseE x m) := by
  intro ρ o e s σ hs E q
  refine ss_go (t := te) (R := fun _ H1 => wOf ca c.xw (.ref (ca x)) none σ H1) h e hs q fun v d ρ s e hs rx q tr => ?_
  cases e
  exact ⟨x, rfl, rfl, q s σ hs .refl⟩
end
end PD
end
section
set_option maxHeartbeats 0
namespace PD
open PySem PySem.Spec PyProof.Rows L2

/-! ### a list or tuple, walked -/
def iSeq (K : PySem.W.Frag) (tl : TE) : TI := fun σ H R => tl σ H fun x H1 => ∃ a, x = .ref a ∧ (((∃ xs, SqL K H1 a xs) ∧ R (Itl K a) H1) ∨ ((∃ xs, SqT K H1 a xs) ∧ R (Itt K a) H1))
section
variable {X : Cx} {tg : Expr}
theorem pi_seq {l : Expr} {tl : TE} (hl : PE X l tl) : PI X tg l (iSeq X.K tl) := by
  refine ⟨fun pins s σ H R I h => ?_⟩
  refine thn (hl.run pins s σ H _ I h) fun v s1 ⟨x, H1, I1, r1, q1⟩ => ?_
  obtain ⟨a, e, h1⟩ := q1
  subst e
  cases r1
  rcases h1 with ⟨⟨xs, hq⟩, q⟩ | ⟨⟨xs, hq⟩, q⟩
  · obtain ⟨its, rv, p, hz⟩ := I1.list hq
    refine wpAny_pyIter_list p.isList ?_
    refine ⟨s1.heap.objs.size, [s1.heap.objs.size], _, _, H1, rfl, I1.kept (t' := s1.toks) fun b o e => Heap.get?_push_of_some _ e, turn_list a _, ⟨_, Heap.get?_push_size _ rfl, rfl, rfl⟩, fun b hb => ?_, q⟩
    have e : b = s1.heap.objs.size := by simpa using hb
    subst e
    exact I1.fpOk (Nat.le_refl _) (I1.hok.fresh (Nat.le_refl _))
  · obtain ⟨its, rv, p, hz⟩ := I1.tuple hq
    refine wpAny_pyIter_tuple (show s1.heap.IsTuple a its.toArray from p) ?_
    refine ⟨s1.heap.objs.size, [s1.heap.objs.size], _, _, H1, rfl, I1.kept (t' := s1.toks) fun b o e => Heap.get?_push_of_some _ e, turn_tuple a _, ⟨_, Heap.get?_push_size _ rfl, rfl, rfl⟩, fun b hb => ?_, q⟩
    have e : b = s1.heap.objs.size := by simpa using hb
    subst e
    exact I1.fpOk (Nat.le_refl _) (I1.hok.fresh (Nat.le_refl _))
end

/-! ### comprehensions -/
def wipeE (ρ : Env) : List Nat → Env
  | [] => ρ
  | v :: vs => (wipeE ρ vs).set v .non
def compL (g : D → Env → Option Env) (t : MM Bool) (e : MM D) (vs : List Nat) : List D → List D → Env → Option (List D × Env)
  | [], acc, ρ => some (acc, ρ)
  | d :: ds, acc, ρ => match g d ρ with
    | none => none
    | some ρ1 => match t ρ1 with
      | some (.ok true ρ2) => match e ρ2 with
        | some (.ok y ρ3) => if acc.length < cap then compL g t e vs ds (acc ++ [y]) (wipeE ρ3 vs) else none
        | _ => none
      | some (.ok false ρ2) => compL g t e vs ds acc (wipeE ρ2 vs)
      | _ => none
def restE (ρ : Env) : List Nat → Env → Env
  | [], ρ' => ρ'
  | v :: vs, ρ' => restE ρ vs (ρ'.set v (match ρ[v]? with
    | some (.dat d) => .dat d
    | _ => .non))
def mComp (mi : MM (List D)) (vs : List Nat) (g : D → Env → Option Env) (t : MM Bool) (e : MM D) : MM (List D) := bnd mi fun ds ρ => match compL g t e vs ds [] (wipeE ρ vs) with
  | some (ys, ρ') => some (.ok ys (restE ρ vs ρ'))
  | none => none
theorem wipe_get (σ : L2.St) (i : Nat) : ∀ vs : List Nat, (wipe σ vs)[i]? = if i ∈ vs ∧ i < σ.length then some none else σ[i]?
  | [] => by simp [wipe]
  | v :: vs => by
    unfold wipe
    by_cases h : v = i
    · subst h
      by_cases hl : v < σ.length
      · rw [List.getElem?_set_self (by rw [wipe_length]; exact hl), if_pos ⟨List.mem_cons_self, hl⟩]
      · rw [List.getElem?_eq_none (by rw [List.length_set, wipe_length]; omega), if_neg (fun z => hl z.2), List.getElem?_eq_none (by omega)]
    · rw [List.getElem?_set_ne h, wipe_get σ i vs]
      have : (i ∈ v :: vs) ↔ i ∈ vs := by
        rw [List.mem_cons]
        exact ⟨fun z => z.resolve_left (fun w => h w.symm), .inr⟩
      simp only [this]
theorem wipe_wipe (σ : L2.St) (vs : List Nat) : wipe (wipe σ vs) vs = wipe σ vs := by
  apply List.ext_getElem?
  intro i
  rw [wipe_get, wipe_length, wipe_get]
  split
  · rfl
  · rfl
theorem wipe_set (σ : L2.St) (vs : List Nat) (i : Nat) (x : Option V) (h : i ∈ vs) : wipe (σ.set i x) vs = wipe σ vs := by
  apply List.ext_getElem?
  intro j
  rw [wipe_get, wipe_get, List.length_set]
  split
  · rfl
  · rename_i hn
    by_cases e : j = i
    · subst e
      have hl : ¬ j < σ.length := fun z => hn ⟨h, z⟩
      rw [List.getElem?_eq_none (by rw [List.length_set]; omega), List.getElem?_eq_none (by omega)]
    · rw [List.getElem?_set_ne (Ne.symm e)]
/-- a target that stores into the block's own slots alone -/
def GW (vs : List Nat) (g : TG) : Prop := ∀ v σ H (Q : L2.St → Hp → Prop), (g v σ H fun σ' H' => wipe σ' vs = wipe σ vs → Q σ' H') → g v σ H fun σ' H' => wipe σ' vs = wipe σ vs ∧ Q σ' H'
def GWs (vs : List Nat) (g : TGs) : Prop := ∀ v σ H (Q : L2.St → Hp → Prop), (g v σ H fun σ' H' => wipe σ' vs = wipe σ vs → Q σ' H') → g v σ H fun σ' H' => wipe σ' vs = wipe σ vs ∧ Q σ' H'
theorem gw_name {vs : List Nat} {i : Nat} (h : i ∈ vs) : GW vs (gName i) := fun v σ H Q q => ⟨wipe_set σ vs i _ h, q (wipe_set σ vs i _ h)⟩
theorem gw_nil {vs : List Nat} : GWs vs gNil := fun v σ H Q ⟨e, q⟩ => ⟨e, rfl, q rfl⟩
theorem gw_cons {vs : List Nat} {i : Nat} {u : TGs} (h : i ∈ vs) (k : GWs vs u) : GWs vs (gCons (gName i) u) := fun v σ H Q ⟨a, r, e, q⟩ => by
  refine ⟨a, r, e, ?_⟩
  have q : u r (σ.set i (some a)) H fun σ' H' => wipe σ' vs = wipe σ vs → Q σ' H' := q
  rw [← wipe_set σ vs i (some a) h] at q
  have z := k r (σ.set i (some a)) H Q q
  rw [wipe_set σ vs i _ h] at z
  exact z
theorem gw_tup {vs : List Nat} {K : PySem.W.Frag} {n : Nat} {u : TGs} (k : GWs vs u) : GW vs (gTup K n u) := fun v σ H Q ⟨a, xs, e, h1, h2, q⟩ => ⟨a, xs, e, h1, h2, k xs σ H Q q⟩
section
variable {c : Cc}
theorem sr_wipe : ∀ (vs : List Nat) {ρ : Env} {s : Ws} {σ : L2.St}, SR c.K c.tb ρ s σ → (∀ v ∈ vs, c.P v = false) → ∃ A, SR c.K c.tb (wipeE ρ vs) ⟨s.W, s.H, A⟩ (wipe σ vs) ∧ Tr c.P s ⟨s.W, s.H, A⟩
  | [], ρ, s, σ, h, _ => ⟨s.A, h, .refl⟩
  | v :: vs, ρ, s, σ, h, hP => by
    obtain ⟨A, k1, k2⟩ := sr_wipe vs h fun v hv => hP v (List.mem_cons_of_mem _ hv)
    by_cases hi : v < (wipeE ρ vs).length
    · exact ⟨updA A v none, k1.letgo (l := .non) (ov := none) (oa := none) hi rfl (fun _ z => nomatch z), k2.trans (tr_letgo (s := ⟨s.W, s.H, A⟩) (oa := none) (hP v List.mem_cons_self) (fun _ z => nomatch z))⟩
    · refine ⟨A, ?_, k2⟩
      unfold wipeE wipe
      rw [List.set_eq_of_length_le (by omega), List.set_eq_of_length_le (by rw [k1.len]; omega)]
      exact k1
/-- the block's own slots get back what they had -/
theorem sr_rest : ∀ (vs : List Nat) {ρ ρ0 : Env} {s s0 : Ws} {σ : L2.St}, SR c.K c.tb ρ0 s0 σ → Ex s0.W s.W → SR c.K c.tb ρ s (wipe σ vs) → vs.Nodup → (∀ v ∈ vs, v < ρ0.length) → (∀ v ∈ vs, c.P v = false) → ∃ A, SR c.K c.tb (restE ρ0 vs ρ) ⟨s.W, s.H, A⟩ σ ∧ Tr c.P s ⟨s.W, s.H, A⟩
  | [], ρ, ρ0, s, s0, σ, h0, e, h, _, _, _ => ⟨s.A, h, .refl⟩
  | v :: vs, ρ, ρ0, s, s0, σ, h0, e, h, nd, hl, hP => by
    have hv : v ∉ vs := (List.nodup_cons.mp nd).1
    have hlt : v < σ.length := by rw [h0.len]; exact hl v List.mem_cons_self
    have lw : (wipe σ vs).length = σ.length := wipe_length σ vs
    have hlr : v < ρ.length := by
      rw [← h.len]
      unfold wipe
      rw [List.length_set, lw]; exact hlt
    have hg : (wipe σ vs)[v]? = σ[v]? := by rw [wipe_get, if_neg (fun z => hv z.1)]
    obtain ⟨x, hx⟩ : ∃ x, σ[v]? = some x := ⟨_, List.getElem?_eq_getElem hlt⟩
    have back : ((wipe σ vs).set v none).set v x = wipe σ vs := by
      apply List.ext_getElem?
      intro j
      by_cases ej : j = v
      · subst ej
        rw [List.getElem?_set_self (by rw [List.length_set, lw]; exact hlt), hg, hx]
      · rw [List.getElem?_set_ne (Ne.symm ej), List.getElem?_set_ne (Ne.symm ej)]
    have ok : LocOk c.K s.W s.H x none (match ρ0[v]? with
      | some (.dat d) => Loc.dat d
      | _ => .non) := by
      split
      · rename_i d ed
        obtain ⟨_, u, hu, ru⟩ := h0.loc v _ ed
        rw [hx] at hu
        exact ⟨rfl, u, hu, ru.mono e⟩
      · exact rfl
    have k := h.letgo (oa := none) hlr ok (fun _ z => nomatch z)
    unfold wipe at k
    rw [back] at k
    obtain ⟨A, k1, k2⟩ := sr_rest vs (s := ⟨s.W, s.H, updA s.A v none⟩) h0 e k (List.nodup_cons.mp nd).2 (fun u hu => hl u (List.mem_cons_of_mem _ hu)) fun u hu => hP u (List.mem_cons_of_mem _ hu)
    exact ⟨A, k1, (tr_letgo (oa := none) (hP v List.mem_cons_self) (fun _ z => nomatch z)).trans k2⟩
/-- where a comprehension stands ahead of turn i -/
def CompAt (c : Cc) (g : D → Env → Option Env) (t : MM Bool) (e : MM D) (vs : List Nat) (ds : List D) (s : Ws) (σ : L2.St) (r : List D × Env) (L : Addr) (i : Nat) (H : Hp) : Prop :=
  ∃ ρ s' acc dacc, SR c.K c.tb ρ s' (wipe σ vs) ∧ s'.H = H ∧ Tr c.P s s' ∧ H L = some (.lst acc) ∧ Reps c.K s'.W acc dacc ∧ s'.W L = none ∧ ¬ OwnsA s' L ∧ compL g t e vs (ds.drop i) dacc ρ = some r
/-- the list that is being made grows -/
theorem sr_grow {ρ : Env} {s : Ws} {σ : L2.St} {L : Addr} {acc ys : List V} (h : SR c.K c.tb ρ s σ) (hL : s.H L = some (.lst acc)) (wL : s.W L = none) (nL : ¬ OwnsA s L) : SR c.K c.tb ρ ⟨s.W, upd s.H L (.lst ys), s.A⟩ σ := by
  refine ⟨h.len, fun i l e => (h.loc i l e).mono (Ex.refl _) (fun _ _ _ w => w) fun p hp u _ q => ?_, h.out, h.inj, fun a o q => ?_, h.nt, h.tb.ext fun a o q n1 n2 => ?_⟩
  · have : p ≠ L := fun z => nL ⟨i, by rw [← z]; exact hp⟩
    exact (upd_ne this).trans q
  · have : a ≠ L := fun z => by rw [z, wL] at q; cases q
    show upd s.H L (.lst ys) a = some o
    rw [upd_ne this]; exact h.ex a o q
  · have : a ≠ L := fun z => by rw [z, hL] at q; cases q; exact n1 _ rfl
    exact (upd_ne this).trans q
theorem tr_grow {s0 s : Ws} {L : Addr} {ys : List V} (t : Tr c.P s0 s) (hL : s0.H L = none) : Tr c.P s0 ⟨s.W, upd s.H L (.lst ys), s.A⟩ := by
  refine ⟨t.w, t.n, fun a u h1 h2 h3 => ?_, t.o, fun a h => ?_, t.pin⟩
  · have : a ≠ L := fun z => by rw [z, hL] at h2; cases h2
    show upd s.H L (.lst ys) a = some u
    rw [upd_ne this]; exact t.f a u h1 h2 h3
  · have : a ≠ L := fun z => h (by rw [z]; exact hL)
    show upd s.H L (.lst ys) a ≠ none
    rw [upd_ne this]; exact t.p a h
theorem comp_turnR {c' : Cc} {g : TG} {tt : TT} {te : TE} {mg : D → Env → Option Env} {mt : MM Bool} {me : MM D} {vs : List Nat} {ds : List D} {s : Ws} {σ : L2.St} {r : List D × Env} {L : Addr} (hc : c'.K = c.K ∧ c'.tb = c.tb ∧ c'.P = c.P) (hg : SG c' g mg) (hw : GW vs g) (ht : ST c' tt mt) (he : SE c' te me) (hP : ∀ v ∈ vs, c.P v = false)
    (hL : s.H L = none) {i : Nat} {d : D} {x : V} {H : Hp} (hd : ds[i]? = some d)
    (h : ∃ ρ s' acc dacc, SR c.K c.tb ρ s' (wipe σ vs) ∧ s'.H = H ∧ Tr c.P s s' ∧ H L = some (.lst acc) ∧ Reps c.K s'.W acc dacc ∧ s'.W L = none ∧ ¬ OwnsA s' L ∧ compL mg mt me vs (ds.drop i) dacc ρ = some r ∧ Rep c.K s'.W x d) :
    g x (wipe σ vs) H fun σ2 H2 => wipe σ2 vs = wipe σ vs ∧ tt σ2 H2 fun b H3 => if b = true then te σ2 H3 fun y H4 => ∃ acc, H4 L = some (.lst acc) ∧ acc.length < sizeLine ∧ CompAt c mg mt me vs ds s σ r L (i + 1) (upd H4 L (.lst (acc ++ [y]))) else CompAt c mg mt me vs ds s σ r L (i + 1) H3 := by
  obtain ⟨K', tb', P', xw'⟩ := c'
  obtain ⟨rfl, rfl, rfl⟩ := hc
  obtain ⟨ρ, s1, acc, dacc, hs, rfl, tr, hacc, racc, wL, nL, e, rv0⟩ := h
  have hi := (List.getElem?_eq_some_iff.mp hd).1
  have hd2 : ds.drop i = d :: ds.drop (i + 1) := by
    rw [List.drop_eq_getElem_cons hi, (List.getElem?_eq_some_iff.mp hd).2]
  rw [hd2] at e
  unfold compL at e
  have keep : ∀ {s2 : Ws}, Tr c.P s1 s2 → s2.H L = some (.lst acc) ∧ s2.W L = none ∧ ¬ OwnsA s2 L := fun {s2} t => by
    refine ⟨t.f L _ nL hacc (fun _ z => nomatch z), t.n L (by rw [hacc]; exact fun z => nomatch z) nL wL, fun z => ?_⟩
    rcases t.o L z with z | z
    · exact nL z
    · rw [hacc] at z; cases z
  split at e
  · cases e
  · rename_i ρ1 e1
    have z := hg d ρ ρ1 e1 x s1 (wipe σ vs) hs rv0 (fun σ2 H2 => wipe σ2 vs = wipe σ vs → tt σ2 H2 fun b H3 => if b = true then te σ2 H3 fun y H4 => ∃ acc, H4 L = some (.lst acc) ∧ acc.length < sizeLine ∧ CompAt c mg mt me vs ds s σ r L (i + 1) (upd H4 L (.lst (acc ++ [y]))) else CompAt c mg mt me vs ds s σ r L (i + 1) H3) ?_
    · have z2 := hw x (wipe σ vs) s1.H (fun σ2 H2 => tt σ2 H2 fun b H3 => if b = true then te σ2 H3 fun y H4 => ∃ acc, H4 L = some (.lst acc) ∧ acc.length < sizeLine ∧ CompAt c mg mt me vs ds s σ r L (i + 1) (upd H4 L (.lst (acc ++ [y]))) else CompAt c mg mt me vs ds s σ r L (i + 1) H3) (by rw [wipe_wipe]; exact z)
      rw [wipe_wipe] at z2
      exact z2
    · intro s2 σ2 hs2 tr2 hwp
      split at e
      · rename_i ρ2 e2
        refine ht ρ1 _ e2 s2 σ2 hs2 _ fun b s3 hs3 tr3 hb => ?_
        subst hb
        rw [if_pos rfl]
        split at e
        · rename_i y ρ3 e3
          refine he ρ2 _ e3 s3 σ2 hs3 _ fun v s4 hs4 tr4 rv => ?_
          have t14 := tr2.trans (tr3.trans tr4)
          obtain ⟨k1, k2, k3⟩ := keep t14
          split at e
          · rename_i hlt
            refine ⟨acc, k1, cap_lt (by rw [racc.length]; exact hlt), ?_⟩
            obtain ⟨A, w1, w2⟩ := sr_wipe vs hs4 hP
            rw [hwp] at w1
            have nA : ¬ OwnsA ⟨s4.W, s4.H, A⟩ L := fun z => by
              rcases w2.o L z with z | z
              · exact k3 z
              · rw [k1] at z; cases z
            exact ⟨_, _, _, _, sr_grow w1 k1 k2 nA, rfl, tr_grow (tr.trans (t14.trans w2)) hL, upd_same, (racc.mono t14.w).append (.cons rv .nil), k2, nA, e⟩
          · cases e
        · cases e
      · rename_i ρ2 e2
        refine ht ρ1 _ e2 s2 σ2 hs2 _ fun b s3 hs3 tr3 hb => ?_
        subst hb
        rw [if_neg Bool.false_ne_true]
        have t13 := tr2.trans tr3
        obtain ⟨k1, k2, k3⟩ := keep t13
        obtain ⟨A, w1, w2⟩ := sr_wipe vs hs3 hP
        rw [hwp] at w1
        have nA : ¬ OwnsA ⟨s3.W, s3.H, A⟩ L := fun z => by
          rcases w2.o L z with z | z
          · exact k3 z
          · rw [k1] at z; cases z
        exact ⟨_, _, _, _, w1, rfl, tr.trans (t13.trans w2), k1, racc.mono t13.w, k2, nA, e⟩
      · cases e
theorem comp_turn {c' : Cc} {g : TG} {tt : TT} {te : TE} {mg : D → Env → Option Env} {mt : MM Bool} {me : MM D} {vs : List Nat} {ds : List D} {s : Ws} {σ : L2.St} {r : List D × Env} {L : Addr} (hc : c'.K = c.K ∧ c'.tb = c.tb ∧ c'.P = c.P) (hg : SG c' g mg) (hw : GW vs g) (ht : ST c' tt mt) (he : SE c' te me) (hP : ∀ v ∈ vs, c.P v = false)
    (hL : s.H L = none) {i : Nat} {d : D} {x : V} {H : Hp} (hd : ds[i]? = some d) (hr : ∀ s', Tr c.P s s' → Rep c.K s'.W x d) (h : CompAt c mg mt me vs ds s σ r L i H) :
    g x (wipe σ vs) H fun σ2 H2 => wipe σ2 vs = wipe σ vs ∧ tt σ2 H2 fun b H3 => if b = true then te σ2 H3 fun y H4 => ∃ acc, H4 L = some (.lst acc) ∧ acc.length < sizeLine ∧ CompAt c mg mt me vs ds s σ r L (i + 1) (upd H4 L (.lst (acc ++ [y]))) else CompAt c mg mt me vs ds s σ r L (i + 1) H3 := by
  obtain ⟨ρ, s1, acc, dacc, hs, eH, tr, hacc, racc, wL, nL, e⟩ := h
  exact comp_turnR hc hg hw ht he hP hL hd ⟨ρ, s1, acc, dacc, hs, eH, tr, hacc, racc, wL, nL, e, hr s1 tr⟩
/-- .. from its start to its end -/
theorem comp_start {mg : D → Env → Option Env} {mt : MM Bool} {me : MM D} {vs : List Nat} {ds : List D} {s : Ws} {σ : L2.St} {ρ : Env} {r : List D × Env} {L : Addr} (hs : SR c.K c.tb ρ s σ) (hP : ∀ v ∈ vs, c.P v = false) (hL : s.H L = none) (e : compL mg mt me vs ds [] (wipeE ρ vs) = some r) :
    CompAt c mg mt me vs ds s σ r L 0 (upd s.H L (.lst [])) := by
  obtain ⟨A, w1, w2⟩ := sr_wipe vs hs hP
  have n := Nw.own (p := L) (o := .lst []) w1.ex w1.nt w1.tb hL
  have wL := hs.wfree hL
  have nA : ¬ OwnsA ⟨s.W, s.H, A⟩ L := w1.free hL
  exact ⟨_, ⟨s.W, upd s.H L (.lst []), A⟩, [], [], w1.nw n, rfl, w2.trans (.nw n), upd_same, .nil, wL, nA, e⟩
theorem comp_end {mg : D → Env → Option Env} {mt : MM Bool} {me : MM D} {vs : List Nat} {ds : List D} {s : Ws} {σ : L2.St} {ρ : Env} {ys : List D} {ρ' : Env} {L : Addr} {H : Hp} (hs : SR c.K c.tb ρ s σ) (nd : vs.Nodup) (hl : ∀ v ∈ vs, v < ρ.length) (hP : ∀ v ∈ vs, c.P v = false) (hL : s.H L = none)
    (h : CompAt c mg mt me vs ds s σ (ys, ρ') L ds.length H) : ∃ s' acc, SR c.K c.tb (restE ρ vs ρ') s' σ ∧ s'.H = H ∧ Tr c.P s s' ∧ H L = some (.lst acc) ∧ Reps c.K s'.W acc ys ∧ s'.W L = none ∧ ¬ OwnsA s' L := by
  obtain ⟨ρ1, s1, acc, dacc, hs1, rfl, tr, hacc, racc, wL, nL, e⟩ := h
  rw [List.drop_length] at e
  cases e
  obtain ⟨A, k1, k2⟩ := sr_rest vs hs tr.w hs1 nd hl hP
  refine ⟨_, acc, k1, rfl, tr.trans k2, hacc, racc, wL, fun z => ?_⟩
  rcases k2.o L z with z | z
  · exact nL z
  · rw [hacc] at z; cases z
/-- a list of nobody's becomes known for good -/
theorem sr_known {ρ : Env} {s s0 : Ws} {σ : L2.St} {L : Addr} {acc : List V} (h : SR c.K c.tb ρ s σ) (t : Tr c.P s0 s) (h0 : s0.H L = none) (hL : s.H L = some (.lst acc)) (wL : s.W L = none) (nL : ¬ OwnsA s L) :
    SR c.K c.tb ρ ⟨upd s.W L (.lst acc), s.H, s.A⟩ σ ∧ Tr c.P s0 ⟨upd s.W L (.lst acc), s.H, s.A⟩ := by
  have eW : Ex s.W (upd s.W L (.lst acc)) := fun a o e => by rw [upd_ne (ne_of_none e wL)]; exact e
  refine ⟨⟨h.len, fun i l e => (h.loc i l e).mono eW (fun p hp _ w => ?_) (fun p _ u _ e => e), h.out, h.inj, fun a o e => ?_, fun a o e => ?_, h.tb⟩, ⟨t.w.trans eW, fun a h1 h2 h3 => ?_, t.f, t.o, t.p, t.pin⟩⟩
  · have : p ≠ L := fun z => nL ⟨i, by rw [← z]; exact hp⟩
    exact (upd_ne this).trans w
  · by_cases ha : a = L
    · subst ha
      cases upd_same.symm.trans e
      exact hL
    · exact h.ex a o ((upd_ne ha).symm.trans e)
  · by_cases ha : a = L
    · subst ha
      cases upd_same.symm.trans e
      exact fun _ z => nomatch z
    · exact h.nt a o ((upd_ne ha).symm.trans e)
  · have : a ≠ L := fun z => h1 (by rw [z]; exact h0)
    exact (upd_ne this).trans (t.n a h1 h2 h3)
/-- the end, known for good; the end, for a slot's own -/
theorem comp_post {mg : D → Env → Option Env} {mt : MM Bool} {me : MM D} {vs : List Nat} {ds : List D} {s : Ws} {σ : L2.St} {ρ : Env} {ys : List D} {ρ' : Env} {L : Addr} {H : Hp} {Q : VK} (hs : SR c.K c.tb ρ s σ) (nd : vs.Nodup) (hl : ∀ v ∈ vs, v < ρ.length) (hP : ∀ v ∈ vs, c.P v = false) (hL : s.H L = none)
    (h : CompAt c mg mt me vs ds s σ (ys, ρ') L ds.length H) (q : PostX c (Rep c.K) s σ Q (.ok (.lst ys) (restE ρ vs ρ'))) : Q (.ref L) H := by
  obtain ⟨s', acc, k1, rfl, k3, k4, k5, k6, k7⟩ := comp_end hs nd hl hP hL h
  have eW : Ex s'.W (upd s'.W L (.lst acc)) := fun a o e => by rw [upd_ne (ne_of_none e k6)]; exact e
  obtain ⟨z1, z2⟩ := sr_known k1 k3 hL k4 k6 k7
  exact q (.ref L) ⟨upd s'.W L (.lst acc), s'.H, s'.A⟩ z1 z2 (.lst upd_same (k5.mono eW))
theorem comp_postF {mg : D → Env → Option Env} {mt : MM Bool} {me : MM D} {vs : List Nat} {ds : List D} {s : Ws} {σ : L2.St} {ρ : Env} {ys : List D} {ρ' : Env} {L : Addr} {H : Hp} {Q : VK} (hs : SR c.K c.tb ρ s σ) (nd : vs.Nodup) (hl : ∀ v ∈ vs, v < ρ.length) (hP : ∀ v ∈ vs, c.P v = false) (hL : s.H L = none)
    (h : CompAt c mg mt me vs ds s σ (ys, ρ') L ds.length H) (q : PostF c s σ Q (.ok (.lst ys) (restE ρ vs ρ'))) : Q (.ref L) H := by
  obtain ⟨s', acc, k1, rfl, k3, k4, k5, k6, k7⟩ := comp_end hs nd hl hP hL h
  exact q L s' k1 k3 hL k6 k7 ⟨acc, k4, k5⟩

/-- the same block whatever is wished of an exception -/
def Cc.quiet (c : Cc) : Cc := ⟨c.K, c.tb, c.P, fun _ _ _ => False⟩
/-- the slots of the block -/
structure BlkS (c : Cc) (vs : List Nat) : Prop where
  nd : vs.Nodup
  P : ∀ v ∈ vs, c.P v = false
def inB (vs : List Nat) (ρ : Env) : Bool := vs.all fun v => decide (v < ρ.length)
theorem inB_of {vs : List Nat} {ρ : Env} (h : inB vs ρ = true) : ∀ v ∈ vs, v < ρ.length := fun v hv => of_decide_eq_true (List.all_eq_true.mp h v hv)
/-- [e for g in xs if t], by what xs is -/
def mLc {α : Type} (mi : MM α) (el : α → Option (List D)) (vs : List Nat) (g : D → Env → Option Env) (t : MM Bool) (e : MM D) : MM (List D) := bnd mi fun d ρ => match el d with
  | some ds => if inB vs ρ = true then match compL g t e vs ds [] (wipeE ρ vs) with
    | some (ys, ρ') => some (.ok ys (restE ρ vs ρ'))
    | none => none
    else none
  | none => none
theorem mLc_cases {α : Type} {el : α → Option (List D)} {vs : List Nat} {g : D → Env → Option Env} {t : MM Bool} {e : MM D} {a : α} {ρ : Env} {r : Res (List D)} (h : (match el a with
  | some ds => if inB vs ρ = true then match compL g t e vs ds [] (wipeE ρ vs) with
    | some (ys, ρ') => some (Res.ok ys (restE ρ vs ρ'))
    | none => none
    else none
  | none => none) = some r) : ∃ ds ys ρ', el a = some ds ∧ inB vs ρ = true ∧ compL g t e vs ds [] (wipeE ρ vs) = some (ys, ρ') ∧ r = .ok ys (restE ρ vs ρ') := by
  split at h
  · rename_i ds e1
    split at h
    · rename_i hb
      split at h
      · rename_i ys ρ' e2
        exact ⟨ds, ys, ρ', e1, hb, e2, (Option.some.inj h).symm⟩
      · cases h
    · cases h
  · cases h
/-- a new list out of a comprehension's mirror: as data, as a slot's own -/
def asL (m : MM (List D)) : MM D := fun ρ => match m ρ with
  | some (.ok ys ρ') => some (.ok (.lst ys) ρ')
  | some (.er x ρ') => some (.er x ρ')
  | none => none
def asO (m : MM (List D)) : MM Own := fun ρ => match m ρ with
  | some (.ok ys ρ') => some (.ok (.lst ys) ρ')
  | some (.er x ρ') => some (.er x ρ')
  | none => none
section
variable {g : TG} {tt : TT} {te tl : TE} {ta : TA} {mg : D → Env → Option Env} {mt : MM Bool} {me mi : MM D} {ma : MM (List D)} {vs : List Nat}
/-- the reading of a comprehension over a list or tuple, once xs is known; R: its end -/
theorem lc_seq {s : Ws} {σ : L2.St} {ρ : Env} {ds : List D} {d : D} {x : V} {ys : List D} {ρ' : Env} {R : VK} (hs : SR c.K c.tb ρ s σ) (rx : Rep c.K s.W x d) (hel : elems d = some ds) (hB : BlkS c vs) (hb : inB vs ρ = true) (hg : SG c.quiet g mg) (hw : GW vs g) (ht : ST c.quiet tt mt) (he : SE c.quiet te me)
    (e : compL mg mt me vs ds [] (wipeE ρ vs) = some (ys, ρ')) (hR : ∀ L H, s.H L = none → CompAt c mg mt me vs ds s σ (ys, ρ') L ds.length H → R (.ref L) H) :
    ∃ a, x = .ref a ∧ (((∃ xs, SqL c.K s.H a xs) ∧ (∀ L, s.H L = none → ∃ W : Nat → Nat → Hp → Prop, (∃ m, W 0 m (upd s.H L (.lst []))) ∧ ∀ i m H, W i m H →
        ((Itl c.K a).stop i H ∧ R (.ref L) H) ∨ ((Itl c.K a).go i H ∧ ∃ Nx : Hp → Prop, (∀ H', Nx H' → ∃ m', m' < m ∧ W (i + 1) m' H') ∧ ∀ x H', (Itl c.K a).yld i H x H' → g x (wipe σ vs) H' fun σ2 H2 => wipe σ2 vs = wipe σ vs ∧ tt σ2 H2 fun b H3 =>
          if b = true then te σ2 H3 fun y H4 => ∃ acc, H4 L = some (.lst acc) ∧ acc.length < sizeLine ∧ Nx (upd H4 L (.lst (acc ++ [y]))) else Nx H3))) ∨
      ((∃ xs, SqT c.K s.H a xs) ∧ (∀ L, s.H L = none → ∃ W : Nat → Nat → Hp → Prop, (∃ m, W 0 m (upd s.H L (.lst []))) ∧ ∀ i m H, W i m H →
        ((Itt c.K a).stop i H ∧ R (.ref L) H) ∨ ((Itt c.K a).go i H ∧ ∃ Nx : Hp → Prop, (∀ H', Nx H' → ∃ m', m' < m ∧ W (i + 1) m' H') ∧ ∀ x H', (Itt c.K a).yld i H x H' → g x (wipe σ vs) H' fun σ2 H2 => wipe σ2 vs = wipe σ vs ∧ tt σ2 H2 fun b H3 =>
          if b = true then te σ2 H3 fun y H4 => ∃ acc, H4 L = some (.lst acc) ∧ acc.length < sizeLine ∧ Nx (upd H4 L (.lst (acc ++ [y]))) else Nx H3)))) := by
  cases d <;> try (cases hel; done)
  · cases hel
    cases rx with
    | @tup a xs _ hq rr =>
      refine ⟨a, rfl, .inr ⟨⟨xs, hs.ex.st hq⟩, fun L hL => lc_tup (K := c.K) (a := a) (xs := xs) (CompAt c mg mt me vs ds s σ (ys, ρ') L) (comp_start hs hB.P hL e) (fun i H _ ⟨ρ2, s2, acc, dacc, k1, k2, k3, _⟩ => k2 ▸ k1.ex.st (k3.w.st hq)) (fun i x H hx hp => ?_) fun H hp => hR L H hL (rr.length ▸ hp)⟩⟩
      obtain ⟨d, hd, rd'⟩ := rr.get hx
      exact comp_turn (c' := c.quiet) ⟨rfl, rfl, rfl⟩ hg hw ht he hB.P hL hd (fun s' t => rd'.mono t.w) hp
  · cases hel
    cases rx with
    | @lst a xs _ hq rr =>
      have hq' : SqL c.K s.W a xs := .inl (.inl hq)
      refine ⟨a, rfl, .inl ⟨⟨xs, hs.ex.sl hq'⟩, fun L hL => lc_list (K := c.K) (a := a) (xs := xs) (CompAt c mg mt me vs ds s σ (ys, ρ') L) (comp_start hs hB.P hL e) (fun i H _ ⟨ρ2, s2, acc, dacc, k1, k2, k3, _⟩ => k2 ▸ k1.ex.sl (k3.w.sl hq')) (fun i x H hx hp => ?_) fun H hp => hR L H hL (rr.length ▸ hp)⟩⟩
      obtain ⟨d, hd, rd'⟩ := rr.get hx
      exact comp_turn (c' := c.quiet) ⟨rfl, rfl, rfl⟩ hg hw ht he hB.P hL hd (fun s' t => rd'.mono t.w) hp
theorem asL_bnd {α : Type} {m : MM α} {f : α → MM (List D)} {ρ : Env} {r : Res D} (h : asL (bnd m f) ρ = some r) : bnd m (fun a => asL (f a)) ρ = some r := by
  unfold asL bnd at h
  unfold bnd
  cases e : m ρ with
  | none => rw [e] at h; exact h
  | some z =>
    rw [e] at h
    cases z with
    | ok a ρ' => exact h
    | er x ρ' => exact h
theorem asO_bnd {α : Type} {m : MM α} {f : α → MM (List D)} {ρ : Env} {r : Res Own} (h : asO (bnd m f) ρ = some r) : bnd m (fun a => asO (f a)) ρ = some r := by
  unfold asO bnd at h
  unfold bnd
  cases e : m ρ with
  | none => rw [e] at h; exact h
  | some z =>
    rw [e] at h
    cases z with
    | ok a ρ' => exact h
    | er x ρ' => exact h
theorem asL_ok {m : MM (List D)} {ρ : Env} {r : Res D} (h : asL m ρ = some r) : (∃ ys ρ', m ρ = some (.ok ys ρ') ∧ r = .ok (.lst ys) ρ') ∨ ∃ x ρ', m ρ = some (.er x ρ') ∧ r = .er x ρ' := by
  unfold asL at h
  split at h
  · rename_i ys ρ' e; exact .inl ⟨ys, ρ', e, (Option.some.inj h).symm⟩
  · rename_i x ρ' e; exact .inr ⟨x, ρ', e, (Option.some.inj h).symm⟩
  · cases h
theorem asO_ok {m : MM (List D)} {ρ : Env} {r : Res Own} (h : asO m ρ = some r) : (∃ ys ρ', m ρ = some (.ok ys ρ') ∧ r = .ok (.lst ys) ρ') ∨ ∃ x ρ', m ρ = some (.er x ρ') ∧ r = .er x ρ' := by
  unfold asO at h
  split at h
  · rename_i ys ρ' e; exact .inl ⟨ys, ρ', e, (Option.some.inj h).symm⟩
  · rename_i x ρ' e; exact .inr ⟨x, ρ', e, (Option.some.inj h).symm⟩
  · cases h
theorem se_lcS (hB : BlkS c vs) (h : SE c tl mi) (hg : SG c.quiet g mg) (hw : GW vs g) (ht : ST c.quiet tt mt) (he : SE c.quiet te me) : SE c (tLc (iSeq c.K tl) g tt te vs) (asL (mLc mi elems vs mg mt me)) := by
  intro ρ rr e s σ hs Q q
  refine sx_go (t := tl) h (asL_bnd e) hs q fun x d ρ s e hs rx q tr => ?_
  rcases asL_ok e with ⟨ys, ρ', e1, rfl⟩ | ⟨y, ρ', e1, _⟩
  · obtain ⟨ds, ys, ρ'', e2, hb, e3, e4⟩ := mLc_cases e1
    cases e4
    exact lc_seq hs rx e2 hB hb hg hw ht he e3 fun L H hL hp => comp_post hs hB.nd (inB_of hb) hB.P hL hp q
  · obtain ⟨ds, ys, ρ'', e2, hb, e3, e4⟩ := mLc_cases e1
    cases e4
theorem sf_lcS (hB : BlkS c vs) (h : SE c tl mi) (hg : SG c.quiet g mg) (hw : GW vs g) (ht : ST c.quiet tt mt) (he : SE c.quiet te me) : SF c (tLc (iSeq c.K tl) g tt te vs) (asO (mLc mi elems vs mg mt me)) := by
  intro ρ rr e s σ hs Q q
  refine sf_go (t := tl) h (asO_bnd e) hs q fun x d ρ s e hs rx q tr => ?_
  rcases asO_ok e with ⟨ys, ρ', e1, rfl⟩ | ⟨y, ρ', e1, _⟩
  · obtain ⟨ds, ys, ρ'', e2, hb, e3, e4⟩ := mLc_cases e1
    cases e4
    exact lc_seq hs rx e2 hB hb hg hw ht he e3 fun L H hL hp => comp_postF hs hB.nd (inB_of hb) hB.P hL hp q
  · obtain ⟨ds, ys, ρ'', e2, hb, e3, e4⟩ := mLc_cases e1
    cases e4
/-- over a range -/
theorem lc_rg {s : Ws} {σ : L2.St} {ρ : Env} {lo : Int} {n : Nat} {ys : List D} {ρ' : Env} {R : VK} (hs : SR c.K c.tb ρ s σ) (hB : BlkS c vs) (hg : SG c.quiet g mg) (hw : GW vs g) (ht : ST c.quiet tt mt) (he : SE c.quiet te me)
    (e : compL mg mt me vs (rangeD lo n) [] (wipeE ρ vs) = some (ys, ρ')) (hR : ∀ L H, s.H L = none → CompAt c mg mt me vs (rangeD lo n) s σ (ys, ρ') L (rangeD lo n).length H → R (.ref L) H) :
    ∀ L, s.H L = none → ∃ W : Nat → Nat → Hp → Prop, (∃ m, W 0 m (upd s.H L (.lst []))) ∧ ∀ i m H, W i m H →
        ((Itr lo n).stop i H ∧ R (.ref L) H) ∨ ((Itr lo n).go i H ∧ ∃ Nx : Hp → Prop, (∀ H', Nx H' → ∃ m', m' < m ∧ W (i + 1) m' H') ∧ ∀ x H', (Itr lo n).yld i H x H' → g x (wipe σ vs) H' fun σ2 H2 => wipe σ2 vs = wipe σ vs ∧ tt σ2 H2 fun b H3 =>
          if b = true then te σ2 H3 fun y H4 => ∃ acc, H4 L = some (.lst acc) ∧ acc.length < sizeLine ∧ Nx (upd H4 L (.lst (acc ++ [y]))) else Nx H3) := fun L hL =>
  lc_range (lo := lo) (n := n) (CompAt c mg mt me vs (rangeD lo n) s σ (ys, ρ') L) (comp_start hs hB.P hL e) (fun i H hi hp => comp_turn (c' := c.quiet) ⟨rfl, rfl, rfl⟩ hg hw ht he hB.P hL (rangeD_get hi) (fun s' _ => .int _) hp) fun H hp => hR L H hL (by rw [rangeD_len]; exact hp)
theorem rg1_some {ds : List D} {l : List D} (h : rg1 ds = some l) : ∃ j, ds = [.int j] ∧ rgOk j = true ∧ l = rangeD 0 j.toNat := by
  unfold rg1 at h
  split at h
  · rename_i j
    split at h
    · rename_i hj
      exact ⟨j, rfl, hj, (Option.some.inj h).symm⟩
    · cases h
  · cases h
theorem rg2_some {ds : List D} {l : List D} (h : rg2 ds = some l) : ∃ i j, ds = [.int i, .int j] ∧ rgOk i = true ∧ rgOk j = true ∧ l = rangeD i (j - i).toNat := by
  unfold rg2 at h
  split at h
  · rename_i i j
    split at h
    · rename_i hj
      exact ⟨i, j, rfl, hj.1, hj.2, (Option.some.inj h).symm⟩
    · cases h
  · cases h
theorem reps_i1 {K : PySem.W.Frag} {W : Hp} {vs : List V} {j : Int} (r : Reps K W vs [.int j]) : vs = [.int j] := by
  cases r with
  | cons r1 r2 => cases r1; cases r2; rfl
theorem reps_i2 {K : PySem.W.Frag} {W : Hp} {vs : List V} {i j : Int} (r : Reps K W vs [.int i, .int j]) : vs = [.int i, .int j] := by
  cases r with
  | cons r1 r2 =>
    cases r1
    cases r2 with
    | cons r2 r3 => cases r2; cases r3; rfl
theorem se_lc1 (hB : BlkS c vs) (h : SA c ta ma) (hg : SG c.quiet g mg) (hw : GW vs g) (ht : ST c.quiet tt mt) (he : SE c.quiet te me) : SE c (tLc (iRng1 ta) g tt te vs) (asL (mLc ma rg1 vs mg mt me)) := by
  intro ρ rr e s σ hs Q q
  refine sx_go (t := ta) h (asL_bnd e) hs q fun x d ρ s e hs rx q tr => ?_
  rcases asL_ok e with ⟨ys, ρ', e1, rfl⟩ | ⟨y, ρ', e1, _⟩
  · obtain ⟨ds, ys, ρ'', e2, hb, e3, e4⟩ := mLc_cases e1
    cases e4
    obtain ⟨j, rfl, hj, rfl⟩ := rg1_some e2
    exact ⟨j, reps_i1 rx, (rgOk_of hj).1, (rgOk_of hj).2, lc_rg hs hB hg hw ht he e3 fun L H hL hp => comp_post hs hB.nd (inB_of hb) hB.P hL hp q⟩
  · obtain ⟨ds, ys, ρ'', e2, hb, e3, e4⟩ := mLc_cases e1
    cases e4
theorem sf_lc1 (hB : BlkS c vs) (h : SA c ta ma) (hg : SG c.quiet g mg) (hw : GW vs g) (ht : ST c.quiet tt mt) (he : SE c.quiet te me) : SF c (tLc (iRng1 ta) g tt te vs) (asO (mLc ma rg1 vs mg mt me)) := by
  intro ρ rr e s σ hs Q q
  refine sf_go (t := ta) h (asO_bnd e) hs q fun x d ρ s e hs rx q tr => ?_
  rcases asO_ok e with ⟨ys, ρ', e1, rfl⟩ | ⟨y, ρ', e1, _⟩
  · obtain ⟨ds, ys, ρ'', e2, hb, e3, e4⟩ := mLc_cases e1
    cases e4
    obtain ⟨j, rfl, hj, rfl⟩ := rg1_some e2
    exact ⟨j, reps_i1 rx, (rgOk_of hj).1, (rgOk_of hj).2, lc_rg hs hB hg hw ht he e3 fun L H hL hp => comp_postF hs hB.nd (inB_of hb) hB.P hL hp q⟩
  · obtain ⟨ds, ys, ρ'', e2, hb, e3, e4⟩ := mLc_cases e1
    cases e4
theorem se_lc2 (hB : BlkS c vs) (h : SA c ta ma) (hg : SG c.quiet g mg) (hw : GW vs g) (ht : ST c.quiet tt mt) (he : SE c.quiet te me) : SE c (tLc (iRng2 ta) g tt te vs) (asL (mLc ma rg2 vs mg mt me)) := by
  intro ρ rr e s σ hs Q q
  refine sx_go (t := ta) h (asL_bnd e) hs q fun x d ρ s e hs rx q tr => ?_
  rcases asL_ok e with ⟨ys, ρ', e1, rfl⟩ | ⟨y, ρ', e1, _⟩
  · obtain ⟨ds, ys, ρ'', e2, hb, e3, e4⟩ := mLc_cases e1
    cases e4
    obtain ⟨i, j, rfl, hi, hj, rfl⟩ := rg2_some e2
    exact ⟨i, j, reps_i2 rx, ⟨(rgOk_of hi).1, (rgOk_of hi).2, (rgOk_of hj).1, (rgOk_of hj).2⟩, lc_rg hs hB hg hw ht he e3 fun L H hL hp => comp_post hs hB.nd (inB_of hb) hB.P hL hp q⟩
  · obtain ⟨ds, ys, ρ'', e2, hb, e3, e4⟩ := mLc_cases e1
    cases e4
theorem st_yes : ST c tYes (ret true) := by
  intro ρ r e s σ hs Q q
  cases e
  exact q true s hs .refl rfl
end
end
end PD
end
section
set_option maxHeartbeats 0
namespace PySem
open PySem.AutoSeq1
open Sem (wp)
open Builtin
set_option maxRecDepth 8000 in
theorem pd_extend_tuple (l : Addr) (items : Array Value) (n : Nat) (b : Addr) (items2 : Array Value) (n2 : Nat) (dd : Option Addr) (sl : Array (Option Value)) (hs0 : ¬(!items.isEmpty && Builtin.List.listTooLong (items.size + items2.size)) = true) (hs1 : items.size ≤ sizeLine) (hs2 : items.size + items2.size ≤ sizeLine + 1) :
    Meets (Builtin.«list.extend» ⟨[.ref l, .ref b], []⟩) (fun _ R s => s.heap.get? l = some { cls := .type "list", dict := none, data := .seq items n, slots := #[] } ∧ s.heap.get? b = some { cls := .type "tuple", dict := dd, data := .seq items2 n2, slots := sl } ∧ R (.ok (.ret Value.none)) { s with heap := s.heap.update l (Obj.mapSeq fun x => x ++ items2), toks := s.toks }) :=
  .of_wp fun prog w A R s h => by
    obtain ⟨hp, g, d, tk, os⟩ := s; obtain ⟨hl, hb, h⟩ := h; have f1 := idx_int; have f2 := sub_tuple_tuple; have f3 := sub_list_list; have f4 := sub_tuple_list; have f5 := sub_list_tuple;
    have hz' : (items ++ items2).size ≤ sizeLine + 1 := by rw [Array.size_append]; exact hs2
    wp_walk using (wpAny_updateSeq hl rfl (hz := hs1) (_hz' := hz')), wpAny_loadPart' hl, wpAny_loadPart' hb; exact ⟨_, rfl, h⟩
end PySem
end
section
set_option maxHeartbeats 0
namespace PD
open PySem PySem.Spec PyProof.Rows L2
section
variable {X : Cx}
/-- xs.extend(a list or a tuple) -/
def rExtA (K : PySem.W.Frag) : V → List V → Hp → VK → Prop := fun x vs H Q => rExtend x vs H Q ∨ ∃ l b xs zs, x = .ref l ∧ vs = [.ref b] ∧ H l = some (.lst xs) ∧ SqT K H b zs ∧ xs.length + zs.length ≤ sizeLine ∧ Q .non (upd H l (.lst (xs ++ zs)))
theorem mt_extendA : MtR X "list.extend" (rExtA X.K) := by
  intro pins s σ H x vs v us Q I rx rv h
  rcases h with h | h
  · exact mt_extend pins s σ H x vs v us Q I rx rv h
  obtain ⟨l, b, xs, zs, rfl, rfl, hH, hB, hz, q⟩ := h
  cases rx
  obtain ⟨u, rfl, ru⟩ := rv.one
  cases ru
  obtain ⟨z, its, n, r, hl, e⟩ := I.lstM hH
  obtain ⟨its2, r2, p2, hz2⟩ := I.tuple hB
  obtain ⟨⟨cls2, d2, data2, sl2⟩, eo2, hc2, n2, hd2⟩ := id p2
  simp only at hc2 hd2
  subst hc2 hd2
  have hl2 := r2.length
  have hsz : its.toArray.size + its2.toArray.size ≤ sizeLine := by rw [List.size_toArray, List.size_toArray]; omega
  have hlong : ¬ (!its.toArray.isEmpty && Builtin.List.listTooLong (its.toArray.size + its2.toArray.size)) = true := by
    rw [notLongL hsz, Bool.and_false]
    exact Bool.false_ne_true
  refine call_meets PySem.F.slot_list_extend ⟨_, e, rfl⟩ PySem.F.entry_list_extend (PySem.F.args_list_extend_2 _ _)
    (PySem.pd_extend_tuple l its.toArray n b its2.toArray n2 d2 sl2 hlong (by rw [List.size_toArray]; omega) (by omega)) ⟨e, eo2, ?_⟩
  refine ⟨.non, _, I.lset (its' := its ++ its2) hH e (by simp) (r.append r2) ?_, rfl, q⟩
  rw [List.length_append]
  omega
end
/-! ### a list's methods on data -/
def mdAppend : List D → List D → Option (List D × D)
  | ds, [d] => if ds.length < cap then some (ds ++ [d], .non) else none
  | _, _ => none
def mdExtend : List D → List D → Option (List D × D)
  | ds, [.tup es] => if ds.length + es.length ≤ cap then some (ds ++ es, .non) else none
  | ds, [.lst es] => if ds.length + es.length ≤ cap then some (ds ++ es, .non) else none
  | _, _ => none
def mdPop : List D → List D → Option (List D × D)
  | ds, [] => match ds[ds.length - 1]? with
    | some d => some (ds.dropLast, d)
    | none => none
  | _, _ => none
def mdPopAt : List D → List D → Option (List D × D)
  | ds, [.int i] => if 0 ≤ i ∧ i < ds.length ∧ ds.length ≤ cap then match ds[i.toNat]? with
    | some d => some (ds.eraseIdx i.toNat, d)
    | none => none
    else none
  | _, _ => none
def mdReverse : List D → List D → Option (List D × D)
  | ds, [] => some (ds.reverse, .non)
  | _, _ => none
def mdInsert : List D → List D → Option (List D × D)
  | ds, [.int i, d] => if ds.length < cap ∧ 0 ≤ i ∧ i < 2 ^ 63 then some (ds.take i.toNat ++ [d] ++ ds.drop i.toNat, .non) else none
  | _, _ => none
def rInsert : V → List V → Hp → VK → Prop := fun x vs H Q => ∃ (l : Addr) (xs : List V) (i : Int) (y : V), x = .ref l ∧ vs = [.int i, y] ∧ H l = some (.lst xs) ∧ xs.length < sizeLine ∧ 0 ≤ i ∧ i < 2 ^ 63 ∧
    Q .non (upd H l (.lst (xs.take i.toNat ++ [y] ++ xs.drop i.toNat)))
section
variable {c : Cc}
theorem reps1 {K : PySem.W.Frag} {W : Hp} {vs : List V} {d : D} (r : Reps K W vs [d]) : ∃ v, vs = [v] ∧ Rep K W v d := by
  cases r with
  | cons r1 r2 => cases r2; exact ⟨_, rfl, r1⟩
theorem reps2 {K : PySem.W.Frag} {W : Hp} {vs : List V} {d e : D} (r : Reps K W vs [d, e]) : ∃ v u, vs = [v, u] ∧ Rep K W v d ∧ Rep K W u e := by
  cases r with
  | cons r1 r2 =>
    cases r2 with
    | cons r2 r3 => cases r3; exact ⟨_, _, rfl, r1, r2⟩
theorem rme_append : RMe c rAppend mdAppend := by
  intro W H p xs vs ds as ds2 d w hp r ra e
  unfold mdAppend at e
  split at e
  · split at e
    · rename_i hl
      cases e
      obtain ⟨v, rfl, rv⟩ := reps1 ra
      exact ⟨_, .non, r.append (.cons rv .nil), .non, fun Q q => ⟨p, xs, v, rfl, rfl, hp, cap_lt (by rw [r.length]; exact hl), q⟩⟩
    · cases e
  · cases e
theorem rme_extend : RMe c (rExtA c.K) mdExtend := by
  intro W H p xs vs ds as ds2 d w hp r ra e
  unfold mdExtend at e
  split at e
  · rename_i es
    split at e
    · rename_i hl
      cases e
      obtain ⟨v, rfl, rv⟩ := reps1 ra
      cases rv with
      | @tup a ys _ hx r1 =>
        exact ⟨_, .non, r.append r1, .non, fun Q q => .inr ⟨p, a, xs, ys, rfl, rfl, hp, w.ex.st hx, cap_le (by rw [r.length, r1.length]; exact hl), q⟩⟩
    · cases e
  · rename_i es
    split at e
    · rename_i hl
      cases e
      obtain ⟨v, rfl, rv⟩ := reps1 ra
      cases rv with
      | @lst a ys _ hx r1 =>
        exact ⟨_, .non, r.append r1, .non, fun Q q => .inl ⟨p, a, xs, ys, rfl, rfl, hp, w.ex _ _ hx, cap_le (by rw [r.length, r1.length]; exact hl), q⟩⟩
    · cases e
  · cases e
theorem rme_pop : RMe c rPop mdPop := by
  intro W H p xs vs ds as ds2 d w hp r ra e
  unfold mdPop at e
  split at e
  · split at e
    · rename_i d' hd
      cases e
      cases ra
      obtain ⟨v, hv, rv⟩ := r.getD hd
      exact ⟨_, v, r.dropLast, rv, fun Q q => ⟨p, xs, v, rfl, rfl, hp, by rw [r.length]; exact hv, q⟩⟩
    · cases e
  · cases e
theorem rme_popAt : RMe c rPopAt mdPopAt := by
  intro W H p xs vs ds as ds2 d w hp r ra e
  unfold mdPopAt at e
  split at e
  · rename_i i
    split at e
    · rename_i hi
      split at e
      · rename_i d' hd
        cases e
        have := reps_i1 ra
        subst this
        obtain ⟨v, hv, rv⟩ := r.getD hd
        have hc : (cap : Int) = 100000 := rfl
        have hcap : (ds.length : Int) ≤ 100000 := by have := hi.2.2; unfold cap at this; omega
        refine ⟨_, v, r.eraseIdx _, rv, fun Q q => ⟨p, xs, i, i.toNat, v, rfl, rfl, hp, by omega, by omega, ?_, hv, q⟩⟩
        rw [r.length]
        have hi1 := hi.1
        have hi2 := hi.2.1
        unfold seqIndex?
        have e1 : (if i < 0 then i + (ds.length : Int) else i) = i := if_neg (by omega)
        simp only [e1]
        rw [if_pos]
        rw [Bool.and_eq_true]
        exact ⟨decide_eq_true hi1, decide_eq_true hi2⟩
      · cases e
    · cases e
  · cases e
theorem rme_reverse : RMe c rReverse mdReverse := by
  intro W H p xs vs ds as ds2 d w hp r ra e
  unfold mdReverse at e
  split at e
  · cases e
    cases ra
    exact ⟨_, .non, r.reverse, .non, fun Q q => ⟨p, xs, rfl, rfl, hp, q⟩⟩
  · cases e
theorem rme_insert : RMe c rInsert mdInsert := by
  intro W H p xs vs ds as ds2 d w hp r ra e
  unfold mdInsert at e
  split at e
  · rename_i i y
    split at e
    · rename_i h
      cases e
      obtain ⟨v, u, rfl, rv, ru⟩ := reps2 ra
      cases rv
      exact ⟨_, .non, ((r.take _).append (.cons ru .nil)).append (r.drop _), .non, fun Q q => ⟨p, xs, i, u, rfl, rfl, hp, cap_lt (by rw [r.length]; exact h.1), h.2.1, h.2.2, q⟩⟩
    · cases e
  · cases e

/-! ### f-strings -/
def dFmt : D → Option D
  | .str y => if y.length ≤ cap then some (.str y) else none
  | .int i => if i.natAbs.log2 < 1920 then some (.str (toString i)) else none
  | _ => none
theorem se_fmt {te : TE} {m : MM D} (h : SE c te m) : SE c (tFmt te) (bnd m fun d => lft (dFmt d)) := by
  intro ρ rr e s σ hs Q q
  refine sx_go (t := te) h e hs q fun x a ρ s e hs rx q tr => ?_
  obtain ⟨d, e3, rfl⟩ := lft_cases e
  unfold dFmt at e3
  split at e3
  · rename_i y
    split at e3
    · rename_i hl
      cases e3
      cases rx
      exact .inl ⟨y, rfl, cap_le hl, q _ s hs .refl (.str _)⟩
    · cases e3
  · rename_i i
    split at e3
    · rename_i hl
      cases e3
      cases rx
      exact .inr ⟨i, rfl, hl, q _ s hs .refl (.str _)⟩
    · cases e3
  · cases e3
def joinM : List (MM D) → Str → MM D
  | [], acc => ret (.str acc)
  | m :: ms, acc => bnd m fun d => match d with
    | .str y => if (acc ++ y).length ≤ cap then joinM ms (acc ++ y) else fun _ => none
    | _ => fun _ => none
inductive SJ (c : Cc) : List TE → List (MM D) → Prop
  | nil : SJ c [] []
  | cons {t : TE} {ts : List TE} {m : MM D} {ms : List (MM D)} : SE c t m → SJ c ts ms → SJ c (t :: ts) (m :: ms)
theorem se_js : ∀ {ts : List TE} {ms : List (MM D)}, SJ c ts ms → ∀ acc : Str, SE c (fun σ H Q => tJs ts acc σ H fun out H1 => Q (.str out) H1) (joinM ms acc)
  | _, _, .nil, acc => by
    intro ρ rr e s σ hs Q q
    cases e
    exact q _ s hs .refl (.str _)
  | _, _, .cons (t := t) h r, acc => by
    intro ρ rr e s σ hs Q q
    refine sx_go (t := t) h e hs q fun x a ρ s e hs rx q tr => ?_
    cases a <;> try (cases e; done)
    rename_i y
    dsimp only at e
    split at e
    · rename_i hl
      cases rx
      exact ⟨y, rfl, cap_le hl, se_js r _ ρ rr e s σ hs Q q⟩
    · cases e
theorem se_joined {ts : List TE} {ms : List (MM D)} (h : SJ c ts ms) : SE c (fun σ H Q => tJs ts Str.empty σ H fun out H1 => Q (.str out) H1) (joinM ms Str.empty) := se_js h _

/-! ### a star in a display -/
def mStar (m : MM D) (ms : MM (List D)) : MM (List D) := bnd m fun d => match elems d with
  | some ds => bnd ms fun es => ret (ds ++ es)
  | none => fun _ => none
theorem sa_star {te : TE} {t : TA} {m : MM D} {ms : MM (List D)} (h : SE c te m) (hr : SA c t ms) : SA c (StX.tStar c.K te t) (mStar m ms) := by
  intro ρ rr e s σ hs Q q
  refine sx_go (t := te) h e hs q fun x a ρ s e hs rx q tr => ?_
  cases ea : elems a with
  | none => simp only [ea] at e; cases e
  | some ds =>
    simp only [ea] at e
    have hd : (∃ p xs, x = .ref p ∧ SqT c.K s.H p xs ∧ Reps c.K s.W xs ds) ∨ (∃ p xs, x = .ref p ∧ SqL c.K s.H p xs ∧ Reps c.K s.W xs ds) := by
      cases a <;> try (cases ea; done)
      · cases ea
        cases rx with
        | @tup p xs _ hx r1 => exact .inl ⟨p, xs, rfl, hs.ex.st hx, r1⟩
      · cases ea
        cases rx with
        | @lst p xs _ hx r1 => exact .inr ⟨p, xs, rfl, hs.ex.sl (.inl (.inl hx)), r1⟩
    have fin : ∀ xs, Reps c.K s.W xs ds → t σ s.H fun ys H2 => Q (xs ++ ys) H2 := fun xs rxs => by
      refine sx_go (t := t) hr e hs q fun y es ρ s2 e hs ry q tr2 => ?_
      cases e
      exact q _ s2 hs .refl ((rxs.mono tr2.w).append ry)
    rcases hd with ⟨p, xs, rfl, h1, h2⟩ | ⟨p, xs, rfl, h1, h2⟩
    · exact ⟨p, xs, rfl, .inl h1, fin xs h2⟩
    · exact ⟨p, xs, rfl, .inr h1, fin xs h2⟩

/-! ### further loops -/
/-- where a loop over data stands, behind a step that knows more -/
theorem loop_turn2 {g : TG} {tb : TS} {mg : D → Env → Option Env} {mb : MS} {ds : List D} {s : Ws} {o : Out} {E : Ends} (hg : SG c g mg) (hb : SS c tb mb) (q : PostS c E s o) {i : Nat} {d : D} {v : V} {σ : L2.St} {H : Hp} (hd : ds[i]? = some d)
    (h : ∃ ρ s', SR c.K c.tb ρ s' σ ∧ s'.H = H ∧ Tr c.P s s' ∧ loopL mg mb (ds.drop i) ρ = some o ∧ Rep c.K s'.W v d) : g v σ H fun σ2 H2 => tb { E with nx := LoopAt c mg mb ds s o (i + 1), ct := LoopAt c mg mb ds s o (i + 1), bk := E.nx } σ2 H2 := by
  obtain ⟨ρ, s1, hs, rfl, tr, e, rv⟩ := h
  have hi := (List.getElem?_eq_some_iff.mp hd).1
  have hd2 : ds.drop i = d :: ds.drop (i + 1) := by
    rw [List.drop_eq_getElem_cons hi, (List.getElem?_eq_some_iff.mp hd).2]
  rw [hd2] at e
  unfold loopL at e
  split at e
  · cases e
  · rename_i ρ1 e1
    refine hg d ρ ρ1 e1 v s1 σ hs rv _ fun s2 σ2 hs2 tr2 => ?_
    have t2 := tr.trans tr2
    split at e
    · rename_i ρ2 e2
      exact hb ρ1 _ e2 s2 σ2 hs2 _ fun s3 σ3 a b => ⟨ρ2, s3, a, rfl, t2.trans b, e⟩
    · rename_i ρ2 e2
      exact hb ρ1 _ e2 s2 σ2 hs2 _ fun s3 σ3 a b => ⟨ρ2, s3, a, rfl, t2.trans b, e⟩
    · rename_i ρ2 e2
      cases e
      exact hb ρ1 _ e2 s2 σ2 hs2 _ fun s3 σ3 a b => q s3 σ3 a (t2.trans b)
    · rename_i d' ρ2 e2
      cases e
      exact hb ρ1 _ e2 s2 σ2 hs2 _ fun v s3 σ3 a b r => q v s3 σ3 a (t2.trans b) r
    · rename_i x ρ2 e2
      cases e
      exact hb ρ1 _ e2 s2 σ2 hs2 _ fun s3 σ3 a b => q s3 σ3 a (t2.trans b)
    · cases e
def elemsRev : D → Option (List D)
  | .tup ds => some ds.reverse
  | .lst ds => some ds.reverse
  | _ => none
def mForE {α : Type} (el : α → Option (List D)) (m : MM α) (g : D → Env → Option Env) (b : MS) : MS := mE m fun d => match el d with
  | some ds => loopL g b ds
  | none => fun _ => none
theorem rev_get {α : Type} {ds : List α} {i : Nat} (h : i < ds.length) : ds.reverse[i]? = ds[ds.length - 1 - i]? := by
  rw [List.getElem?_reverse h]
theorem ss_forRev {tl : TE} {g : TG} {tb : TS} {m : MM D} {mg : D → Env → Option Env} {mb : MS} (h : SE c tl m) (hg : SG c g mg) (hb : SS c tb mb) : SS c (tFor (RT.iRevA c.K tl) g tb) (mForE elemsRev m mg mb) := by
  intro ρ o e s σ hs E q
  refine ss_go (t := tl) h e hs q fun v d ρ s e hs rx q tr => ?_
  cases d <;> try (cases e; done)
  · rename_i ds
    cases rx with
    | @tup a vs _ hq rr =>
      have e' : loopL mg mb ds.reverse ρ = some o := e
      refine ⟨a, vs, rfl, .inr ⟨hs.ex.st hq, RT.for_ItvT (K := c.K) (a := a) (xs := vs) (LoopAt c mg mb ds.reverse s o) ⟨ρ, s, hs, rfl, .refl, e'⟩ (fun i σ H ⟨ρ', s', hs', eH, tr', _⟩ => eH ▸ hs'.ex.st (tr'.w.st hq)) (fun i x σ H hi hx hp => ?_) fun σ H hp => ?_⟩⟩
      · obtain ⟨d, hd, rd'⟩ := rr.get hx
        exact loop_turn hg hb q (by rw [rev_get (by rw [← rr.length]; exact hi), ← rr.length]; exact hd) s.W (fun s' t => rd'.mono t.w) hp
      · rw [rr.length] at hp
        exact loop_end q (by rw [List.length_reverse]; exact hp)
  · rename_i ds
    cases rx with
    | @lst a vs _ hq rr =>
      have e' : loopL mg mb ds.reverse ρ = some o := e
      have hq' : SqL c.K s.W a vs := .inl (.inl hq)
      refine ⟨a, vs, rfl, .inl ⟨hs.ex.sl hq', RT.for_Itv (K := c.K) (a := a) (xs := vs) (LoopAt c mg mb ds.reverse s o) ⟨ρ, s, hs, rfl, .refl, e'⟩ (fun i σ H ⟨ρ', s', hs', eH, tr', _⟩ => eH ▸ hs'.ex.sl (tr'.w.sl hq')) (fun i x σ H hi hx hp => ?_) fun σ H hp => ?_⟩⟩
      · obtain ⟨d, hd, rd'⟩ := rr.get hx
        exact loop_turn hg hb q (by rw [rev_get (by rw [← rr.length]; exact hi), ← rr.length]; exact hd) s.W (fun s' t => rd'.mono t.w) hp
      · rw [rr.length] at hp
        exact loop_end q (by rw [List.length_reverse]; exact hp)
/-- range(a, b, -1) -/
def rangeN (lo : Int) (n : Nat) : List D := (List.range n).map fun (i : Nat) => .int (lo + (i : Int) * -1)
theorem rangeN_get {lo : Int} {n i : Nat} (h : i < n) : (rangeN lo n)[i]? = some (.int (lo + (i : Int) * -1)) := by
  unfold rangeN
  rw [List.getElem?_map, List.getElem?_range h]
  rfl
theorem rangeN_len {lo : Int} {n : Nat} : (rangeN lo n).length = n := by unfold rangeN; rw [List.length_map, List.length_range]
def rg3 : List D → Option (List D)
  | [.int i, .int j, .int k] => if rgOk i = true ∧ rgOk j = true ∧ k = -1 then some (rangeN i (i - j).toNat) else none
  | _ => none
theorem reps_i3 {K : PySem.W.Frag} {W : Hp} {vs : List V} {i j k : Int} (r : Reps K W vs [.int i, .int j, .int k]) : vs = [.int i, .int j, .int k] := by
  cases r with
  | cons r1 r2 =>
    cases r1
    rw [reps_i2 r2]
theorem ss_for3 {ta : TA} {g : TG} {tb : TS} {m : MM (List D)} {mg : D → Env → Option Env} {mb : MS} (h : SA c ta m) (hg : SG c g mg) (hb : SS c tb mb) : SS c (tFor (iRng3 ta) g tb) (mForE rg3 m mg mb) := by
  intro ρ o e s σ hs E q
  refine ss_go (t := ta) h e hs q fun vs ds ρ s e hs rx q tr => ?_
  cases e1 : rg3 ds with
  | none => simp only [e1] at e; cases e
  | some l =>
    simp only [e1] at e
    unfold rg3 at e1
    split at e1
    · rename_i i j k
      split at e1
      · rename_i hk
        cases e1
        obtain ⟨h1, h2, rfl⟩ := hk
        refine ⟨i, j, -1, (i - j).toNat, reps_i3 rx, RgC.neg (rgOk_of h1).1 (rgOk_of h1).2 (rgOk_of h2).1 (rgOk_of h2).2, ?_⟩
        exact for_rangeC (lo := i) (c := -1) (n := (i - j).toNat) (LoopAt c mg mb (rangeN i (i - j).toNat) s o) ⟨ρ, s, hs, rfl, .refl, e⟩ (fun k σ H hi hp => loop_turn hg hb q (rangeN_get hi) s.W (fun s' _ => .int _) hp) fun σ H hp => loop_end q (by rw [rangeN_len]; exact hp)
      · cases e1
    · cases e1
/-- zip of two lists or of two tuples -/
def zipD : List D → Option (List D)
  | [.lst xs, .lst ys] => some (List.zipWith (fun a b => .tup [a, b]) xs ys)
  | _ => none
theorem for_zipM {K : PySem.W.Frag} {a b : Addr} {xs ys : List V} {g : TG} {tb : TS} {D : Ends} {σ : L2.St} {H : Hp} (Pv : Nat → L2.St → Hp → Prop) (h0 : Pv 0 σ H) (hq : ∀ i σ H, Pv i σ H → SqL K H a xs ∧ SqL K H b ys)
    (hs : ∀ (i : Nat) (x y : V) (T : Addr) (σ : L2.St) (H : Hp), xs[i]? = some x → ys[i]? = some y → Pv i σ H → H T = none → g (.ref T) σ (upd H T (.tup [x, y])) fun σ2 H2 => tb { D with nx := Pv (i + 1), ct := Pv (i + 1), bk := D.nx } σ2 H2)
    (hd : ∀ σ H, Pv (min xs.length ys.length) σ H → D.nx σ H) :
    ∃ W : Nat → Nat → L2.St → Hp → Prop, (∃ m, W 0 m σ H) ∧ ∀ i m σ H, W i m σ H →
      ((Itz K a b).stop i H ∧ D.nx σ H) ∨ ((Itz K a b).go i H ∧ ∃ N : L2.St → Hp → Prop, (∀ σ' H', N σ' H' → ∃ m', m' < m ∧ W (i + 1) m' σ' H') ∧ ∀ x H', (Itz K a b).yld i H x H' → g x σ H' fun σ2 H2 => tb { D with nx := N, ct := N, bk := D.nx } σ2 H2) := by
  refine ⟨fun i m σ H => m = min xs.length ys.length - i ∧ i ≤ min xs.length ys.length ∧ Pv i σ H, ⟨_, rfl, Nat.zero_le _, h0⟩, ?_⟩
  rintro i m σ H ⟨rfl, hi, p⟩
  obtain ⟨q1, q2⟩ := hq i σ H p
  by_cases hlt : i < min xs.length ys.length
  · have h1 : i < xs.length := by omega
    have h2 : i < ys.length := by omega
    refine .inr ⟨⟨xs, ys, xs[i], ys[i], q1, q2, by simp [h1], by simp [h2]⟩, Pv (i + 1), fun σ' H' p' => ⟨_, by omega, rfl, hlt, p'⟩, fun x H' y => ?_⟩
    obtain ⟨T, x1, y1, rfl, hT, rfl, e1, e2⟩ := y
    exact hs i x1 y1 T σ H (e1 xs q1) (e2 ys q2) p hT
  · have e : i = min xs.length ys.length := by omega
    subst e
    refine .inl ⟨?_, hd σ H p⟩
    exact ⟨xs, ys, q1, q2, by omega⟩
theorem ss_forZip {ta : TA} {g : TG} {tb : TS} {m : MM (List D)} {mg : D → Env → Option Env} {mb : MS} (h : SA c ta m) (hg : SG c g mg) (hb : SS c tb mb) : SS c (tFor (iZip c.K ta) g tb) (mForE zipD m mg mb) := by
  intro ρ o e s σ hs E q
  refine ss_go (t := ta) h e hs q fun vs ds ρ s e hs rx q tr => ?_
  cases e1 : zipD ds with
  | none => simp only [e1] at e; cases e
  | some l =>
    simp only [e1] at e
    unfold zipD at e1
    split at e1
    · rename_i xs ys
      cases e1
      obtain ⟨v1, v2, rfl, r1, r2⟩ := reps2 rx
      cases r1 with
      | @lst a us _ hx rr1 =>
        cases r2 with
        | @lst b ws _ hy rr2 =>
          have hx' : SqL c.K s.W a us := .inl (.inl hx)
          have hy' : SqL c.K s.W b ws := .inl (.inl hy)
          refine ⟨a, b, us, ws, rfl, hs.ex.sl hx', hs.ex.sl hy', for_zipM (K := c.K) (a := a) (b := b) (xs := us) (ys := ws) (LoopAt c mg mb _ s o) ⟨ρ, s, hs, rfl, .refl, e⟩ (fun i σ H ⟨ρ', s', hs', eH, tr', _⟩ => eH ▸ ⟨hs'.ex.sl (tr'.w.sl hx'), hs'.ex.sl (tr'.w.sl hy')⟩) (fun i x y T σ H ex ey hp hT => ?_) fun σ H hp => ?_⟩
          · obtain ⟨d1, hd1, rd1⟩ := rr1.get ex
            obtain ⟨d2, hd2, rd2⟩ := rr2.get ey
            obtain ⟨ρ', s', hs', rfl, tr', e'⟩ := hp
            have n := Nw.new (o := .tup [x, y]) hs'.ex hs'.nt hs'.tb hT (fun _ z => nomatch z)
            refine loop_turn2 (d := .tup [d1, d2]) hg hb q (by rw [List.getElem?_zipWith, hd1, hd2]) ⟨ρ', _, hs'.nw n, rfl, tr'.trans (.nw n), e', .tup (.inl (.inl upd_same)) (.cons ((rd1.mono tr'.w).mono n.w) (.cons ((rd2.mono tr'.w).mono n.w) .nil))⟩
          · rw [rr1.length, rr2.length] at hp
            exact loop_end q (by rw [List.length_zipWith]; exact hp)
    · cases e1
theorem ss_par3 {i j l : Nat} {ta : TA} {m : MM (List D)} (hi : c.P i = false) (hj : c.P j = false) (hl : c.P l = false) (h : SA c ta m) : SS c (tPar3 i j l ta) (mPar3 i j l m) := by
  intro ρ o e s σ hs E q
  refine ss_go (t := ta) h e hs q fun vs ds ρ s e hs rx q tr => ?_
  cases rx with
  | nil => cases e
  | cons r1 rx =>
    cases rx with
    | nil => cases e
    | cons r2 rx =>
      cases rx with
      | nil => cases e
      | cons r3 rx =>
        cases rx with
        | cons _ _ => cases e
        | nil =>
          obtain ⟨ρ', e1, rfl⟩ := Option.map_eq_some_iff.mp e
          obtain ⟨ρ2, e1, e3⟩ := Option.bind_eq_some_iff.mp e1
          obtain ⟨ρ1, e1, e2⟩ := Option.bind_eq_some_iff.mp e1
          refine ⟨_, _, _, rfl, ?_⟩
          exact sg_name (c := c) hi _ ρ ρ1 e1 _ s σ hs r1 (fun σ' H' => E.nx ((σ'.set j (some _)).set l (some _)) H') fun s1 σ1 a b => sg_name (c := c) hj _ ρ1 ρ2 e2 _ s1 σ1 a (r2.mono b.w) (fun σ' H' => E.nx (σ'.set l (some _)) H') fun s2 σ2 a2 b2 =>
            sg_name (c := c) hl _ ρ2 ρ' e3 _ s2 σ2 a2 (r3.mono (b.w.trans b2.w)) _ fun s3 σ3 a3 b3 => q s3 σ3 a3 (b.trans (b2.trans b3))
end
end PD
end
section
set_option maxHeartbeats 0
namespace PD
open PySem PySem.Spec PyProof.Rows L2
/-! ### what the generated texts use -/
section
variable {c : Cc}
def Ln (n : Nat) (m : MM (List D)) : Prop := ∀ ρ as ρ', m ρ = some (.ok as ρ') → as.length = n
theorem ln_nil : Ln 0 (ret []) := fun ρ as ρ' e => by cases e; rfl
theorem ln_cons {n : Nat} {m : MM D} {ms : MM (List D)} (h : Ln n ms) : Ln (n + 1) (bnd m fun d => bnd ms fun ds => ret (d :: ds)) := fun ρ as ρ' e => by
  rcases bnd_cases e with ⟨d, ρ1, e1, e2⟩ | ⟨x, ρ1, e1, e2⟩
  · rcases bnd_cases e2 with ⟨ds, ρ2, e3, e4⟩ | ⟨x, ρ2, e3, e4⟩
    · cases e4
      rw [List.length_cons, h _ _ _ e3]
    · cases e4
  · cases e2
def mArg (m : MM D) (ms : MM (List D)) : MM (List D) := bnd m fun d => bnd ms fun ds => ret (d :: ds)
def mOp (op : D → D → Option D) (a b : MM D) : MM D := bnd a fun x => bnd b fun y => lft (op x y)
def mUn (op : D → Option D) (a : MM D) : MM D := bnd a fun x => lft (op x)
def mCb (op : List D → Option D) (a : MM (List D)) : MM D := bnd a fun x => lft (op x)
def mTest (m : MM D) : MM Bool := bnd m fun d => lft (asB d)
def mTru (m : MM D) : MM Bool := bnd m fun d => lft (truD d)
def mAnd (a b : MM Bool) : MM Bool := bnd a fun x => if x = true then b else ret false
def mOr (a b : MM Bool) : MM Bool := bnd a fun x => if x = true then ret true else b
def mNot (a : MM Bool) : MM Bool := bnd a fun x => ret (!x)
def mIfE (t : MM Bool) (a b : MM D) : MM D := bnd t fun x => if x = true then a else b
def mAndV (a b : MM D) : MM D := bnd a fun x => bnd (lft (asB x)) fun k => if k = true then b else ret (.bl false)
def mOrV (a b : MM D) : MM D := bnd a fun x => bnd (lft (asB x)) fun k => if k = true then ret (.bl true) else b
def mNotV (a : MM D) : MM D := bnd a fun x => bnd (lft (asB x)) fun k => ret (.bl (!k))
def mTupD (m : MM (List D)) : MM D := bnd m fun ds => lft (mTup ds)
def mLstD (m : MM (List D)) : MM D := bnd m fun ds => lft (mLst ds)
def mLstO (m : MM (List D)) : MM Own := bnd m fun ds => lft (if ds.length ≤ cap then some (.lst ds) else none)
def mCbO (op : List D → Option (List D)) (a : MM (List D)) : MM Own := bnd a fun x => lft ((op x).map .lst)
def mOpO (op : D → D → Option (List D)) (a b : MM D) : MM Own := bnd a fun x => bnd b fun y => lft ((op x y).map .lst)
def mPart (m : MM D) : MM (Option Int) := bnd m fun d => lft ((asI d).map some)
def mSetAtO (i : Nat) (me mk : MM D) : MS := fun ρ => match ownAt ρ i with
    | some (.lst _) => mSetAt i me mk ρ
    | _ => none
def mChain (op op' : D → D → Option D) (a b d : MM D) : MM D := bnd a fun x => bnd b fun y => bnd (lft (op x y)) fun z => bnd (lft (asB z)) fun k => if k = true then bnd d fun w => lft (op' y w) else ret (.bl false)
theorem se_chain {r r' : R2} {op op' : D → D → Option D} {ta tb td : TE} {ma mb md : MM D} (ho : ROp c r op) (ho' : ROp c r' op') (ha : SE c ta ma) (hb : SE c tb mb) (hd : SE c td md) : SE c (tChain r r' ta tb td) (mChain op op' ma mb md) := by
  intro ρ rr e s σ hs Q q
  refine sx_go (t := ta) ha e hs q fun x a ρ s e hs rx q tr => ?_
  refine sx_go (t := tb) hb e hs q fun y b ρ s1 e hs1 ry q tr1 => ?_
  rcases bnd_cases e with ⟨z, ρ2, e1, e2⟩ | ⟨x', ρ2, e1, _⟩
  · obtain ⟨z', e3, e4⟩ := lft_cases e1
    cases e4
    rcases bnd_cases e2 with ⟨k, ρ3, e5, e6⟩ | ⟨x', ρ3, e5, _⟩
    · obtain ⟨k', e7, e8⟩ := lft_cases e5
      cases e8
      refine ho _ _ x y a b _ hs1.wd (rx.mono tr1.w) ry e3 _ fun v W' H' n rv => ?_
      cases z <;> try (cases e7; done)
      cases e7
      cases rv
      refine ⟨_, rfl, ?_⟩
      have hs2 := hs1.nw n
      have q2 := q.after (.nw n)
      split at e6
      · rename_i hk
        rw [if_pos hk]
        refine sx_go (t := td) (s := ⟨W', H', s1.A⟩) hd e6 hs2 q2 fun w d ρ s3 e hs3 rw' q tr3 => ?_
        obtain ⟨z2, e9, rfl⟩ := lft_cases e
        exact ho' _ _ y w b d _ hs3.wd ((ry.mono n.w).mono tr3.w) rw' e9 _ (post_nw hs3 q)
      · rename_i hk
        rw [if_neg hk]
        cases e6
        exact q2 _ ⟨W', H', s1.A⟩ hs2 .refl (.bl _)
    · obtain ⟨_, _, e8⟩ := lft_cases e5
      cases e8
  · obtain ⟨_, _, e8⟩ := lft_cases e1
    cases e8
def dNeg : D → Option D
  | .int i => some (.int (-i))
  | _ => none
theorem run_neg : RUn c (rU fun i => .int (-i)) dNeg := by
  intro W H x a d w rx e Q q
  cases a <;> try (cases e; done)
  cases e
  cases rx
  exact ⟨_, rfl, q _ W H w.nref (.int _)⟩
def dPow : D → D → Option D := dInt2 (fun i j => decide (0 ≤ j) && decide (j ≤ 1000000) && decide (i.natAbs < 2 ^ 64)) fun i j => .int (i ^ j.toNat)
theorem rop_pow : ROp c (rI CPow fun i j => .int (i ^ j.toNat)) dPow := rop_I (fun i j h => by
  rw [Bool.and_eq_true, Bool.and_eq_true] at h
  exact ⟨of_decide_eq_true h.1.1, of_decide_eq_true h.1.2, of_decide_eq_true h.2⟩) fun _ _ _ => .int _
def dIpAdd : D → D → Option D := dInt fun i j => .int (i + j)
theorem rop_ipadd : ROp c (ipI fun i j => i + j) dIpAdd := by
  intro W H x y a b d w rx ry e Q q
  cases a <;> try (cases e; done)
  cases b <;> try (cases e; done)
  cases rx; cases ry; cases e
  exact ⟨_, _, rfl, rfl, q _ W H w.nref (.int _)⟩
theorem Ln_pin {n : Nat} {m : MM (List D)} (h : Ln n m) : ∀ ρ as ρ', m ρ = some (.ok as ρ') → as.length + 1 = n + 1 := fun ρ as ρ' e => by rw [h _ _ _ e]
/-- within a comprehension nothing is raised -/
theorem takesQ {X : Cx} {ca : Str → Addr} : Takes X (wOf ca fun _ _ _ => False) := L2.takes0.imp fun _ _ _ _ ⟨_, _, _, h⟩ => h
theorem takesB {X : Cx} {ca : Str → Addr} {E : XK} (h : Takes X fun cls d _ H => E cls d H) : Takes X (wOf ca fun x _ H => E (.ref (ca x)) none H) := h.imp fun cls d σ H ⟨x, h1, h2, h3⟩ => by
  subst h1 h2
  exact h3
end
/-- a def, as it is called -/
structure Cal (P : Program) (w : World) (K : PySem.W.Frag) (mg : Str → Option Value) (base : Heap) (tb : TBs) (ca : Str → Addr) (x : Str) (k : Nat) (ps : List Str) (Pm : Nat → Bool) (F : Env → Option (Res D)) (f : Addr) (fd : FuncData) : Prop where
  ok : FnOk P w K mg base (L2.CX P w) k f fd ps (spG K tb ca Pm ps.length F)
  g : mg x = some (.ref f)
  kp : PySem.W.keepIn K (.ref f) = true
  b : Binds K fd ps []
/-- an own class of exceptions -/
structure ExcC (K : PySem.W.Frag) (mg : Str → Option Value) (ca : Str → Addr) (x : Str) : Prop where
  g : mg x = some (.ref (ca x))
  ex : PySem.W.excIn K (ca x) [.type "ValueError", .type "Exception", .type "BaseException", .type "object"] "ValueError.__new__" = true
  kp : PySem.W.keepIn K (.ref (ca x)) = true
  xm : PySem.W.exmOne K (.ref (ca x)) (.ref (ca x)) = some true
  sub : PySem.W.subIn K (.ref (ca x)) (.type "BaseException") = some true
  ty : PySem.W.typeIn K (.ref (ca x)) = some (.type "type")
end PD
end
section
set_option maxHeartbeats 0
namespace PD
open PySem PySem.Spec PyProof.Rows L2
/-! ### a dict of the module's top: texts to texts -/
structure WDic (K : PySem.W.Frag) (w : World) (mg : Str → Option Value) (x : Str) (a : Addr) (kvs : List (Str × Str)) : Prop where
  g : mg x = some (.ref a)
  kd : ∃ es n, KDict K w a es n
  val : ∀ q ∈ kvs, ∃ u, PySem.W.nsIn K a q.1 = some (some u) ∧ RelV (.str q.2) u
  out : ∀ z, z ∉ kvs.map (·.1) → PySem.W.nsIn K a z = some none
def dWGet (kvs : List (Str × Str)) : D → Option D
  | .str z => (kvs.find? fun q => decide (q.1 = z)).map fun q => .str q.2
  | _ => none
def dWNotIn (kvs : List (Str × Str)) : D → Option D
  | .str z => some (.bl (!(kvs.any fun q => decide (q.1 = z))))
  | _ => none
def rWNot (K : PySem.W.Frag) (d : Addr) : R2 := fun x y H Q => ∃ (z : Str) (r : Option Value), x = .str z ∧ y = .ref d ∧ PySem.W.nsIn K d z = some r ∧ Q (.bl (!r.isSome)) H
section
variable {c : Cc} {w : World} {mg : Str → Option Value} {x : Str} {a : Addr} {kvs : List (Str × Str)}
theorem se_wget {tk : TE} {mk : MM D} (d : WDic c.K w mg x a kvs) (h : SE c tk mk) : SE c (tOp (rIxD c.K w) (tC (.ref a)) tk) (mUn (dWGet kvs) mk) := by
  intro ρ rr e s σ hs Q q
  refine sx_go (t := tk) (R := fun y H2 => rIxD c.K w (.ref a) y H2 Q) h e hs q fun y k ρ s e hs ry q tr => ?_
  obtain ⟨v, e3, rfl⟩ := lft_cases e
  cases k <;> try (cases e3; done)
  rename_i z
  cases ry
  obtain ⟨p, hp, rfl⟩ := Option.map_eq_some_iff.mp e3
  have h1 : p.1 = z := by
    have z1 := List.find?_some hp
    exact of_decide_eq_true z1
  obtain ⟨u, hu, ru⟩ := d.val p (List.mem_of_find?_eq_some hp)
  obtain ⟨es, n, hk⟩ := d.kd
  rw [h1] at hu
  exact ⟨a, z, .str p.2, rfl, rfl, ⟨es, n, u, hk.at_, hk.lit, hu, ru⟩, q _ s hs .refl (.str _)⟩
theorem se_wnot {tk : TE} {mk : MM D} (d : WDic c.K w mg x a kvs) (h : SE c tk mk) : SE c (tOp (rWNot c.K a) tk (tC (.ref a))) (mUn (dWNotIn kvs) mk) := by
  intro ρ rr e s σ hs Q q
  refine sx_go (t := tk) (R := fun y H2 => rWNot c.K a y (.ref a) H2 Q) h e hs q fun y k ρ s e hs ry q tr => ?_
  obtain ⟨v, e3, rfl⟩ := lft_cases e
  cases k <;> try (cases e3; done)
  rename_i z
  cases ry
  cases e3
  by_cases hz : z ∈ kvs.map (·.1)
  · obtain ⟨p, hp, ep⟩ := List.mem_map.mp hz
    obtain ⟨u, hu, ru⟩ := d.val p hp
    rw [ep] at hu
    have : (kvs.any fun q => decide (q.1 = z)) = true := List.any_eq_true.mpr ⟨p, hp, decide_eq_true ep⟩
    rw [this] at q
    exact ⟨z, some u, rfl, rfl, hu, q _ s hs .refl (.bl _)⟩
  · have : (kvs.any fun q => decide (q.1 = z)) = false := by
      rw [List.any_eq_false]
      intro p hp e
      exact hz (List.mem_map.mpr ⟨p, hp, of_decide_eq_true e⟩)
    rw [this] at q
    exact ⟨z, none, rfl, rfl, d.out z hz, q _ s hs .refl (.bl _)⟩
end
/-- from a head's facts -/
theorem dic_out {K : PySem.W.Frag} {P : Params} {a : Addr} {ks : List Str} (h : He.dicW K a = some (He.keysIn P ks)) : ∀ z, z ∉ ks → PySem.W.nsIn K a z = some none := by
  intro z hz
  unfold He.dicW at h
  unfold PySem.W.nsIn
  cases q : K.lookup a with
  | none => rw [q] at h; cases h
  | some o =>
    obtain ⟨oc, od, dt, osl⟩ := o
    rw [q] at h
    cases oc with
    | type cc =>
      cases od with
      | none =>
        cases dt with
        | dict es n =>
          have h1 : (match decide (cc = "dict") && (osl.isEmpty && !(a == sysModules)) with
            | true => some (es.toList.map He.keyOf)
            | false => none) = some (He.keysIn P ks) := h
          split at h1
          · have h2 := Option.some.inj h1
            have key : ∀ e ∈ es.toList, ∃ y t, e.key = .str y t ∧ y ∈ ks := fun e he => by
              have : He.keyOf e ∈ He.keysIn P ks := by rw [← h2]; exact List.mem_map.mpr ⟨e, he, rfl⟩
              unfold He.keysIn at this
              obtain ⟨y, hy, ey⟩ := List.mem_map.mp this
              unfold He.keyOf at ey
              split at ey
              · rename_i y' t e2
                have := Option.some.inj ey
                exact ⟨y', t, e2, by rw [← (Prod.mk.inj this).1]; exact hy⟩
              · cases ey
            have nf : es.toList.find? (·.key.isStr z) = none := by
              rw [List.find?_eq_none]
              intro e he hs
              obtain ⟨y, t, e1, hy⟩ := key e he
              rw [e1] at hs
              have hzy : z = y ∨ y = z := by
                simp only [Value.isStr] at hs
                first
                  | exact .inl (of_decide_eq_true hs)
                  | exact .inr (of_decide_eq_true hs)
                  | exact .inr (beq_iff_eq.mp hs)
                  | exact .inl (beq_iff_eq.mp hs)
              rcases hzy with rfl | rfl <;> exact hz hy
            have nr : es.toList.any (·.refKey) = false := by
              rw [List.any_eq_false]
              intro e he hs
              obtain ⟨y, t, e1, hy⟩ := key e he
              simp only [DictEntry.refKey, e1] at hs
              first
                | cases hs
                | exact absurd hs Bool.false_ne_true
            simp only [nf, nr]
            rfl
          · cases h1
        | _ => cases h
      | some b => cases dt <;> cases h
    | _ => cases od <;> cases dt <;> cases h
end PD
end
section
set_option maxHeartbeats 0
/-! any of a generator expression over a text's signs, its test one that may read the module's names -/
namespace PD
open PySem PySem.Spec PyProof.Rows L2 GxR
/-- the test of a sign, wherever the module's names are as they were -/
def EltG (prog : Program) (w : World) (mg : Str → Option Value) (scope : Scope) (x : Str) (elt : Expr) (pb : Nat → Bool) : Prop :=
  ∀ (cenv : PySem.Env) (A' : Around) (E' : Value → Shared → Prop) (c : Nat) (t : Tok) (s₂ : Shared) (m₂ : Str → Option Value), cenv.scope = scope → cenv.globals = mainGlobals → s₂.heap.Ns mainGlobals mg → s₂.heap.Ns cenv.locals m₂ → m₂ x = some (.str ⟨#[c]⟩ t) →
    wpAny (model prog w) A' (eval elt cenv) (fun y s₃ => y = .bool (pb c) ∧ Keeps s₂ s₃) E' s₂
/-- x not in NAME, NAME a text of the module -/
theorem eltG_notIn {prog : Program} {w : World} {mg : Str → Option Value} {scope : Scope} {x g z : Str} {tz : Tok} {p1 p2 p3 : Pos} (hk : scope.kind = .function) (hl : scope.names.lookup x = some .local) (hg : scope.names.lookup g = some .globalImplicit) (hm : mg g = some (.str z tz))
    (hd : (x == ("__debug__" : Str)) = false := by decide) (hd2 : (g == ("__debug__" : Str)) = false := by decide) :
    EltG prog w mg scope x (.Compare (.Name x p1) [.NotIn] [.Name g p2] p3) (fun c => !decide (c ∈ z.cps.toList)) := by
  intro cenv A' E' c t s₂ m₂ hs hgl hG hn hmx
  refine wpAny_Compare1 ?_ (by rfl)
  refine wpAny_Name (wpAny_loadName_local (by rw [hs]; exact hk) (show cenv.scope.names.lookup x = some .local by rw [hs]; exact hl) hn hmx ?_) hd
  refine Calls.Name_function_global (by rw [hs]; exact hk) (show cenv.scope.names.lookup g = some .globalImplicit by rw [hs]; exact hg) (Calls.loadGlobal_global (by rw [hgl]; exact hG) hm ?_) hd2
  exact PyProof.Rows.notIn_str ⟨congrArg Value.bool (congrArg Bool.not (PySem.StrLaws.found_one z c)), keeps_refl _⟩
section
variable {X : Cx} {pins : List (Addr × Obj)} {σ : L2.St} {H : Hp} {s : Shared}
/-- what stood ahead of the walk is none of what the generator writes -/
theorem old_not_new {h h3 : Heap} {b : Addr} {u : Obj} (e : h.get? b = some u) (hz : h.objs.size ≤ h3.objs.size) : b ∉ [h3.objs.size, h.objs.size] := fun hb => by
  have l : b < h.objs.size := Heap.lt_size e
  simp only [List.mem_cons, List.not_mem_nil, or_false] at hb
  rcases hb with z | z
  · have : b < h3.objs.size := Nat.lt_of_lt_of_le l hz
    rw [z] at this
    exact Nat.lt_irrefl _ this
  · rw [z] at l
    exact Nat.lt_irrefl _ l
/-- the generator's walk begun: what its maker hands on -/
theorem genG {cc P : Addr} {elt iter : Expr} {x : Str} {px gpos : Pos} {scope : Scope} {pb : Nat → Bool} {te : TE} {k : Nat} {Q' : Value → Shared → Prop} {R : Str → Hp → Prop}
    (hr : Room k X.A) (T : TabB X.base X.mg cc P) (hcode : X.env.code = .ref cc) (S : GenS X.env scope x) (hi : PE X iter te) (hel : EltG X.prog X.w X.mg scope x elt pb) (hfold : ∀ v, genFold iter X.env v = pure v) (I : Inv X pins σ H s)
    (h : te σ H fun v H1 => ∃ a : Str, v = .str a ∧ TabG H1 P ∧ R a H1) (fin : ∀ a H1 g s5, R a H1 → Ready X pins σ H1 P a pb g s5 → Q' (.ref g) s5) :
    wpAny (model X.prog X.w) X.A (eval (.GeneratorExp elt [⟨.Name x px, iter, [], 0⟩] scope gpos) X.env) Q' X.xe s := by
  have roomy : X.A.depth < recursionLimit := by
    have q := hr.dp
    omega
  refine wpAny_GeneratorExp_walksQ hr.hd S.co (closure_ok S.free) S.cell S.dot S.loc S.kind roomy (thn (hi.run pins s σ H _ I h) ?_) hfold
  rintro xv s1 ⟨v, H1, I1, r1, a, rfl, ⟨ps, hP, tri⟩, hR⟩
  obtain ⟨t, rfl⟩ := id r1
  refine wpAny_pyIter_str fun o St W st0 => ?_
  -- the heap: s1's, the iterator o, then (it may be) the code object, in the table at P
  have atP : s1.heap.get? P = some { cls := .none, data := .fields ps } := I1.hok P _ hP
  have cls1 : cStatics < s1.heap.objs.size := by
    obtain ⟨_, z, _⟩ := I1.nolimit
    exact z.lt
  have notP : cStatics ≠ P := fun z => by
    obtain ⟨_, ⟨o', es, ep, e1, e2, _⟩, _⟩ := I1.nolimit
    rw [z, atP] at e1
    cases e1
    cases e2
  have up : ∀ b u, s1.heap.get? b = some u → (s1.heap.push o).get? b = some u := fun b u e => Heap.get?_push_of_some _ e
  have hcd : PySem.W.CodeHd (s1.heap.push o) cc P := T.code.keeps fun b u e => up b u (I1.bk b u e)
  refine ⟨I1.nolimit.push o, ?_⟩
  -- behind the code object: the same for both ways
  have rest : ∀ (code : Value) (h3 : Heap) (tk : Nat) (qs more : Array Value), Heap.ExtBut P (s1.heap.push o) h3 → (s1.heap.push o).objs.size ≤ h3.objs.size → h3.get? P = some { cls := .none, data := .fields qs } → qs = ps ++ more → TriplesOk qs.toList →
      wpAny (model X.prog X.w) X.A (builtinsFor X.env.globals X.env.builtins) (fun bi s₄ =>
        ∃ Ia fp wr n₀ Pf St₀ pz F, Value.ref s1.heap.objs.size = .ref Ia ∧ (∀ A' : Around, A'.handled = none → Walks X.prog X.w A' Ia fp wr n₀ Pf St₀) ∧ St₀ 0 s₄.heap ∧ (∀ b ∈ fp, b < s₄.heap.objs.size) ∧ s₄.heap.NoLimit ∧ cStatics ∉ wr ∧
          (∀ href : Heap, (∀ b o, s₄.heap.get? b = some o → href.get? b = some o) →
            QuietGen X.prog X.w (genEnv scope (cloFrom X.env.cells scope.names []) s₄.heap.objs.size code bi X.env) x [] elt (List.range s₄.heap.objs.size) wr Pf pz F href) ∧
          (∀ a h₅ tk gs, gs.bare = true → s₄.heap.objs.size < a → h₅.objs.size = a + 1 → (∀ b o, s₄.heap.get? b = some o → h₅.get? b = some o) →
            WalksS X.prog X.w X.A.in4 a (a :: s₄.heap.objs.size :: List.range s₄.heap.objs.size) (s₄.heap.objs.size :: wr) (GenOnlyQ s₄.gens.size) (passing pz n₀ 0).length
              (fun j y => ∃ i, (passing pz n₀ 0)[j]? = some i ∧ F i y) (GenAt X.prog X.w X.A.in4 a s₄.gens.size s₄.heap.objs.size (List.range s₄.heap.objs.size) wr pz n₀ F) →
            GenAt X.prog X.w X.A.in4 a s₄.gens.size s₄.heap.objs.size (List.range s₄.heap.objs.size) wr pz n₀ F 0 { s₄ with gens := s₄.gens.push gs, toks := tk, heap := h₅ } →
            Q' (.ref a) { s₄ with gens := s₄.gens.push gs, toks := tk, heap := h₅ })) X.xe { s1 with heap := h3, toks := tk } := by
    intro code h3 tk qs more ext size3 atP3 eqs tri3
    obtain ⟨bm, ob, b1, b2, b3, b4, b5, b6, b7, b8⟩ := T.bm
    have keep : ∀ b u, b ≠ P → s1.heap.get? b = some u → h3.get? b = some u := fun b u hb e => ext b u hb (up b u e)
    have glob3 : h3.Ns mainGlobals X.mg := ((I1.mod.glob.keeps I1.bk).push o).extBut ext T.gP
    have one : s1.heap.objs.size < h3.objs.size := by
      have z : (s1.heap.push o).objs.size = s1.heap.objs.size + 1 := Heap.size_push ..
      omega
    refine wpAny_builtinsFor (m := X.mg) (by rw [I1.ok.glob]; exact glob3) b1 b2 (keep _ _ b4 (I1.bk _ _ b5)) b6 b7 b8 ?_
    refine ⟨_, [s1.heap.objs.size], [s1.heap.objs.size], a.cps.size, SignAt a, St, fun _ => true, fun i y => ∃ ch, a.cps[i]? = some ch ∧ y = .bool (pb ch), rfl, W, ?_, ?_, (I1.nolimit.push o).extBut ext notP, ?_, ?_, ?_⟩
    · exact (W X.A hr.hd).frame _ _ _ st0 fun b hb u e => ext b u (by
        have eb : b = s1.heap.objs.size := by simpa using hb
        rw [eb]
        exact Nat.ne_of_gt (Heap.lt_size atP)) e
    · intro b hb
      have eb : b = s1.heap.objs.size := by simpa using hb
      rw [eb]
      exact one
    · intro z
      have eb : cStatics = s1.heap.objs.size := by simpa using z
      exact Nat.ne_of_lt cls1 eb
    · intro href sub
      constructor
      · intro A' E' i v s₂ m₂ _ _ _ _ _
        simp only [List.forIn_nil]
        exact wpAny_pure ⟨rfl, keeps_refl _⟩
      · intro A' E' i v s₂ m₂ _ hv _ hn hm hk
        obtain ⟨ch, u, hch, rfl⟩ := hv
        have globs : s₂.heap.Ns mainGlobals X.mg := by
          obtain ⟨og, es, ep, g1, g2⟩ := glob3
          have gl : mainGlobals < s1.heap.objs.size := by
            obtain ⟨_, _, _, z, _⟩ := I1.mod.glob.keeps I1.bk
            exact Heap.lt_size z
          refine ⟨og, es, ep, hk mainGlobals (List.mem_range.mpr (Nat.lt_trans gl one)) ?_ og (sub _ _ g1), g2⟩
          intro z
          have eb : mainGlobals = s1.heap.objs.size := by simpa using z
          exact Nat.ne_of_lt gl eb
        exact wpAny_mono (hel _ A' E' ch u s₂ m₂ rfl I1.ok.glob globs hn hm) (fun y s3 r => ⟨⟨ch, hch, r.1⟩, r.2⟩) fun _ _ e => e
    · intro g h5 tk5 gs bare hag size5 keep5 W5 at5
      simp only [GxR.passing_true, List.length_range] at W5
      refine fin a H1 g _ hR ⟨_, _, _, _, _, W5.in4_1, at5, ?_, ?_⟩
      · rintro j y sj Qj Ej ⟨i, hij, ch, hch, rfl⟩ hQj
        obtain ⟨hj, ej⟩ := List.getElem?_eq_some_iff.mp hij
        rw [List.getElem_range] at ej
        subst ej
        have z : trF pb a.cps.toList j = pb ch := trF_some (by rw [Array.getElem?_toList]; exact hch)
        rw [z] at hQj
        exact wpAny_truthy_bool hQj
      · intro s' moved
        subst eqs
        have J := inv_tab (more := more) (h' := s'.heap) (g' := s'.gens) (d' := s'.drawn) (t' := s'.toks) I1 hP (fun b u hb e => moved.heap b u (old_not_new e (Nat.le_of_lt one)) (keep5 b u (keep b u hb e)))
          (moved.heap P _ (old_not_new atP (Nat.le_of_lt one)) (keep5 P _ atP3)) (AllBare.movedS (I1.bare.push bare) moved)
        rw [sh_eta s1 s' moved.os] at J
        exact ⟨_, ⟨⟨ps ++ more, upd_same, tri3⟩, fun b hb => upd_ne hb⟩, J⟩
  cases hf : codeAmong gpos ps.toList with
  | some cv =>
    exact wpAny_genexprCode_hit hcode (hcd.code (up P _ atP) tri) hf (rest cv (s1.heap.push o) s1.toks ps #[] (Heap.ExtBut.refl _ _) (Nat.le_refl _) (up P _ atP) (by simp) tri)
  | none =>
    refine wpAny_genexprCodeX hcode (hcd.code (up P _ atP) tri) (hcd.tab (up P _ atP)) hf fun c' h' tk hx hge hlt hco _ htab _ => ?_
    obtain ⟨_, _, _, _, _, _, _, _, _, _, _, _, _, _, _, _, _, _, _, tri', _⟩ := hco
    exact rest _ h' tk _ _ hx (Nat.le_trans hge (Nat.le_of_lt hlt)) htab.2 rfl tri'
theorem pe_anyG {cc P : Addr} {elt iter : Expr} {x : Str} {px p pos gpos : Pos} {scope : Scope} {pb : Nat → Bool} {te : TE} {k : Nat}
    (hr : Room k X.A) (hg : Gl X "any") (hm : X.mg "any" = none) (T : TabB X.base X.mg cc P) (hcode : X.env.code = .ref cc) (S : GenS X.env scope x) (hi : PE X iter te) (hel : EltG X.prog X.w X.mg scope x elt pb) (hfold : ∀ v, genFold iter X.env v = pure v)
    (he : starEach [.GeneratorExp elt [⟨.Name x px, iter, [], 0⟩] scope gpos] X.env = (false, eval (.GeneratorExp elt [⟨.Name x px, iter, [], 0⟩] scope gpos) X.env) :: starEach [] X.env := by rfl) :
    PE X (.Call (.Name "any" p) [.GeneratorExp elt [⟨.Name x px, iter, [], 0⟩] scope gpos] [] pos) (tAnyS P pb te) := by
  refine ⟨fun pins s σ H Q I h => wpAny_Call_Name_kw (ld_blt I hg hm boot_any ?_)⟩
  refine PyProof.Rows.callWith_builtin1 ?_ he (by rfl)
  rw [he]
  show wpAny _ _ (spliced ((false, eval (.GeneratorExp elt [⟨.Name x px, iter, [], 0⟩] scope gpos) X.env) :: backTo pos (starEach [] X.env))) _ _ s
  refine Calls.spliced_cons (genG (R := fun a H1 => ∀ H2, Tabbed P H1 H2 → Q (.bl (a.cps.toList.any pb)) H2) hr T hcode S hi hel hfold I h ?_)
  rintro a H1 g s5 hR ⟨fp, wr, G, F, St, W, hst, htr, hI⟩
  refine Calls.spliced_nil (call_any_walkS (W.self 0 _ _ _ hst ⟨g, fp, wr, G, _, F, St, _, rfl, W, hst, htr, fun s' moved => ?_⟩))
  obtain ⟨H2, hT, J⟩ := hI s' moved
  exact ⟨.bl _, H2, J, rfl, by rw [any_signs a pb]; exact hR H2 hT⟩
end
section
variable {c : Cc}
def dAnyS (pb : Nat → Bool) : D → Option D
  | .str a => some (.bl (a.cps.toList.any pb))
  | _ => none
theorem se_anyS {P : Addr} {pb : Nat → Bool} {te : TE} {m : MM D} (hP : P ∈ c.tb.GT) (hL : ∀ q ∈ c.tb.LT, q.1 ≠ P) (h : SE c te m) : SE c (tAnyS P pb te) (mUn (dAnyS pb) m) := by
  intro ρ rr e s σ hs Q q
  refine sx_go (t := te) h e hs q fun x a ρ s e hs rx q tr => ?_
  obtain ⟨d, e3, rfl⟩ := lft_cases e
  cases a <;> try (cases e3; done)
  cases e3
  cases rx
  obtain ⟨ps, hp, ht⟩ := hs.tb.2 P hP
  refine ⟨_, rfl, ⟨ps, hp, ht⟩, fun H2 tabbed => ?_⟩
  obtain ⟨⟨ps2, hp2, ht2⟩, same⟩ := tabbed
  have k : ∀ b o, NTbl o → s.H b = some o → H2 b = some o := fun b o no e => by
    have : b ≠ P := fun z => by rw [z, hp] at e; cases e; exact no _ rfl
    rw [same b this]; exact e
  have n : Nw c.tb s.W s.H s.W H2 := by
    refine ⟨Ex.refl _, fun a o e => k a o (hs.nt a o e) (hs.ex a o e), hs.nt, fun _ _ h => h, fun a o e no => k a o no e, fun a h => ?_, ⟨fun q hq => ?_, fun P' hP' => ?_⟩⟩
    · by_cases ha : a = P
      · rw [ha, hp2]; exact fun z => nomatch z
      · rw [same a ha]; exact h
    · obtain ⟨ps3, h1, h2, h3⟩ := hs.tb.1 q hq
      refine ⟨ps3, by rw [same _ (hL q hq)]; exact h1, h2, fun pos cv hc => ?_⟩
      obtain ⟨c', e1, e2⟩ := h3 pos cv hc
      exact ⟨c', e1, k _ _ (fun _ z => nomatch z) e2⟩
    · by_cases ha : P' = P
      · rw [ha]; exact ⟨ps2, hp2, ht2⟩
      · obtain ⟨ps3, h1, h2⟩ := hs.tb.2 P' hP'
        exact ⟨ps3, by rw [same _ ha]; exact h1, h2⟩
  exact post_nw hs q _ _ _ n (.bl _)
end
end PD
end
section
set_option maxHeartbeats 0
/-! PDL: a lambda without parameters, handed to a def that tells an error by a text; all tables but the maker's own stay as they are. -/
namespace PD
open PySem PySem.Spec PyProof.Rows L2 LamX
/-- H' has all that H has, but for what stands at P -/
def KeepBut (P : Addr) (H H' : Hp) : Prop := ∀ b o, b ≠ P → H b = some o → H' b = some o
section
variable {X : Cx} {pins : List (Addr × Obj)} {σ : L2.St} {H : Hp} {s : Shared}
theorem lamMk {c P : Addr} {params : Arguments} {body : Expr} {scope : Scope} {pos : Pos} {E : Value → Shared → Prop} {Q : Value → Shared → Prop} (I : Inv X pins σ H s) (TB : LamX.TabB X.base X.mg c P) (hcode : X.env.code = .ref c)
    (hT : TabS H P (X.env.qual ++ "<lambda>")) (hdef : defaultsOf params X.env = ([], [])) (hfree : ∀ y ∈ scope.names, y.2 = .free → ∃ c, X.env.cells.lookup y.1 = some c)
    (h : ∀ (f c' : Addr) (pm ctv : Value) (H1 : Hp) (s' : Shared), Inv X pins σ H1 s' → KeepBut P H H1 → TabS H1 P (X.env.qual ++ "<lambda>") →
      s'.heap.get? f = some (PySem.W.kla_obj "<lambda>" (X.env.qual ++ "<lambda>") params body scope (cloFrom X.env.cells scope.names []) pm c' ctv) → H1 f = none → f ∉ frs X.stack → H1 c' = some (CodeO c' (X.env.qual ++ "<lambda>")) → Q (.ref f) s') :
    wpAny (model X.prog X.w) X.A (eval (.Lambda params body scope pos) X.env) Q E s := by
  obtain ⟨ps, hP, ht, ha⟩ := hT
  refine PySem.W.kla_eval hdef ?_
  have bP : s.heap.BuiltinsAt X.mg P := TB.bm.keeps I.bk
  have hP' := I.hok P _ hP
  have nofr : ∀ f, s.heap.objs.size ≤ f → f ∉ frs X.stack := fun f hf z => (List.mem_cons.mp (I.stkSub _ z)).elim (fun e => Nat.lt_irrefl _ (Nat.lt_of_lt_of_le (e ▸ I.lt) hf)) (fun e => I.nofs hf e)
  cases hc : codeAmong pos ps.toList with
  | some cv =>
    obtain ⟨c', rfl, hco⟩ := ha pos cv hc
    refine PySem.W.kla_makeFunctionHit (mg := X.mg) (c := c) (P := P) (ps := ps) (closure_ok hfree) I.ok.glob (I.mod.glob.keeps I.bk) hcode (TB.code.keeps I.bk) hP' ht hc bP fun ctv h' tk hx hsz => ?_
    exact h h'.objs.size c' _ ctv H _ (I.kept fun b o e => Heap.get?_push_of_some _ (hx b o e)) (fun _ _ _ e => e) ⟨ps, hP, ht, ha⟩ (Heap.get?_push_size _ rfl) (I.hok.fresh hsz) (nofr _ hsz) hco
  | none =>
    refine PySem.W.kla_makeFunction (mg := X.mg) (c := c) (P := P) (ps := ps) (closure_ok hfree) I.ok.glob (I.mod.glob.keeps I.bk) hcode (TB.code.keeps I.bk) hP' ht hc TB.gP bP fun c' ctv h' tk hx hge hlt hrec htb => ?_
    obtain ⟨c2, oc, vs, t, e2, hoc, hd, hv⟩ := hrec
    cases e2
    have hsz : s.heap.objs.size ≤ h'.objs.size := Nat.le_trans hge (Nat.le_of_lt hlt)
    have nC : H c' = none := I.hok.fresh hge
    have I1 := inv_table (t' := tk) (more := #[rawInt pos.line, rawInt pos.col, .ref c']) (h' := h'.push (PySem.W.kla_obj "<lambda>" (X.env.qual ++ "<lambda>") params body scope (cloFrom X.env.cells scope.names []) ((X.mg "__name__").getD .none) c' ctv)) I hP
      (fun b o hb e => Heap.get?_push_of_some _ (hx b o hb e)) (Heap.get?_push_of_some _ htb) hge ⟨oc, vs, t, Heap.get?_push_of_some _ hoc, hd, hv⟩
    have kp : KeepBut P H (upd (upd H P (.tbl (ps ++ #[rawInt pos.line, rawInt pos.col, .ref c']))) c' (CodeO c' (X.env.qual ++ "<lambda>"))) := fun b o n e => by
      rw [upd_ne (ne_of_none e nC), upd_ne n]; exact e
    refine h h'.objs.size c' _ ctv _ _ I1 kp ⟨_, by rw [upd_ne (ne_of_none hP nC), upd_same], ?_, fun p' cv hcv => ?_⟩ (Heap.get?_push_size _ rfl) ?_ (nofr _ hsz) upd_same
    · rw [show (ps ++ #[rawInt pos.line, rawInt pos.col, Value.ref c']).toList = ps.toList ++ [rawInt pos.line, rawInt pos.col, .ref c'] by simp]
      exact PySem.TriplesOk_snoc _ _ _ _ ht
    · rw [show (ps ++ #[rawInt pos.line, rawInt pos.col, Value.ref c']).toList = ps.toList ++ [rawInt pos.line, rawInt pos.col, .ref c'] by simp] at hcv
      rcases among_app _ ht hcv with z | z
      · obtain ⟨c0, e1, e2⟩ := ha p' cv z
        exact ⟨c0, e1, kp _ _ (fun q => by rw [q, hP] at e2; exact codeO_ne _ (Option.some.inj e2).symm) e2⟩
      · exact ⟨c', z, upd_same⟩
    · rw [upd_ne (Nat.ne_of_gt hlt : h'.objs.size ≠ c'), upd_ne (Nat.ne_of_gt (Nat.lt_of_lt_of_le (Heap.lt_size hP') hsz) : h'.objs.size ≠ P)]
      exact I.hok.fresh hsz
def tLamP (P : Addr) (q : Str) (TT : (XK → Hp → VK → Prop) → Hp → VK → Prop) (t : XK → TE) : TE := fun σ H Q => TabS H P q ∧ ∀ H1, KeepBut P H H1 → TabS H1 P q → TT (fun E H' Q' => t E σ H' Q') H1 Q
theorem pe_lamP {TT : (XK → Hp → VK → Prop) → Hp → VK → Prop} {x a : Str} {g c P : Addr} {k : Nat} {pg : Arguments} {bg : List Stmt} {sg : Scope} {dV kV doc pm cdv ct oc : Value} {an od : Option Addr} {osl : Array (Option Value)} {Ng : List Str}
    {params : Arguments} {body : Expr} {scope : Scope} {t : XK → TE} {p lpos pos : Pos} (hg : Gl X x) (hm : X.mg x = some (.ref g)) (hk : PySem.W.keepIn X.K (.ref g) = true)
    (lk : X.K.lookup g = some ⟨oc, od, .func (PySem.W.fnOf x x pg bg sg dV kV doc pm an cdv ct), osl⟩) (hcg : PySem.W.codeIn X.K cdv x = true) (hb : L2.Binds X.K (PySem.W.fnOf x x pg bg sg dV kV doc pm an cdv ct) [a] []) (Sg : FnScope Ng [a] sg) (hNg : Ng[0]? = some a) (hva : Vis sg a)
    (hG : GivesTo X Ng x sg g cdv bg a (X.env.qual ++ "<lambda>") TT)
    (TB : LamX.TabB X.base X.mg c P) (hcode : X.env.code = .ref c) (hr : Room (k + 2) X.A) (L : LamS X.env.scope scope) (hdef : defaultsOf params X.env = ([], []))
    (hbind : ∀ (q : Str) (cl : List (Str × Addr)) (pm cv ctv : Value), bindArgs (PySem.W.kla_fn "<lambda>" q params body scope cl pm cv ctv) ⟨[], []⟩ = pure [])
    (hbody : ∀ (A : Around) (outer : List PySem.Env) (s : Shared) (H : Hp) (E : XK) (f c' : Addr), Room k (A.deeper (lamEnv X scope s.heap.objs.size f c')) → PE (lamCx X A outer s H E scope f c') body (t E))
    (hdb : (x == ("__debug__" : Str)) = false := by decide) (hd : (a == ("__debug__" : Str)) = false := by decide) (hcd : (a == ("__classdict__" : Str)) = false := by decide) :
    PE X (.Call (.Name x p) [.Lambda params body scope lpos] [] pos) (tLamP P (X.env.qual ++ "<lambda>") TT t) := by
  refine ⟨fun pins s σ H Q I h => wpAny_Call_Name_kw (ld_glob I hg hm ?_ hdb)⟩
  refine PySem.W.callWith_K (h₀ := X.base) I.ok.mod.kin hk ?_ (by rfl) (by rfl)
  show wpAny _ _ (spliced ((false, eval (.Lambda params body scope lpos) X.env) :: backTo pos (starEach [] X.env))) _ _ s
  refine Calls.spliced_cons (lamMk I TB hcode h.1 hdef (L.has I.ok) fun f c' pm' ctv H1 s' I1 kp T1 hf hfn hfr hco => Calls.spliced_nil ⟨I1.kIn, ?_⟩)
  have rc : codeAny (model X.prog X.w) X.A (.call (.ref g) ⟨[.ref f], []⟩) (CR C8.CX0 X.stack X.prog X.w H1 s' Q C8.E0) s' := by
    refine run_ofS (N := Ng) (ps := [a]) (us := [.ref f]) (vs := [.ref f]) lk hcg Sg hr I1.env0 (hb s' [.ref f] I1.kIn rfl) (.cons rfl .nil) rfl fun hr' => ?_
    obtain ⟨t', ht', hq'⟩ := hG f c' s' H1 Q (fun E H' Q' => t E σ H' Q') (fun W pn xe E p1 p2 tk hW => pe_act (i := 0) I1 L hf hfn hfr (hbind _ _ _ _ _) tk hW hr' (fun A outer s H hr2 => hbody A outer s H E f c' hr2) hNg hva hd hcd) hco (h.2 H1 kp T1)
    exact ⟨t', ht'.nox, hq'⟩
  refine wpAny_call (codeAny_mono rc fun r s2 hq => ?_)
  cases r with
  | error e => exact (show False from hq).elim
  | ok fl =>
    cases fl with
    | ret u => exact I1.after hq
    | next => exact False.elim hq
    | brk => exact False.elim hq
    | cont => exact False.elim hq
end
/-! ### what it does -/
def mTold (y ret : Str) (m : MM D) : MM D := fun ρ => match m ρ with
  | some (.ok d ρ') => some (.ok d ρ')
  | some (.er z ρ') => if z = y then some (.ok (.str ret) ρ') else none
  | none => none
section
variable {c : Cc}
theorem nw_but {W H H1 : Hp} {P : Addr} {q : Str} (x : Ex W H) (nt : NoT W) (tb : TBok c.tb H) (hP : (P, q) ∈ c.tb.LT) (hu : ∀ p ∈ c.tb.LT, p.1 = P → p.2 = q) (hG : ∀ P' ∈ c.tb.GT, P' ≠ P) (kp : KeepBut P H H1) (T1 : TabS H1 P q) : Nw c.tb W H W H1 := by
  obtain ⟨ps, hp, ht, _⟩ := tb.1 _ hP
  obtain ⟨ps2, hp2, ht2, hc2⟩ := T1
  have k : ∀ b o, NTbl o → H b = some o → H1 b = some o := fun b o no e => kp b o (fun z => by rw [z, hp] at e; cases e; exact no _ rfl) e
  refine ⟨Ex.refl _, fun a o e => k a o (nt a o e) (x a o e), nt, fun _ _ h => h, fun a o e no => k a o no e, fun a h => ?_, ⟨fun r hr => ?_, fun P' hP' => ?_⟩⟩
  · by_cases ha : a = P
    · rw [ha, hp2]; exact fun z => nomatch z
    · cases e : H a with
      | none => exact absurd e h
      | some o => rw [kp a o ha e]; exact fun z => nomatch z
  · by_cases ha : r.1 = P
    · rw [ha, hu r hr ha]; exact ⟨ps2, hp2, ht2, hc2⟩
    · obtain ⟨ps3, h1, h2, h3⟩ := tb.1 r hr
      refine ⟨ps3, kp _ _ ha h1, h2, fun pos cv hc => ?_⟩
      obtain ⟨c', e1, e2⟩ := h3 pos cv hc
      exact ⟨c', e1, k _ _ (fun _ z => nomatch z) e2⟩
  · obtain ⟨ps3, h1, h2⟩ := tb.2 P' hP'
    exact ⟨ps3, kp _ _ (hG P' hP') h1, h2⟩
theorem se_told {ca : Str → Addr} {P : Addr} {q y rt : Str} {t : XK → TE} {m : MM D} (hP : (P, q) ∈ c.tb.LT) (hu : ∀ p ∈ c.tb.LT, p.1 = P → p.2 = q) (hG : ∀ P' ∈ c.tb.GT, P' ≠ P) (hx : PySem.W.exmOne c.K (.ref (ca y)) (.ref (ca y)) = some true)
    (h : ∀ E, SE (ccOf c.K c.tb ca c.P E) (t E) m) : SE c (tLamP P q (TTold c.K (ca y) rt) t) (mTold y rt m) := by
  intro ρ r e s σ hs Q qq
  refine ⟨hs.tb.1 _ hP, fun H1 kp T1 => ?_⟩
  have n := nw_but hs.ex hs.nt hs.tb hP hu hG kp T1
  have hs1 := hs.nw n
  have t1 : Tr c.P s ⟨s.W, H1, s.A⟩ := .nw n
  unfold mTold at e
  split at e
  · rename_i d ρ' e1
    cases e
    exact h _ ρ _ e1 ⟨s.W, H1, s.A⟩ σ hs1 Q fun v s' a b k => qq v s' a (t1.trans b) k
  · rename_i z ρ' e1
    split at e
    · rename_i ez
      cases e
      subst ez
      exact h _ ρ _ e1 ⟨s.W, H1, s.A⟩ σ hs1 Q fun s' a b => ⟨true, hx, fun _ => qq _ s' a (t1.trans b) (.str _), fun z => nomatch z⟩
    · cases e
  · cases e
end
section
variable {X : Cx}
theorem tk_lam {X : Cx} {A : Around} {outer : List PySem.Env} {s : Shared} {H : Hp} {E : XK} {scope : Scope} {f c' : Addr} {K : PySem.W.Frag} {tb : TBs} {ca : Str → Addr} {Pm : Nat → Bool} : Takes (lamCx X A outer s H E scope f c') (wOf ca (ccOf K tb ca Pm E).xw) := takesB (L2.takes_of rfl rfl rfl rfl)
/-- a def that tells an error by a text, as it is called with a lambda -/
theorem pe_told {ca : Str → Addr} {x a e ret : Str} {st : Stmt} {g c P : Addr} {fd : FuncData} {k j : Nat} {params : Arguments} {body : Expr} {scope : Scope} {t : XK → TE} {p lpos pos p1 p2 p3 p4 p5 p6 p7 p8 : Pos}
    (F : Fun X.K x x st g fd) (gF : X.mg x = some (.ref g)) (bF : L2.Binds X.K fd [a] []) (Sg : FnScope [a] [a] (defScope st))
    (hb : defBody st = [.Try [.Return (some (.Call (.Name a p1) [] [] p2)) p3] [.ExceptHandler (some (.Name e p4)) none [.Return (some (.Constant (.str ret) j p5)) p6] p7] [] [] p8]) (hge : (defScope st).names.lookup e = some .globalImplicit) (XC : ExcC X.K X.mg ca e) (hg : Gl X x)
    (TB : LamX.TabB X.base X.mg c P) (hcode : X.env.code = .ref c) (hr : Room (k + 2) X.A) (L : LamS X.env.scope scope) (hdef : defaultsOf params X.env = ([], []))
    (hbind : ∀ (q : Str) (cl : List (Str × Addr)) (pm cv ctv : Value), bindArgs (PySem.W.kla_fn "<lambda>" q params body scope cl pm cv ctv) ⟨[], []⟩ = pure [])
    (hbody : ∀ (A : Around) (outer : List PySem.Env) (s : Shared) (H : Hp) (E : XK) (f c' : Addr), Room k (A.deeper (lamEnv X scope s.heap.objs.size f c')) → PE (lamCx X A outer s H E scope f c') body (t E))
    (hva : Vis (defScope st) a) (hdb : (x == ("__debug__" : Str)) = false) (hd : (a == ("__debug__" : Str)) = false) (hcd : (a == ("__classdict__" : Str)) = false) (hde : (e == ("__debug__" : Str)) = false) :
    PE X (.Call (.Name x p) [.Lambda params body scope lpos] [] pos) (tLamP P (X.env.qual ++ "<lambda>") (TTold X.K (ca e) ret) t) := by
  obtain ⟨oc, od, kV, doc, pm, an, cdv, ct, osl, rfl, lk, hcd2⟩ := F.ex
  rw [hb] at lk bF
  exact pe_lamP (Ng := [a]) hg gF F.kp lk hcd2 bF Sg rfl hva (told_gives hge XC.g hde fun _ => rfl) TB hcode hr L hdef hbind hbody hdb hd hcd
end
/-! ### is None -/
section
variable {c : Cc}
def dIsN : D → Option D
  | .non => some (.bl true)
  | .bl _ | .int _ | .str _ | .tup _ | .lst _ => some (.bl false)
  | _ => none
theorem rep_non {K : PySem.W.Frag} {W : Hp} {v : V} {d : D} (r : Rep K W v d) (h : (∃ b, d = .bl b) ∨ (∃ i, d = .int i) ∨ (∃ z, d = .str z) ∨ (∃ xs, d = .tup xs) ∨ (∃ xs, d = .lst xs)) : decide (v = V.non) = false := by
  apply decide_eq_false
  rintro rfl
  cases r
  rcases h with ⟨_, z⟩ | ⟨_, z⟩ | ⟨_, z⟩ | ⟨_, z⟩ | ⟨_, z⟩ <;> cases z
theorem run_isN : RUn c (fun x H Q => Q (.bl (decide (x = .non))) H) dIsN := by
  intro W H x a d w rx e Q q
  cases a with
  | non => cases rx; cases e; exact q _ W H w.nref (.bl _)
  | bl b => cases e; rw [rep_non rx (.inl ⟨_, rfl⟩)]; exact q _ W H w.nref (.bl _)
  | int b => cases e; rw [rep_non rx (.inr (.inl ⟨_, rfl⟩))]; exact q _ W H w.nref (.bl _)
  | str b => cases e; rw [rep_non rx (.inr (.inr (.inl ⟨_, rfl⟩)))]; exact q _ W H w.nref (.bl _)
  | tup b => cases e; rw [rep_non rx (.inr (.inr (.inr (.inl ⟨_, rfl⟩))))]; exact q _ W H w.nref (.bl _)
  | lst b => cases e; rw [rep_non rx (.inr (.inr (.inr (.inr ⟨_, rfl⟩))))]; exact q _ W H w.nref (.bl _)
  | dct b => cases e
  | frz b => cases e
theorem se_isN {t : TE} {m : MM D} (h : SE c t m) : SE c (tIsN t) (mUn dIsN m) := se_un run_isN h
theorem st_isN {t : TE} {m : MM D} (h : SE c t m) : ST c (tB (tIsN t)) (mTest (mUn dIsN m)) := st_test (se_isN h)
end
/-- the name of the code objects of a def's lambdas -/
def lamQ (x : Str) : Str := (envOfC x default 0 0 .none).qual ++ "<lambda>"
theorem genS_by {env : PySem.Env} {scope : Scope} {x : Str} (h : (decide (scope.kind = .function) && !scope.isCoroutine && scope.names.all (fun y => !decide (y.2 = .cell) && !decide (y.2 = .free)) && decide (scope.names.lookup (".0" : Str) = some NameKind.local)) = true) (hl : scope.names.lookup x = some .local) : GxR.GenS env scope x := by
  simp only [Bool.and_eq_true, Bool.not_eq_true', decide_eq_true_eq, decide_eq_false_iff_not, List.all_eq_true] at h
  exact ⟨h.1.1.1, h.1.1.2, fun y hy => (h.1.2 y hy).1, h.2, hl, fun y hy z => absurd z (h.1.2 y hy).2⟩
end PD
end
section
set_option maxHeartbeats 0
/-! PDD: a law: for dice in rounds: body; return what is asked. One round; in it, the dice are the slot's own. -/
namespace PD
open PySem PySem.Spec PyProof.Rows L2
section
variable {c : Cc}
def intsD' (ns : List Int) : List D := ns.map .int
theorem reps_ints {K : PySem.W.Frag} {W : Hp} (ns : List Int) : Reps K W (ns.map V.int) (intsD' ns) := by
  induction ns with
  | nil => exact .nil
  | cons n ns ih => exact .cons (.int n) ih
theorem ints_of_reps {K : PySem.W.Frag} {W : Hp} : ∀ {ns : List Int} {vs : List V}, Reps K W vs (intsD' ns) → vs = ns.map V.int
  | [], _, .nil => rfl
  | n :: ns, _, .cons r t => by cases r; rw [ints_of_reps t]; rfl
def nons (n : Nat) : Env := List.replicate n .non
def ownEnv (n i : Nat) (o : Own) : Env := (nons n).set i (.own o)
theorem nons_get {n i : Nat} {l : Loc} (h : (nons n)[i]? = some l) : l = .non := by
  unfold nons at h
  rw [List.getElem?_replicate] at h
  split at h
  · exact (Option.some.inj h).symm
  · cases h
/-- the dice alone are known -/
theorem sr_dice {n i : Nat} {q : Addr} {ns : List Int} {H : Hp} {σ : L2.St} (hn : σ.length = n) (hi : i < n) (hq : H q = some (.lst (ns.map V.int))) (t : TBok c.tb H) :
    SR c.K c.tb (ownEnv n i (.lst (intsD' ns))) ⟨fun _ => none, H, fun j => if j = i then some q else none⟩ (σ.set i (some (.ref q))) := by
  have len : (nons n).length = n := List.length_replicate
  refine ⟨by unfold ownEnv; rw [List.length_set, List.length_set, len, hn], fun j l e => ?_, fun j hj => ?_, fun j k p a b => ?_, (fun _ _ z => nomatch z), (fun _ _ z => nomatch z), t⟩
  · by_cases hj : j = i
    · subst hj
      unfold ownEnv at e
      rw [List.getElem?_set_self (by rw [len]; exact hi)] at e
      cases e
      exact ⟨q, if_pos rfl, by rw [List.getElem?_set_self (by rw [hn]; exact hi)]; rfl, rfl, _, hq, reps_ints ns⟩
    · unfold ownEnv at e
      rw [List.getElem?_set_ne (Ne.symm hj)] at e
      cases nons_get e
      exact if_neg hj
  · unfold ownEnv at hj
    rw [List.length_set, len] at hj
    exact if_neg (by omega)
  · by_cases hj : j = i
    · by_cases hk : k = i
      · rw [hj, hk]
      · cases (if_neg hk).symm.trans b
    · cases (if_neg hj).symm.trans a
theorem law_run {tcall : TE} {mcall : MM D} {tb tr : TS} {mb mr : MS} {i n : Nat} {ns : List Int} {ρ ρ1 ρ2 ρ3 : Env} {s : Ws} {σ : L2.St} {D : Ends} (hc : SE c tcall mcall) (hb : SS c tb mb) (hr : SS c tr mr) (hs : SR c.K c.tb ρ s σ) (hn : σ.length = n) (hi : i < n)
    (e1 : mcall ρ = some (.ok (.lst [.lst (intsD' ns)]) ρ1)) (e2 : mb (ownEnv n i (.lst (intsD' ns))) = some (.nx ρ2)) (e3 : mr ρ2 = some (.rt (.bl true) ρ3)) (hD : ∀ H, D.rt (.bl true) H) :
    tSeq (tFor (iSeq c.K tcall) (gName i) tb) tr D σ s.H := by
  refine hc ρ _ e1 s σ hs _ fun v s1 hs1 t1 rv => ?_
  cases rv with
  | @lst p vs _ hp rr =>
    cases rr with
    | @cons v2 vr _ _ r1 r2 =>
      cases r2
      cases r1 with
      | @lst q us _ hq ru =>
        have hus := ints_of_reps ru
        subst hus
        have hpH := hs1.ex _ _ hp
        have hqH := hs1.ex _ _ hq
        have npq : p ≠ q := fun z => by
          rw [z, hqH] at hpH
          cases ns with
          | nil => cases hpH
          | cons n ns => cases hpH
        have sl : SqL c.K s1.H p [.ref q] := .inl (.inl hpH)
        refine ⟨p, rfl, .inl ⟨⟨_, sl⟩, for_list (K := c.K) (a := p) (xs := [.ref q]) (fun k σ' H' => (k = 0 ∧ σ' = σ ∧ H' = s1.H) ∨ (k = 1 ∧ H' p = some (.lst [.ref q]) ∧ ∃ s', SR c.K c.tb ρ2 s' σ' ∧ s'.H = H')) (.inl ⟨rfl, rfl, rfl⟩) (fun k σ' H' _ h => ?_) (fun k x σ' H' hx h => ?_) fun σ' H' h => ?_⟩⟩
        · rcases h with ⟨_, _, rfl⟩ | ⟨_, h, _⟩
          · exact sl
          · exact .inl (.inl h)
        · rcases h with ⟨rfl, rfl, rfl⟩ | ⟨rfl, _, _⟩
          · cases hx
            exact hb _ _ e2 ⟨fun _ => none, s1.H, fun j => if j = i then some q else none⟩ _ (sr_dice hn hi hqH hs1.tb) _ fun s' σ' a b => .inr ⟨rfl, b.f p _ (fun ⟨j, hj⟩ => by
              by_cases z : j = i
              · exact npq (Option.some.inj ((if_pos z).symm.trans hj)).symm
              · cases (if_neg z).symm.trans hj) hpH (fun _ z => nomatch z), s', a, rfl⟩
          · cases hx
        · rcases h with ⟨z, _⟩ | ⟨_, _, s', hs', rfl⟩
          · cases z
          · exact hr ρ2 _ e3 s' σ' hs' _ fun v s2 σ2 _ _ r => by cases r; exact hD _
/-- the env at the law's start -/
def env0 (n : Nat) (ns : List Int) : Env := .dat (.frz (intsD' ns)) :: nons (n - 1)
def spLawP (K : PySem.W.Frag) (tb : TBs) (good : List Int → Prop) : Sp := fun vs H Q _ => ∃ (a : Addr) (ns : List Int), vs = [.ref a] ∧ SqL K H a (ns.map V.int) ∧ TBok tb H ∧ good ns ∧ ∀ H', Q (.bl true) H'
theorem sr_start {K : PySem.W.Frag} {tb : TBs} {n : Nat} {a : Addr} {ns : List Int} {H : Hp} (hn : 1 ≤ n) (h : SqL K H a (ns.map V.int)) (t : TBok tb H) : ∃ W : Hp, SR K tb (env0 n ns) ⟨W, H, fun _ => none⟩ (some (.ref a) :: List.replicate (n - 1) none) := by
  have key : ∀ W : Hp, Ex W H → NoT W → SqL K W a (ns.map V.int) → SR K tb (env0 n ns) ⟨W, H, fun _ => none⟩ (some (.ref a) :: List.replicate (n - 1) none) := fun W e nt hS => by
    refine ⟨by unfold env0 nons; simp, fun j l ej => ?_, fun _ _ => rfl, (fun _ _ _ z => nomatch z), e, nt, t⟩
    cases j with
    | zero => cases ej; exact ⟨rfl, _, rfl, .frz hS (reps_ints ns)⟩
    | succ j =>
      have ej : (nons (n - 1))[j]? = some l := ej
      cases nons_get ej
      exact rfl
  rcases h with h | h
  · have one : ∀ o, H a = some o → NTbl o → ∃ W : Hp, Ex W H ∧ NoT W ∧ W a = some o := fun o e no => by
      refine ⟨fun b => if b = a then some o else none, fun b u z => ?_, fun b u z => ?_, if_pos rfl⟩
      · by_cases hb : b = a
        · rw [hb, e]; exact (if_pos hb).symm.trans z
        · cases (if_neg hb).symm.trans z
      · by_cases hb : b = a
        · cases (if_pos hb).symm.trans z; exact no
        · cases (if_neg hb).symm.trans z
    rcases h with h | ⟨o, h⟩
    · obtain ⟨W, w1, w2, w3⟩ := one _ h (fun _ z => nomatch z)
      exact ⟨W, key W w1 w2 (.inl (.inl w3))⟩
    · obtain ⟨W, w1, w2, w3⟩ := one _ h (fun _ z => nomatch z)
      exact ⟨W, key W w1 w2 (.inl (.inr ⟨_, w3⟩))⟩
  · exact ⟨fun _ => none, key _ (fun _ _ z => nomatch z) (fun _ _ z => nomatch z) (.inr h)⟩
/-- what is to be shown of a script: the program's own answer is True -/
def GoodL (n i : Nat) (mcall : MM D) (mb mr : MS) (ns : List Int) : Prop := ∃ (dice : List Int) (ρ1 ρ2 ρ3 : Env), mcall (env0 n ns) = some (.ok (.lst [.lst (intsD' dice)]) ρ1) ∧ mb (ownEnv n i (.lst (intsD' dice))) = some (.nx ρ2) ∧ mr ρ2 = some (.rt (.bl true) ρ3)
end
section
variable {P : Program} {w : World} {K : PySem.W.Frag} {mg : Str → Option Value} {base : Heap} {tb : TBs} {ca : Str → Addr}
theorem fn_law {x qual px : Str} {st : Stmt} {f : Addr} {fd : FuncData} {N : List Str} {k i : Nat} {mcall : MM D} {mb mr : MS} (F : Fun K x qual st f fd) (S : FnScope N [px] (defScope st)) (hN : 1 ≤ N.length) (hi : i < N.length)
    (body : ∀ (cdv : Value) (A : Around) (outer : List PySem.Env) (s : Shared) (H : Hp) (E : XK), fd.code = cdv → Room k (A.deeper (envOfC qual (defScope st) s.heap.objs.size f cdv)) →
      ∃ tcall tbd tr, PSs (cxOf (L2.CX P w) P w K mg base N qual (defScope st) f cdv A outer s H E) (defBody st) (tSeq (tFor (iSeq K tcall) (gName i) tbd) tr) ∧ SE (ccOf K tb ca noPin E) tcall mcall ∧ SS (ccOf K tb ca noPin E) tbd mb ∧ SS (ccOf K tb ca noPin E) tr mr) :
    FnOk P w K mg base (L2.CX P w) (k + 1) f fd [px] (spLawP K tb (GoodL N.length i mcall mb mr)) := by
  refine okXC F S (fun vs H Q E h => ?_) (fun cdv A outer s H vs Q E hcdv hr h => ?_)
  · obtain ⟨a, ns, rfl, _⟩ := h; rfl
  · obtain ⟨a, ns, rfl, hS, ht, ⟨dice, ρ1, ρ2, ρ3, e1, e2, e3⟩, hQ⟩ := h
    obtain ⟨tcall, tbd, tr, p1, p2, p3, p4⟩ := body cdv A outer s H E hcdv hr
    refine ⟨_, p1, ?_⟩
    obtain ⟨W, hs⟩ := sr_start (n := N.length) hN hS ht
    exact law_run (c := ccOf K tb ca noPin E) p2 p3 p4 hs (by simp; omega) hi e1 e2 e3 fun H' => hQ H'
end
end PD
end
section
set_option maxHeartbeats 0
/-! PDZ: zip of two lists or of two tuples, in loops and comprehensions. -/
namespace PD
open PySem PySem.Spec PyProof.Rows L2 RZ
def zipDA : List D → Option (List D)
  | [.lst xs, .lst ys] => some (List.zipWith (fun a b => .tup [a, b]) xs ys)
  | [.tup xs, .tup ys] => some (List.zipWith (fun a b => .tup [a, b]) xs ys)
  | _ => none
theorem for_zipMT {K : PySem.W.Frag} {a b : Addr} {xs ys : List V} {g : TG} {tb : TS} {D : Ends} {σ : L2.St} {H : Hp} (Pv : Nat → L2.St → Hp → Prop) (h0 : Pv 0 σ H) (hq : ∀ i σ H, Pv i σ H → SqT K H a xs ∧ SqT K H b ys)
    (hs : ∀ (i : Nat) (x y : V) (T : Addr) (σ : L2.St) (H : Hp), xs[i]? = some x → ys[i]? = some y → Pv i σ H → H T = none → g (.ref T) σ (upd H T (.tup [x, y])) fun σ2 H2 => tb { D with nx := Pv (i + 1), ct := Pv (i + 1), bk := D.nx } σ2 H2)
    (hd : ∀ σ H, Pv (min xs.length ys.length) σ H → D.nx σ H) :
    ∃ W : Nat → Nat → L2.St → Hp → Prop, (∃ m, W 0 m σ H) ∧ ∀ i m σ H, W i m σ H →
      ((ItzT K a b).stop i H ∧ D.nx σ H) ∨ ((ItzT K a b).go i H ∧ ∃ N : L2.St → Hp → Prop, (∀ σ' H', N σ' H' → ∃ m', m' < m ∧ W (i + 1) m' σ' H') ∧ ∀ x H', (ItzT K a b).yld i H x H' → g x σ H' fun σ2 H2 => tb { D with nx := N, ct := N, bk := D.nx } σ2 H2) := by
  refine ⟨fun i m σ H => m = min xs.length ys.length - i ∧ i ≤ min xs.length ys.length ∧ Pv i σ H, ⟨_, rfl, Nat.zero_le _, h0⟩, ?_⟩
  rintro i m σ H ⟨rfl, hi, p⟩
  obtain ⟨q1, q2⟩ := hq i σ H p
  by_cases hlt : i < min xs.length ys.length
  · have h1 : i < xs.length := by omega
    have h2 : i < ys.length := by omega
    refine .inr ⟨⟨xs, ys, xs[i], ys[i], q1, q2, by simp [h1], by simp [h2]⟩, Pv (i + 1), fun σ' H' p' => ⟨_, by omega, rfl, hlt, p'⟩, fun x H' y => ?_⟩
    obtain ⟨T, x1, y1, rfl, hT, rfl, e1, e2⟩ := y
    exact hs i x1 y1 T σ H (e1 xs q1) (e2 ys q2) p hT
  · have e : i = min xs.length ys.length := by omega
    subst e
    exact .inl ⟨⟨xs, ys, q1, q2, by omega⟩, hd σ H p⟩
section
variable {c : Cc}
theorem ss_forZipA {ta : TA} {g : TG} {tb : TS} {m : MM (List D)} {mg : D → Env → Option Env} {mb : MS} (h : SA c ta m) (hg : SG c g mg) (hb : SS c tb mb) : SS c (tFor (iZipA c.K ta) g tb) (mForE zipDA m mg mb) := by
  intro ρ o e s σ hs E q
  refine ss_go (t := ta) h e hs q fun vs ds ρ s e hs rx q tr => ?_
  cases e1 : zipDA ds with
  | none => simp only [e1] at e; cases e
  | some l =>
    simp only [e1] at e
    have turn : ∀ {xs ys : List D} {us ws : List V}, Reps c.K s.W us xs → Reps c.K s.W ws ys → l = List.zipWith (fun a b => .tup [a, b]) xs ys → ∀ (i : Nat) (x y : V) (T : Addr) (σ : L2.St) (H : Hp), us[i]? = some x → ws[i]? = some y → LoopAt c mg mb l s o i σ H → H T = none → g (.ref T) σ (upd H T (.tup [x, y])) fun σ2 H2 => tb { E with nx := LoopAt c mg mb l s o (i + 1), ct := LoopAt c mg mb l s o (i + 1), bk := E.nx } σ2 H2 := by
      intro xs ys us ws rr1 rr2 el i x y T σ H ex ey hp hT
      subst el
      obtain ⟨d1, hd1, rd1⟩ := rr1.get ex
      obtain ⟨d2, hd2, rd2⟩ := rr2.get ey
      obtain ⟨ρ', s', hs', rfl, tr', e'⟩ := hp
      have n := Nw.new (o := .tup [x, y]) hs'.ex hs'.nt hs'.tb hT (fun _ z => nomatch z)
      exact loop_turn2 (d := .tup [d1, d2]) hg hb q (by rw [List.getElem?_zipWith, hd1, hd2]) ⟨ρ', _, hs'.nw n, rfl, tr'.trans (.nw n), e', .tup (.inl (.inl upd_same)) (.cons ((rd1.mono tr'.w).mono n.w) (.cons ((rd2.mono tr'.w).mono n.w) .nil))⟩
    unfold zipDA at e1
    split at e1
    · rename_i xs ys
      cases e1
      obtain ⟨v1, v2, rfl, r1, r2⟩ := reps2 rx
      cases r1 with
      | @lst a us _ hx rr1 =>
        cases r2 with
        | @lst b ws _ hy rr2 =>
          have hx' : SqL c.K s.W a us := .inl (.inl hx)
          have hy' : SqL c.K s.W b ws := .inl (.inl hy)
          refine ⟨a, b, us, ws, rfl, .inl ⟨hs.ex.sl hx', hs.ex.sl hy', for_zipM (K := c.K) (a := a) (b := b) (xs := us) (ys := ws) (LoopAt c mg mb _ s o) ⟨ρ, s, hs, rfl, .refl, e⟩ (fun i σ H ⟨ρ', s', hs', eH, tr', _⟩ => eH ▸ ⟨hs'.ex.sl (tr'.w.sl hx'), hs'.ex.sl (tr'.w.sl hy')⟩) (turn rr1 rr2 rfl) fun σ H hp => ?_⟩⟩
          rw [rr1.length, rr2.length] at hp
          exact loop_end q (by rw [List.length_zipWith]; exact hp)
    · rename_i xs ys
      cases e1
      obtain ⟨v1, v2, rfl, r1, r2⟩ := reps2 rx
      cases r1 with
      | @tup a us _ hx rr1 =>
        cases r2 with
        | @tup b ws _ hy rr2 =>
          refine ⟨a, b, us, ws, rfl, .inr ⟨hs.ex.st hx, hs.ex.st hy, for_zipMT (K := c.K) (a := a) (b := b) (xs := us) (ys := ws) (LoopAt c mg mb _ s o) ⟨ρ, s, hs, rfl, .refl, e⟩ (fun i σ H ⟨ρ', s', hs', eH, tr', _⟩ => eH ▸ ⟨hs'.ex.st (tr'.w.st hx), hs'.ex.st (tr'.w.st hy)⟩) (turn rr1 rr2 rfl) fun σ H hp => ?_⟩⟩
          rw [rr1.length, rr2.length] at hp
          exact loop_end q (by rw [List.length_zipWith]; exact hp)
    · cases e1
end
/-! ### comprehensions -/
section
variable {c : Cc}
variable {g : TG} {tt : TT} {te : TE} {ta : TA} {mg : D → Env → Option Env} {mt : MM Bool} {me : MM D} {ma : MM (List D)} {vs : List Nat}
/-- the reading of a comprehension by an iterator J that tells pairs -/
theorem lc_pairs {J : It} {n : Nat} {xs ys : List V} {Ok : Hp → Prop} {σ : L2.St} {H1 : Hp} {D : Addr} {Qd : Hp → Prop} (hgo : ∀ i H, i < n → Ok H → J.go i H) (hst : ∀ H, Ok H → J.stop n H) (hy : ∀ i H v H', i < n → Ok H → J.yld i H v H' → ∃ T x y, v = .ref T ∧ H T = none ∧ H' = upd H T (.tup [x, y]) ∧ xs[i]? = some x ∧ ys[i]? = some y)
    (Pv : Nat → Hp → Prop) (h0 : Pv 0 (upd H1 D (.lst []))) (hq : ∀ i H, Pv i H → Ok H)
    (hs : ∀ (i : Nat) (x y : V) (T : Addr) (H : Hp), xs[i]? = some x → ys[i]? = some y → Pv i H → H T = none → g (.ref T) (wipe σ vs) (upd H T (.tup [x, y])) fun σ2 H2 => wipe σ2 vs = wipe σ vs ∧ tt σ2 H2 fun b H3 => if b = true then te σ2 H3 fun y H4 => ∃ acc, H4 D = some (.lst acc) ∧ acc.length < sizeLine ∧ Pv (i + 1) (upd H4 D (.lst (acc ++ [y]))) else Pv (i + 1) H3)
    (hd : ∀ H, Pv n H → Qd H) :
    ∃ W : Nat → Nat → Hp → Prop, (∃ m, W 0 m (upd H1 D (.lst []))) ∧ ∀ i m H, W i m H →
      (J.stop i H ∧ Qd H) ∨ (J.go i H ∧ ∃ Nx : Hp → Prop, (∀ H', Nx H' → ∃ m', m' < m ∧ W (i + 1) m' H') ∧ ∀ x H', J.yld i H x H' → g x (wipe σ vs) H' fun σ2 H2 => wipe σ2 vs = wipe σ vs ∧ tt σ2 H2 fun b H3 =>
        if b = true then te σ2 H3 fun y H4 => ∃ acc, H4 D = some (.lst acc) ∧ acc.length < sizeLine ∧ Nx (upd H4 D (.lst (acc ++ [y]))) else Nx H3) := by
  refine ⟨fun i m H => m = n - i ∧ i ≤ n ∧ Pv i H, ⟨_, rfl, Nat.zero_le _, h0⟩, ?_⟩
  rintro i m H ⟨rfl, hi, p⟩
  by_cases hlt : i < n
  · refine .inr ⟨hgo i H hlt (hq i H p), Pv (i + 1), fun H' p' => ⟨_, by omega, rfl, hlt, p'⟩, fun x H' y => ?_⟩
    obtain ⟨T, x1, y1, rfl, hT, rfl, e1, e2⟩ := hy i H x H' hlt (hq i H p) y
    exact hs i x1 y1 T H e1 e2 p hT
  · have e : i = n := by omega
    subst e
    exact .inl ⟨hst H (hq i H p), hd H p⟩
theorem se_lcZ (hB : BlkS c vs) (h : SA c ta ma) (hg : SG c.quiet g mg) (hw : GW vs g) (ht : ST c.quiet tt mt) (he : SE c.quiet te me) : SE c (tLc (iZipA c.K ta) g tt te vs) (asL (mLc ma zipDA vs mg mt me)) := by
  intro ρ rr e s σ hs Q q
  refine sx_go (t := ta) h (asL_bnd e) hs q fun x d ρ s e hs rx q tr => ?_
  rcases asL_ok e with ⟨zs, ρ', e1, rfl⟩ | ⟨y, ρ', e1, _⟩
  · obtain ⟨ds, zs, ρ'', e2, hb, e3, e4⟩ := mLc_cases e1
    cases e4
    have turn : ∀ {xs ys : List D} {us ws : List V} {L : Addr}, s.H L = none → Reps c.K s.W us xs → Reps c.K s.W ws ys → ds = List.zipWith (fun a b => .tup [a, b]) xs ys → ∀ (i : Nat) (x y : V) (T : Addr) (H : Hp), us[i]? = some x → ws[i]? = some y → CompAt c mg mt me vs ds s σ (zs, ρ'') L i H → H T = none →
        g (.ref T) (wipe σ vs) (upd H T (.tup [x, y])) fun σ2 H2 => wipe σ2 vs = wipe σ vs ∧ tt σ2 H2 fun b H3 => if b = true then te σ2 H3 fun y H4 => ∃ acc, H4 L = some (.lst acc) ∧ acc.length < sizeLine ∧ CompAt c mg mt me vs ds s σ (zs, ρ'') L (i + 1) (upd H4 L (.lst (acc ++ [y]))) else CompAt c mg mt me vs ds s σ (zs, ρ'') L (i + 1) H3 := by
      intro xs ys us ws L hL rr1 rr2 el i x y T H ex ey hp hT
      subst el
      obtain ⟨d1, hd1, rd1⟩ := rr1.get ex
      obtain ⟨d2, hd2, rd2⟩ := rr2.get ey
      obtain ⟨ρ1, s1, acc, dacc, k1, rfl, k3, k4, k5, k6, k7, k8⟩ := hp
      have n := Nw.new (o := .tup [x, y]) k1.ex k1.nt k1.tb hT (fun _ z => nomatch z)
      have nTL : L ≠ T := fun z => by rw [z, hT] at k4; cases k4
      refine comp_turnR (c' := c.quiet) ⟨rfl, rfl, rfl⟩ hg hw ht he hB.P hL (d := .tup [d1, d2]) (by rw [List.getElem?_zipWith, hd1, hd2]) ⟨ρ1, _, acc, dacc, k1.nw n, rfl, k3.trans (.nw n), (upd_ne nTL).trans k4, k5.mono n.w, (upd_ne nTL).trans k6, k7, k8, .tup (.inl (.inl upd_same)) (.cons ((rd1.mono k3.w).mono n.w) (.cons ((rd2.mono k3.w).mono n.w) .nil))⟩
    have fin : ∀ {xs ys : List D} {us ws : List V} {L : Addr} {H : Hp}, Reps c.K s.W us xs → Reps c.K s.W ws ys → ds = List.zipWith (fun a b => .tup [a, b]) xs ys → CompAt c mg mt me vs ds s σ (zs, ρ'') L (min us.length ws.length) H → CompAt c mg mt me vs ds s σ (zs, ρ'') L ds.length H := by
      intro xs ys us ws L H rr1 rr2 el hp
      subst el
      rw [List.length_zipWith, ← rr1.length, ← rr2.length]
      exact hp
    unfold zipDA at e2
    split at e2
    · rename_i xs ys
      cases e2
      obtain ⟨v1, v2, rfl, r1, r2⟩ := reps2 rx
      cases r1 with
      | @lst a us _ hx rr1 =>
        cases r2 with
        | @lst b ws _ hy rr2 =>
          have hx' : SqL c.K s.W a us := .inl (.inl hx)
          have hy' : SqL c.K s.W b ws := .inl (.inl hy)
          refine ⟨a, b, us, ws, rfl, .inl ⟨hs.ex.sl hx', hs.ex.sl hy', fun L hL => lc_pairs (xs := us) (ys := ws) (n := min us.length ws.length) (Ok := fun H => SqL c.K H a us ∧ SqL c.K H b ws) (fun i H hi o => ⟨us, ws, _, _, o.1, o.2, List.getElem?_eq_getElem (by omega), List.getElem?_eq_getElem (by omega)⟩) (fun H o => ⟨us, ws, o.1, o.2, by omega⟩) (fun i H v H' hi o y => ?_)
            (CompAt c mg mt me vs _ s σ (zs, ρ'') L) (comp_start hs hB.P hL e3) (fun i H ⟨ρ2, s2, acc, dacc, k1, k2, k3, _⟩ => k2 ▸ ⟨k1.ex.sl (k3.w.sl hx'), k1.ex.sl (k3.w.sl hy')⟩) (turn hL rr1 rr2 rfl) fun H hp => comp_post hs hB.nd (inB_of hb) hB.P hL (fin rr1 rr2 rfl hp) q⟩⟩
          obtain ⟨T, x1, y1, rfl, hT, rfl, e1, e2⟩ := y
          exact ⟨T, x1, y1, rfl, hT, rfl, e1 us o.1, e2 ws o.2⟩
    · rename_i xs ys
      cases e2
      obtain ⟨v1, v2, rfl, r1, r2⟩ := reps2 rx
      cases r1 with
      | @tup a us _ hx rr1 =>
        cases r2 with
        | @tup b ws _ hy rr2 =>
          refine ⟨a, b, us, ws, rfl, .inr ⟨hs.ex.st hx, hs.ex.st hy, fun L hL => lc_pairs (xs := us) (ys := ws) (n := min us.length ws.length) (Ok := fun H => SqT c.K H a us ∧ SqT c.K H b ws) (fun i H hi o => ⟨us, ws, _, _, o.1, o.2, List.getElem?_eq_getElem (by omega), List.getElem?_eq_getElem (by omega)⟩) (fun H o => ⟨us, ws, o.1, o.2, by omega⟩) (fun i H v H' hi o y => ?_)
            (CompAt c mg mt me vs _ s σ (zs, ρ'') L) (comp_start hs hB.P hL e3) (fun i H ⟨ρ2, s2, acc, dacc, k1, k2, k3, _⟩ => k2 ▸ ⟨k1.ex.st (k3.w.st hx), k1.ex.st (k3.w.st hy)⟩) (turn hL rr1 rr2 rfl) fun H hp => comp_post hs hB.nd (inB_of hb) hB.P hL (fin rr1 rr2 rfl hp) q⟩⟩
          obtain ⟨T, x1, y1, rfl, hT, rfl, e1, e2⟩ := y
          exact ⟨T, x1, y1, rfl, hT, rfl, e1 us o.1, e2 ws o.2⟩
    · cases e2
  · obtain ⟨ds, ys, ρ'', e2, hb, e3, e4⟩ := mLc_cases e1
    cases e4
end
end PD
end
section
set_option maxHeartbeats 0
/-! PDH: from a head's facts to what the defs ask. -/
namespace PD
open PySem PySem.Spec PyProof.Rows L2
section
variable {K : PySem.W.Frag} {mg : Str → Option Value} {w : World} {h base : Heap}
theorem fun_of_D {x : Str} {st : Stmt} {f : Addr} {fd : FuncData} (F : FunD K x x (defArgs st) (defBody st) (defScope st) [] [] f fd) : Fun K x x st f fd := by
  obtain ⟨oc, od, dV, kV, doc, pm, an, cdv, ct, osl, rfl, lk, hcd, hD, hK⟩ := F.ex
  rcases hD with ⟨_, rfl⟩ | ⟨e, _⟩
  · exact ⟨⟨oc, od, kV, doc, pm, an, cdv, ct, osl, rfl, lk, hcd⟩, F.kp⟩
  · exact absurd rfl e
theorem code_of {x q : Str} {st : Stmt} {p : Str × Option Str} {fd : FuncData} (F : Fun K x q st (He.fAd K p) fd) : fd.code = .ref (He.cT K p).1 := by
  obtain ⟨oc, od, kV, doc, pm, an, cdv, ct, osl, rfl, lk, hcd⟩ := F.ex
  obtain ⟨c, rfl⟩ := He.codeIn_ref hcd
  show Value.ref c = Value.ref (He.codeOf K p)
  rw [He.codeOf_eq lk rfl]
theorem tabG_of {c P : Addr} (t : LamX.TabB base mg c P) : GxR.TabB base mg c P := ⟨t.code, t.bm, t.gP⟩
theorem says_dic {fa : List He.Fa} {fn : List He.DefD} {ts : List He.Tab} (c : He.SaysT fa fn ts w K) (i : Nat) {t : He.Tab} (h : ts[i]? = some t := by rfl) : He.dicW K (t.1 K) = some (He.keysIn w.params t.2) := by
  have e : ts.map (fun t => He.dicW K (t.1 K)) = ts.map fun t => some (He.keysIn w.params t.2) := congrArg (fun z : He.AlT => z.2) c
  have e2 : (ts.map fun t => He.dicW K (t.1 K))[i]? = (ts.map fun t => some (He.keysIn w.params t.2))[i]? := by rw [e]
  rw [List.getElem?_map, List.getElem?_map, h] at e2
  exact Option.some.inj e2
theorem wdic_of {x : Str} {kvs : List (Str × Str)} (g : mg x = some (.ref (He.ga K x))) (d : He.dicW K (He.ga K x) = some (He.keysIn w.params (kvs.map (·.1)))) (v : He.valsB K (He.ga K x) (kvs.map fun q => (q.1, He.Dv.str q.2)) = true) : WDic K w mg x (He.ga K x) kvs :=
  ⟨g, He.dicW_ok d, fun q hq => He.valsB_ok v (q := (q.1, He.Dv.str q.2)) (List.mem_map.mpr ⟨q, hq, rfl⟩), dic_out d⟩
theorem excc_of {x : Str} (g : mg x = some (.ref (He.ga K x))) (c : (He.Fa.exc x).ok K = true) (m : (He.Fa.exm x x true).ok K = true) : ExcC K mg (He.ga K) x := by
  obtain ⟨c1, c2, c3, c4⟩ := He.exc_ok c
  exact ⟨g, c1, c2, He.exm_ok m, c3, c4⟩
end
end PD
end
section
set_option maxHeartbeats 0
/-! PDM: how mirrors are computed. -/
namespace PD
open PySem L2
theorem eqD_int (i j : Int) : eqD (.int i) (.int j) = some (decide (i = j)) := by
  unfold eqD
  rw [if_pos ⟨rfl, rfl, by simp [toP, PyData.depth]⟩]
  show some (i == j) = _
  congr 1
theorem eqD_str (x y : Str) : eqD (.str x) (.str y) = some (decide (x = y)) := by
  unfold eqD
  rw [if_pos ⟨rfl, rfl, by simp [toP, PyData.depth]⟩]
  show some (x == y) = _
  congr 1
theorem atI_n {α : Type} (xs : List α) (n : Nat) : atI xs (n : Int) = xs[n]? := by
  unfold atI ixN
  rw [if_pos (by omega)]
  by_cases h : n < xs.length
  · rw [if_pos (by omega)]
    rfl
  · rw [if_neg (by omega), List.getElem?_eq_none (by omega)]
    rfl
theorem atI_succ {α : Type} (xs : List α) (n : Nat) : atI xs ((n : Int) + 1) = xs[n + 1]? := atI_n xs (n + 1)
theorem atI_0 {α : Type} (xs : List α) : atI xs 0 = xs[0]? := atI_n xs 0
theorem atI_1 {α : Type} (xs : List α) : atI xs 1 = xs[1]? := atI_n xs 1
theorem atI_2 {α : Type} (xs : List α) : atI xs 2 = xs[2]? := atI_n xs 2
theorem atI_neg1 {α : Type} (xs : List α) (a : α) : atI (xs ++ [a]) (-1) = some a := by
  unfold atI ixN
  rw [if_neg (by omega), if_pos (by simp; omega)]
  have : ((-1 : Int) + ((xs ++ [a]).length : Nat)).toNat = xs.length := by simp; omega
  rw [this]
  simp
theorem mulOk_r {i j : Int} (h1 : -(2 ^ 64) < j) (h2 : j < 2 ^ 64) : mulOk i j = true := by
  unfold mulOk
  rw [decide_eq_true h1, decide_eq_true h2]
  simp
theorem mulOk_a (i : Int) : mulOk i 48271 = true := mulOk_r (by decide) (by decide)
theorem mulOk_b (i : Int) : mulOk i 69621 = true := mulOk_r (by decide) (by decide)
theorem ixN30 : ixN 3 0 = some 0 := rfl
theorem ixN31 : ixN 3 1 = some 1 := rfl
theorem ixN32 : ixN 3 2 = some 2 := rfl
theorem ixN_k {n k : Nat} (h : k < n) : ixN n (k : Int) = some k := by
  unfold ixN
  rw [if_pos (by omega), if_pos (by omega)]
  rfl
/-! ### equality of plain data -/
mutual
def flat : Nat → D → Bool
  | _, .non => true
  | _, .bl _ => true
  | _, .int _ => true
  | _, .str _ => true
  | 0, .tup xs => xs.isEmpty
  | 0, .lst xs => xs.isEmpty
  | n + 1, .tup xs => flats n xs
  | n + 1, .lst xs => flats n xs
  | _, _ => false
def flats : Nat → List D → Bool
  | _, [] => true
  | n, x :: xs => flat n x && flats n xs
end
theorem flats_all {n : Nat} {xs : List D} : flats n xs = xs.all (flat n) := by
  induction xs with
  | nil => simp [flats]
  | cons x xs ih => simp [flats, ih]
mutual
theorem flat_ok : ∀ (d : D) (n : Nat), flat n d = true → (toP d).plain = true ∧ (toP d).depth ≤ n + 1
  | .non, n, _ => by simp [toP, PyData.plain, PyData.depth]
  | .bl _, n, _ => by simp [toP, PyData.plain, PyData.depth]
  | .int _, n, _ => by simp [toP, PyData.plain, PyData.depth]
  | .str _, n, _ => by simp [toP, PyData.plain, PyData.depth]
  | .tup xs, 0, h => by
    cases xs with
    | nil => simp [toP, toPs, PyData.plain, PyData.plainAll, PyData.depth, PyData.depthAll]
    | cons => simp [flat] at h
  | .lst xs, 0, h => by
    cases xs with
    | nil => simp [toP, toPs, PyData.plain, PyData.plainAll, PyData.depth, PyData.depthAll]
    | cons => simp [flat] at h
  | .tup xs, n + 1, h => by
    have z := flats_ok xs n (by simpa [flat] using h)
    simp only [toP, PyData.plain, PyData.depth]
    exact ⟨z.1, by omega⟩
  | .lst xs, n + 1, h => by
    have z := flats_ok xs n (by simpa [flat] using h)
    simp only [toP, PyData.plain, PyData.depth]
    exact ⟨z.1, by omega⟩
  | .dct _, n, h => by simp [flat] at h
  | .frz _, n, h => by simp [flat] at h
theorem flats_ok : ∀ (ds : List D) (n : Nat), flats n ds = true → PyData.plainAll (toPs ds) = true ∧ PyData.depthAll (toPs ds) ≤ n + 1
  | [], n, _ => by simp [toPs, PyData.plainAll, PyData.depthAll]
  | d :: ds, n, h => by
    simp only [flats, Bool.and_eq_true] at h
    have z1 := flat_ok d n h.1
    have z2 := flats_ok ds n h.2
    simp only [toPs, PyData.plainAll, PyData.depthAll, z1.1, z2.1, Bool.and_self, true_and]
    omega
end
theorem eqD_refl {d : D} {n : Nat} (h : flat n d = true) (hn : n ≤ 63) : eqD d d = some true := by
  obtain ⟨h1, h2⟩ := flat_ok d n h
  unfold eqD
  rw [if_pos ⟨h1, h1, by omega⟩, PySem.SeqAt.eqv_refl_plain _ h1]
theorem eqD_some {a b : D} {n m : Nat} (h : flat n a = true) (k : flat m b = true) (hn : n ≤ 63) : ∃ x, eqD a b = some x := by
  obtain ⟨h1, h2⟩ := flat_ok a n h
  obtain ⟨k1, k2⟩ := flat_ok b m k
  unfold eqD
  exact ⟨_, if_pos ⟨h1, k1, by omega⟩⟩
/-! ### loops -/
theorem loopL_nil {g : D → Env → Option Env} {b : MS} {ρ : Env} : loopL g b [] ρ = some (.nx ρ) := rfl
theorem loopL_nx {g : D → Env → Option Env} {b : MS} {d : D} {ds : List D} {ρ ρ1 ρ2 : Env} (h1 : g d ρ = some ρ1) (h2 : b ρ1 = some (.nx ρ2)) : loopL g b (d :: ds) ρ = loopL g b ds ρ2 := by
  show (match g d ρ with | none => none | some ρ1 => _) = _
  rw [h1]
  show (match b ρ1 with | some (.nx ρ2) => _ | some (.ct ρ2) => _ | some (.bk ρ2) => _ | some (.rt d ρ2) => _ | some (.er x ρ2) => _ | none => _) = _
  rw [h2]
theorem loopL_ct {g : D → Env → Option Env} {b : MS} {d : D} {ds : List D} {ρ ρ1 ρ2 : Env} (h1 : g d ρ = some ρ1) (h2 : b ρ1 = some (.ct ρ2)) : loopL g b (d :: ds) ρ = loopL g b ds ρ2 := by
  show (match g d ρ with | none => none | some ρ1 => _) = _
  rw [h1]
  show (match b ρ1 with | some (.nx ρ2) => _ | some (.ct ρ2) => _ | some (.bk ρ2) => _ | some (.rt d ρ2) => _ | some (.er x ρ2) => _ | none => _) = _
  rw [h2]
theorem loopL_er {g : D → Env → Option Env} {b : MS} {d : D} {ds : List D} {x : Str} {ρ ρ1 ρ2 : Env} (h1 : g d ρ = some ρ1) (h2 : b ρ1 = some (.er x ρ2)) : loopL g b (d :: ds) ρ = some (.er x ρ2) := by
  show (match g d ρ with | none => none | some ρ1 => _) = _
  rw [h1]
  show (match b ρ1 with | some (.nx ρ2) => _ | some (.ct ρ2) => _ | some (.bk ρ2) => _ | some (.rt d ρ2) => _ | some (.er x ρ2) => _ | none => _) = _
  rw [h2]
theorem loopL_rt {g : D → Env → Option Env} {b : MS} {d r : D} {ds : List D} {ρ ρ1 ρ2 : Env} (h1 : g d ρ = some ρ1) (h2 : b ρ1 = some (.rt r ρ2)) : loopL g b (d :: ds) ρ = some (.rt r ρ2) := by
  show (match g d ρ with | none => none | some ρ1 => _) = _
  rw [h1]
  show (match b ρ1 with | some (.nx ρ2) => _ | some (.ct ρ2) => _ | some (.bk ρ2) => _ | some (.rt d ρ2) => _ | some (.er x ρ2) => _ | none => _) = _
  rw [h2]
theorem loopW_no {t : MM Bool} {b : MS} {n : Nat} {ρ ρ1 : Env} (h : t ρ = some (.ok false ρ1)) : loopW t b (n + 1) ρ = some (.nx ρ1) := by
  unfold loopW
  rw [h]
theorem loopW_go {t : MM Bool} {b : MS} {n : Nat} {ρ ρ1 ρ2 : Env} (h : t ρ = some (.ok true ρ1)) (h2 : b ρ1 = some (.nx ρ2)) : loopW t b (n + 1) ρ = loopW t b n ρ2 := by
  rw [loopW, h]
  show (match b ρ1 with | some (.nx ρ2) => _ | some (.ct ρ2) => _ | some (.bk ρ2) => _ | some (.rt d ρ2) => _ | some (.er x ρ2) => _ | none => _) = _
  rw [h2]
theorem compL_nil {g : D → Env → Option Env} {t : MM Bool} {e : MM D} {vs : List Nat} {acc : List D} {ρ : Env} : compL g t e vs [] acc ρ = some (acc, ρ) := rfl
theorem compL_yes {g : D → Env → Option Env} {t : MM Bool} {e : MM D} {vs : List Nat} {d y : D} {ds acc : List D} {ρ ρ1 ρ2 ρ3 : Env} (h1 : g d ρ = some ρ1) (h2 : t ρ1 = some (.ok true ρ2)) (h3 : e ρ2 = some (.ok y ρ3)) (h4 : acc.length < cap) :
    compL g t e vs (d :: ds) acc ρ = compL g t e vs ds (acc ++ [y]) (wipeE ρ3 vs) := by
  rw [compL, h1]
  show (match t ρ1 with | some (.ok true ρ2) => _ | some (.ok false ρ2) => _ | _ => _) = _
  rw [h2]
  show (match e ρ2 with | some (.ok y ρ3) => _ | _ => _) = _
  rw [h3]
  exact if_pos h4
theorem compL_no {g : D → Env → Option Env} {t : MM Bool} {e : MM D} {vs : List Nat} {d : D} {ds acc : List D} {ρ ρ1 ρ2 : Env} (h1 : g d ρ = some ρ1) (h2 : t ρ1 = some (.ok false ρ2)) :
    compL g t e vs (d :: ds) acc ρ = compL g t e vs ds acc (wipeE ρ2 vs) := by
  rw [compL, h1]
  show (match t ρ1 with | some (.ok true ρ2) => _ | some (.ok false ρ2) => _ | _ => _) = _
  rw [h2]
theorem runF_rt {Pm : Nat → Bool} {N n : Nat} {m : MS} {ρ ρ0 ρ' : Env} {d : D} (h0 : ρ ++ List.replicate (N - n) .non = ρ0) (h : m ρ0 = some (.rt d ρ')) (hk : okEnd Pm n ρ' = true) : runF Pm N n m ρ = some (.ok d (clean n ρ')) := by
  unfold runF
  rw [h0, h]
  exact if_pos hk
theorem runF_er {Pm : Nat → Bool} {N n : Nat} {m : MS} {ρ ρ0 ρ' : Env} {x : Str} (h0 : ρ ++ List.replicate (N - n) .non = ρ0) (h : m ρ0 = some (.er x ρ')) (hk : okEnd Pm n ρ' = true) : runF Pm N n m ρ = some (.er x (clean n ρ')) := by
  unfold runF
  rw [h0, h]
  exact if_pos hk
theorem mIf_t {t : MM Bool} {m n : MS} {ρ ρ' : Env} (h : t ρ = some (.ok true ρ')) : mIf t m n ρ = m ρ' := by
  unfold mIf mE
  rw [h]
  rfl
theorem mIf_f {t : MM Bool} {m n : MS} {ρ ρ' : Env} (h : t ρ = some (.ok false ρ')) : mIf t m n ρ = n ρ' := by
  unfold mIf mE
  rw [h]
  rfl
end PD
end
section
set_option maxHeartbeats 0
/-! PDT: a table whose rows are changed through a second name. -/
namespace PD
open PySem PySem.Spec PyProof.Rows L2
def rowT (n : Nat) (f : Nat → Int) : List D := (List.range (n + 1)).map fun j => .int (f j)
theorem rowT_len {n : Nat} {f : Nat → Int} : (rowT n f).length = n + 1 := by simp [rowT]
theorem rowT_get {n j : Nat} {f : Nat → Int} (h : j ≤ n) : (rowT n f)[j]? = some (.int (f j)) := by
  unfold rowT
  rw [List.getElem?_map, List.getElem?_range (by omega)]
  rfl
theorem rowT_set {n i : Nat} {f : Nat → Int} {a : Int} : (rowT n f).set i (.int a) = rowT n fun j => if j = i then a else f j := by
  apply List.ext_getElem?
  intro j
  by_cases h : j ≤ n
  · rw [List.getElem?_set, rowT_len, rowT_get h, rowT_get h]
    by_cases e : i = j
    · subst e
      have h' : i < n + 1 := Nat.lt_succ_of_le h
      rw [if_pos rfl, if_pos h', if_pos rfl]
    · rw [if_neg e, if_neg (fun z => e z.symm)]
  · rw [List.getElem?_eq_none (by rw [List.length_set, rowT_len]; omega), List.getElem?_eq_none (by rw [rowT_len]; omega)]
theorem rowT_congr {n : Nat} {f g : Nat → Int} (h : ∀ j, j ≤ n → f j = g j) : rowT n f = rowT n g := by
  unfold rowT
  apply List.map_congr_left
  intro j hj
  rw [h j (by have := List.mem_range.mp hj; omega)]
section
variable {c : Cc}
theorem reps_mapI {K : PySem.W.Frag} {W : Hp} (f : Nat → Int) : ∀ l : List Nat, Reps K W (l.map fun i => V.int (f i)) (l.map fun i => D.int (f i))
  | [] => .nil
  | i :: l => .cons (.int _) (reps_mapI f l)
theorem list_set_same {α : Type} {l : List α} {i : Nat} {o : α} (h : l[i]? = some o) : l.set i o = l := by
  apply List.ext_getElem?
  intro j
  by_cases e : j = i
  · subst e
    rw [List.getElem?_set_self (List.getElem?_eq_some_iff.mp h).1, h]
  · rw [List.getElem?_set_ne (Ne.symm e)]
/-! ### list(range(n))[::-1] -/
def dRevRg : D → Option D
  | .int j => if 0 ≤ j ∧ j ≤ 100000 then some (.lst (rangeD 0 j.toNat).reverse) else none
  | _ => none
theorem se_revRg {te : TE} {m : MM D} (h : SE c te m) : SE c (tRevL c.K (tLstRg (tRg1 te))) (mUn dRevRg m) := by
  intro ρ rr e s σ hs Q q
  refine sx_go (t := te) h e hs q fun x d ρ s e hs rx q tr => ?_
  obtain ⟨d', e3, rfl⟩ := lft_cases e
  cases d <;> try (cases e3; done)
  rename_i j
  cases rx
  have e3 : (if 0 ≤ j ∧ j ≤ 100000 then some (D.lst (rangeD 0 j.toNat).reverse) else none) = some d' := e3
  split at e3
  · rename_i hj
    cases e3
    refine ⟨j, rfl, ⟨by omega, by omega, by omega, by omega, by omega⟩, fun L hL => ?_⟩
    have n1 := Nw.new (o := .lst (rgV 0 j)) hs.ex hs.nt hs.tb hL (fun _ z => nomatch z)
    have hs1 := hs.nw n1
    refine ⟨L, rgV 0 j, rfl, .inl (.inl upd_same), fun p hp => ?_⟩
    have n2 := Nw.new (o := .lst (rgV 0 j).reverse) hs1.ex hs1.nt hs1.tb hp (fun _ z => nomatch z)
    refine q _ _ (hs1.nw n2) ((Tr.nw n1).trans (Tr.nw (s := ⟨_, _, s.A⟩) n2)) (.lst upd_same (Reps.reverse ?_))
    have e1 : rgV 0 j = (List.range j.toNat).map fun (i : Nat) => V.int (0 + (i : Int)) := by unfold rgV; rw [Int.sub_zero]
    rw [e1]
    exact reps_mapI (fun i => 0 + (i : Int)) _
  · cases e3

/-! ### a slot's object told anew -/
theorem SR.retell {ρ : Env} {s : Ws} {σ : L2.St} {i : Nat} {l : Loc} (h : SR c.K c.tb ρ s σ) (hA : s.A i = none) (hl : LocOk c.K s.W s.H ((σ[i]?).getD none) none l) : SR c.K c.tb (ρ.set i l) s σ := by
  refine ⟨by rw [List.length_set]; exact h.len, fun j k e => ?_, fun j hj => h.out j (by rw [List.length_set] at hj; exact hj), h.inj, h.ex, h.nt, h.tb⟩
  rcases getElem_set e with ⟨rfl, rfl, _⟩ | ⟨hj, e⟩
  · rw [hA]; exact hl
  · exact h.loc j k e
theorem SR.lose {ρ : Env} {s : Ws} {σ : L2.St} {i : Nat} (h : SR c.K c.tb ρ s σ) (hi : i < ρ.length) : SR c.K c.tb (ρ.set i .non) ⟨s.W, s.H, updA s.A i none⟩ σ := by
  have k := h.letgo (i := i) (l := .non) (oa := none) (ov := (σ[i]?).getD none) hi rfl (fun _ z => nomatch z)
  have hl : i < σ.length := by rw [h.len]; exact hi
  have e : σ.set i ((σ[i]?).getD none) = σ := list_set_same (by rw [List.getElem?_eq_getElem hl]; rfl)
  rw [e] at k
  exact k
theorem ite_t {A B : Prop} (h : A) : if true = true then A else B := by rw [if_pos rfl]; exact h
/-! ### lists of nobody's, all alike -/
structure Rows (c : Cc) (s0 s : Ws) (ps : List Addr) (ds : List D) : Prop where
  nd : ps.Nodup
  f : ∀ p ∈ ps, s0.H p = none
  w : ∀ p ∈ ps, s.W p = none
  n : ∀ p ∈ ps, ¬ OwnsA s p
  o : ∀ p ∈ ps, OwnOk c.K s.W s.H p (.lst ds)
theorem Rows.there {s0 s : Ws} {ps : List Addr} {ds : List D} (r : Rows c s0 s ps ds) {p : Addr} (hp : p ∈ ps) : s.H p ≠ none := by
  obtain ⟨u, hu, _⟩ := (r.o p hp).there
  rw [hu]; exact fun z => nomatch z
theorem Rows.tr {P : Nat → Bool} {s0 s s' : Ws} {ps : List Addr} {ds : List D} (r : Rows c s0 s ps ds) (t : Tr P s s') : Rows c s0 s' ps ds := by
  refine ⟨r.nd, r.f, fun p hp => t.n p (r.there hp) (r.n p hp) (r.w p hp), fun p hp z => ?_, fun p hp => (r.o p hp).mono t.w fun u nu hu => t.f p u (r.n p hp) hu nu⟩
  rcases t.o p z with z | z
  · exact r.n p hp z
  · exact r.there hp z
theorem Rows.sub {s0 s : Ws} {ps qs : List Addr} {ds : List D} (r : Rows c s0 s ps ds) (h : qs.Sublist ps) : Rows c s0 s qs ds :=
  ⟨r.nd.sublist h, fun p hp => r.f p (h.subset hp), fun p hp => r.w p (h.subset hp), fun p hp => r.n p (h.subset hp), fun p hp => r.o p (h.subset hp)⟩
theorem own_tr {P : Nat → Bool} {s s' : Ws} {L : Addr} {u : HO} (t : Tr P s s') (hL : s.H L = some u) (nu : NTbl u) (wL : s.W L = none) (nL : ¬ OwnsA s L) : s'.H L = some u ∧ s'.W L = none ∧ ¬ OwnsA s' L := by
  have hn : s.H L ≠ none := by rw [hL]; exact fun z => nomatch z
  refine ⟨t.f L _ nL hL nu, t.n L hn nL wL, fun z => ?_⟩
  rcases t.o L z with z | z
  · exact nL z
  · exact hn z
theorem rows_made {k n : Nat} {te : TE} {me : MM Own} {ds : List D} {ρ : Env} {s : Ws} {σ : L2.St} {R : VK} (hs : SR c.K c.tb ρ s σ) (hk : ρ[k]? = some .non) (hP : c.P k = false) (he : SF c te me)
    (hme : ∀ i : Int, me (ρ.set k (.dat (.int i))) = some (.ok (.lst ds) (ρ.set k (.dat (.int i))))) (hn : n ≤ cap)
    (hR : ∀ L ps s', SR c.K c.tb ρ s' σ → Tr c.P s s' → s.H L = none → s'.H L = some (.lst (ps.map V.ref)) → ps.length = n → Rows c s s' ps ds → s'.W L = none → ¬ OwnsA s' L → L ∉ ps → R (.ref L) s'.H) :
    ∀ L, s.H L = none → ∃ W : Nat → Nat → Hp → Prop, (∃ m, W 0 m (upd s.H L (.lst []))) ∧ ∀ i m H, W i m H →
        ((Itr 0 n).stop i H ∧ R (.ref L) H) ∨ ((Itr 0 n).go i H ∧ ∃ Nx : Hp → Prop, (∀ H', Nx H' → ∃ m', m' < m ∧ W (i + 1) m' H') ∧ ∀ x H', (Itr 0 n).yld i H x H' → gName k x (wipe σ [k]) H' fun σ2 H2 => wipe σ2 [k] = wipe σ [k] ∧ tYes σ2 H2 fun b H3 =>
          if b = true then te σ2 H3 fun y H4 => ∃ acc, H4 L = some (.lst acc) ∧ acc.length < sizeLine ∧ Nx (upd H4 L (.lst (acc ++ [y]))) else Nx H3) := by
  intro L hL
  have hkl : k < ρ.length := (List.getElem?_eq_some_iff.mp hk).1
  have hPk : ∀ v ∈ [k], c.P v = false := fun v hv => by rw [List.mem_singleton.mp hv]; exact hP
  have ew : wipeE ρ [k] = ρ := list_set_same hk
  have ew2 : ∀ x : Loc, wipeE (ρ.set k x) [k] = ρ := fun x => by
    show (ρ.set k x).set k .non = ρ
    rw [List.set_set]; exact list_set_same hk
  refine lc_range (lo := 0) (n := n) (fun i H => i ≤ n ∧ ∃ s' ps, SR c.K c.tb ρ s' (wipe σ [k]) ∧ s'.H = H ∧ Tr c.P s s' ∧ H L = some (.lst (ps.map V.ref)) ∧ ps.length = i ∧ Rows c s s' ps ds ∧ s'.W L = none ∧ ¬ OwnsA s' L ∧ L ∉ ps) ?_ (fun i H hi hp => ?_) fun H hp => ?_
  · obtain ⟨A, w1, w2⟩ := sr_wipe [k] hs hPk
    rw [ew] at w1
    have n0 := Nw.own (p := L) (o := .lst []) w1.ex w1.nt w1.tb hL
    have nA : ¬ OwnsA ⟨s.W, s.H, A⟩ L := w1.free hL
    exact ⟨Nat.zero_le _, ⟨s.W, upd s.H L (.lst []), A⟩, [], w1.nw n0, rfl, w2.trans (.nw n0), upd_same, rfl, ⟨.nil, (fun p hp => nomatch hp), (fun p hp => nomatch hp), (fun p hp => nomatch hp), (fun p hp => nomatch hp)⟩, hs.wfree hL, nA, (fun z => nomatch z)⟩
  · obtain ⟨_, s1, ps, h1, rfl, t1, hL1, hl1, r1, wL, nL, nm⟩ := hp
    have esw : wipe ((wipe σ [k]).set k (some (V.int (0 + (i : Int))))) [k] = wipe σ [k] := by rw [wipe_set _ _ _ _ (List.mem_singleton.mpr rfl), wipe_wipe]
    refine ⟨esw, ?_⟩
    simp only [tYes, eq_self, if_true]
    obtain ⟨s2, h2, t2, e2, _⟩ := h1.put (i := k) (v := .int (0 + (i : Int))) hkl hP (.int _)
    have z := he _ _ (hme (0 + (i : Int))) s2 _ h2 (fun y H4 => ∃ acc, H4 L = some (.lst acc) ∧ acc.length < sizeLine ∧ (i + 1 ≤ n ∧ ∃ s' ps, SR c.K c.tb ρ s' (wipe σ [k]) ∧ s'.H = upd H4 L (.lst (acc ++ [y])) ∧ Tr c.P s s' ∧ upd H4 L (.lst (acc ++ [y])) L = some (.lst (ps.map V.ref)) ∧ ps.length = i + 1 ∧ Rows c s s' ps ds ∧ s'.W L = none ∧ ¬ OwnsA s' L ∧ L ∉ ps)) ?_
    · rw [e2] at z; exact z
    · intro p s3 h3 t3 hp wp np ho
      have t13 := t2.trans t3
      obtain ⟨A, w1, w2⟩ := sr_wipe [k] h3 hPk
      rw [esw, ew2] at w1
      have t14 := t13.trans w2
      obtain ⟨k1, k2, k3⟩ := own_tr t14 hL1 (fun _ z => nomatch z) wL nL
      have hp1 : s1.H p = none := by rw [← e2]; exact hp
      have hpL : p ≠ L := fun z => by rw [z, hL1] at hp1; cases hp1
      have hpn : p ∉ ps := fun z => r1.there z hp1
      have hp3 : s3.H p ≠ none := by
        obtain ⟨u, hu, _⟩ := ho.there
        rw [hu]; exact fun z => nomatch z
      have r4 := r1.tr t14
      have g := sr_grow (ys := ps.map V.ref ++ [V.ref p]) w1 k1 k2 k3
      have nL' : L ∉ ps ++ [p] := fun z => by
        rcases List.mem_append.mp z with z | z
        · exact nm z
        · exact hpL (List.mem_singleton.mp z).symm
      refine ⟨ps.map V.ref, k1, by rw [List.length_map]; exact cap_lt (by omega), hi, ⟨s3.W, upd s3.H L (.lst (ps.map V.ref ++ [V.ref p])), A⟩, ps ++ [p], g, rfl, tr_grow (t1.trans t14) hL, by rw [upd_same, List.map_append]; rfl, by rw [List.length_append, hl1]; rfl, ⟨?_, fun q hq => ?_, fun q hq => ?_, fun q hq => ?_, fun q hq => ?_⟩, k2, k3, nL'⟩
      · rw [List.nodup_append]
        exact ⟨r1.nd, by simp, fun a ha b hb z => hpn (by rw [← List.mem_singleton.mp hb, ← z]; exact ha)⟩
      · rcases List.mem_append.mp hq with hq | hq
        · exact r1.f q hq
        · rw [List.mem_singleton.mp hq]
          cases e : s.H p with
          | none => rfl
          | some u => exact absurd hp1 (t1.p p (by rw [e]; exact fun z => nomatch z))
      · rcases List.mem_append.mp hq with hq | hq
        · exact r4.w q hq
        · rw [List.mem_singleton.mp hq]; exact wp
      · rcases List.mem_append.mp hq with hq | hq
        · exact r4.n q hq
        · rw [List.mem_singleton.mp hq]
          intro z
          rcases w2.o p z with z | z
          · exact np z
          · exact hp3 z
      · have hqL : q ≠ L := fun z => nL' (z ▸ hq)
        have keep : ∀ u, NTbl u → s3.H q = some u → upd s3.H L (.lst (ps.map V.ref ++ [V.ref p])) q = some u := fun u _ hu => by rw [upd_ne hqL]; exact hu
        rcases List.mem_append.mp hq with hq | hq
        · exact (r4.o q hq).mono (Ex.refl _) keep
        · rw [List.mem_singleton.mp hq] at keep ⊢
          exact ho.mono (Ex.refl _) keep
  · obtain ⟨_, s1, ps, h1, rfl, t1, hL1, hl1, r1, wL, nL, nm⟩ := hp
    obtain ⟨A, k1, k2⟩ := sr_rest [k] hs t1.w h1 (by simp) (fun v hv => by rw [List.mem_singleton.mp hv]; exact hkl) hPk
    have er : restE ρ [k] ρ = ρ := by
      show ρ.set k (match ρ[k]? with | some (.dat d) => .dat d | _ => .non) = ρ
      rw [hk]; exact list_set_same hk
    rw [er] at k1
    obtain ⟨j1, j2, j3⟩ := own_tr k2 hL1 (fun _ z => nomatch z) wL nL
    exact hR L ps ⟨s1.W, s1.H, A⟩ k1 (t1.trans k2) hL hL1 hl1 (r1.tr k2) wL j3 nm

/-! ### a table of rows, from its last row on -/
def envT (X Y : D) (l2 l4 l5 l6 l7 : Loc) : Env := [.dat X, .dat Y, l2, .non, l4, l5, l6, l7, .non]
def tabT (n m : Nat) (R : Nat → Nat → Int) : D := .lst ((List.range (n + 1)).map fun i => .lst (rowT m (R i)))
theorem rev_at {n t : Nat} (h : t < n) : (rangeD 0 n).reverse[t]? = some (.int ((n - 1 - t : Nat) : Int)) := by
  rw [rev_get (by rw [rangeD_len]; exact h), rangeD_len, rangeD_get (by omega)]
  rw [Int.zero_add]
theorem mUn_rev {m : MM D} {ρ : Env} {n : Nat} (h : m ρ = some (.ok (.int n) ρ)) (hn : n ≤ 100000) : mUn dRevRg m ρ = some (.ok (.lst (rangeD 0 n).reverse) ρ) := by
  have e : dRevRg (.int n) = some (.lst (rangeD 0 n).reverse) := if_pos ⟨by omega, by omega⟩
  unfold mUn
  rw [bnd_ok h]
  unfold lft
  rw [e]
/-- one row: the inner loop -/
theorem row_go {X Y : D} {a m : Nat} {g F : Nat → Int} {nxt : Nat → (Nat → Int) → Int} {tm te1 : TE} {mm mte : MM D} {L pa : Addr} (hP : ∀ i, c.P i = false)
    (hm : SE c tm mm) (em : ∀ l5 l6, mm (envT X Y .non (.dat (.int a)) l5 l6 .non) = some (.ok (.int m) (envT X Y .non (.dat (.int a)) l5 l6 .non))) (hmc : m ≤ 100000)
    (h1 : SE c te1 mte) (e1 : ∀ (p : Nat) f, p < m → mte (envT X Y .non (.dat (.int a)) (.own (.lst (rowT m f))) (.dat (.lst (rowT m g))) (.dat (.int p))) = some (.ok (.int (nxt p f)) (envT X Y .non (.dat (.int a)) (.own (.lst (rowT m f))) (.dat (.lst (rowT m g))) (.dat (.int p)))))
    (hF : ∀ p f, p < m → (∀ j, p + 1 ≤ j → j ≤ m → f j = F j) → nxt p f = F p) (hF0 : F m = 0) {s : Ws} {σ : L2.St} {E : Ends}
    (hs : SR c.K c.tb (envT X Y .non (.dat (.int a)) (.own (.lst (rowT m fun _ => 0))) (.dat (.lst (rowT m g))) .non) s σ) (hL : σ[2]? = some (some (.ref L))) (hpa : σ[5]? = some (some (.ref pa)))
    (q : ∀ s' σ', SR c.K c.tb (envT X Y .non .non (.own (.lst (rowT m F))) .non .non) s' σ' → Tr c.P s s' → σ'[2]? = some (some (.ref L)) → σ'[5]? = some (some (.ref pa)) → E.nx σ' s'.H) :
    tFor (iSeq c.K (tRevL c.K (tLstRg (tRg1 tm)))) (gName 7) (tAsg te1 (gSub (tVar 5) (tVar 7) rSetL)) E σ s.H := by
  unfold tFor iSeq
  refine se_revRg hm _ _ (mUn_rev (em _ _) hmc) s σ hs _ fun v s1 hs1 t1 rv => ?_
  cases rv with
  | @lst b vs _ hq rr =>
    have hq' : SqL c.K s1.W b vs := .inl (.inl hq)
    have hlen : vs.length = m := by rw [rr.length, List.length_reverse, rangeD_len]
    refine ⟨b, rfl, .inl ⟨⟨vs, hs1.ex.sl hq'⟩, for_list (K := c.K) (a := b) (xs := vs) (fun t σ2 H2 => ∃ l7 s2 f, (l7 = Loc.non ∨ ∃ d, l7 = .dat d) ∧ SR c.K c.tb (envT X Y .non (.dat (.int a)) (.own (.lst (rowT m f))) (.dat (.lst (rowT m g))) l7) s2 σ2 ∧ s2.H = H2 ∧ Tr c.P s s2 ∧ Ex s1.W s2.W ∧ σ2[2]? = some (some (V.ref L)) ∧ σ2[5]? = some (some (V.ref pa)) ∧ ∀ j, m - t ≤ j → j ≤ m → f j = F j)
      ⟨.non, s1, fun _ => 0, .inl rfl, hs1, rfl, t1, Ex.refl _, hL, hpa, fun j h1 h2 => by rw [show j = m by omega, hF0]⟩ (fun i σ2 H2 _ ⟨_, s2, _, _, k1, e, _, x, _⟩ => e ▸ k1.ex.sl (x.sl hq')) (fun t x σ2 H2 hx hp => ?_) fun σ2 H2 hp => ?_⟩⟩
    · obtain ⟨l7, s2, f, _, k1, rfl, tr, x1, y2, y5, hf⟩ := hp
      have ht : t < m := by rw [← hlen]; exact (List.getElem?_eq_some_iff.mp hx).1
      obtain ⟨d, hd, rd'⟩ := rr.get hx
      rw [rev_at ht] at hd
      cases hd
      cases rd'
      obtain ⟨p, hp⟩ : ∃ p, p = m - 1 - t := ⟨_, rfl⟩
      rw [← hp]
      have hpm : p < m := by omega
      obtain ⟨s3, k3, t3, e3, _⟩ := k1.put (i := 7) (v := .int (p : Int)) (d := .int (p : Int)) (show (7 : Nat) < 9 by decide) (hP 7) (.int _)
      have z2 : (σ2.set 7 (some (V.int (p : Int))))[2]? = some (some (V.ref L)) := by rw [List.getElem?_set_ne (by decide)]; exact y2
      have z5 : (σ2.set 7 (some (V.int (p : Int))))[5]? = some (some (V.ref pa)) := by rw [List.getElem?_set_ne (by decide)]; exact y5
      have hl7 : 7 < σ2.length := by rw [k1.len]; exact (show (7 : Nat) < 9 by decide)
      have z7 : (σ2.set 7 (some (V.int (p : Int))))[7]? = some (some (V.int (p : Int))) := List.getElem?_set_self hl7
      show te1 (σ2.set 7 (some (V.int (p : Int)))) s2.H _
      rw [← e3]
      refine h1 _ _ (e1 p f hpm) s3 _ k3 _ fun v s4 k4 t4 rv4 => ?_
      cases rv4
      obtain ⟨q1, hA, hv, wp, vs1, hp1, r1⟩ := k4.own (i := 5) rfl
      rw [z5] at hv
      cases hv
      have e1' : ixN vs1.length (p : Int) = some p := by rw [r1.length, rowT_len]; exact ixN_k (by omega)
      obtain ⟨j1, j2⟩ := k4.change (i := 5) (u := .lst (vs1.set p (.int (nxt p f)))) (o2 := .lst ((rowT m f).set p (.int (nxt p f)))) rfl hA (.inl ⟨_, rfl⟩) ⟨_, upd_same, r1.set (.int _) p⟩
      rw [rowT_set] at j1
      refine ⟨.ref pa, z5, .int (p : Int), z7, pa, vs1, (p : Int), p, rfl, rfl, hp1, e1', ?_⟩
      refine ⟨_, _, _, .inr ⟨.int (p : Int), rfl⟩, j1, rfl, tr.trans (t3.trans (t4.trans j2)), x1.trans (t3.w.trans (t4.w.trans j2.w)), z2, z5, fun j h1 h2 => ?_⟩
      by_cases e : j = p
      · rw [if_pos e, e]
        exact hF p f hpm fun j h1 h2 => hf j (by omega) h2
      · rw [if_neg e]
        exact hf j (by omega) h2
    · obtain ⟨l7, s2, f, hl, k1, rfl, tr, _, y2, y5, hf⟩ := hp
      rw [hlen, Nat.sub_self] at hf
      rw [rowT_congr fun j hj => hf j (Nat.zero_le _) hj] at k1
      have a4 : s2.A 4 = none := (k1.loc 4 _ rfl).1
      have a6 : s2.A 6 = none := (k1.loc 6 _ rfl).1
      have a7 : s2.A 7 = none := by
        rcases hl with rfl | ⟨d, rfl⟩
        · exact k1.loc 7 _ rfl
        · exact (k1.loc 7 _ rfl).1
      have k2 := ((k1.retell (i := 4) (l := .non) a4 rfl).retell (i := 6) (l := .non) a6 rfl).retell (i := 7) (l := .non) a7 rfl
      exact q s2 σ2 k2 tr y2 y5
end
end PD
end
section
set_option maxHeartbeats 0
namespace PD
open PySem PySem.Spec PyProof.Rows L2
section
variable {c : Cc}
/-- where the outer loop stands ahead of turn t -/
def TabAt (c : Cc) (X Y : D) (n m : Nat) (R : Nat → Nat → Int) (s0 : Ws) (Wb : Hp) (L : Addr) (ps : List Addr) (t : Nat) (σ : L2.St) (H : Hp) : Prop :=
  ∃ s, Ex Wb s.W ∧ SR c.K c.tb (envT X Y .non .non .non .non .non) s σ ∧ s.H = H ∧ Tr c.P s0 s ∧ σ[2]? = some (some (.ref L)) ∧ H L = some (.lst (ps.map V.ref)) ∧ s.W L = none ∧ ¬ OwnsA s L ∧ L ∉ ps ∧
    Rows c s0 s (ps.take (n - t)) (rowT m fun _ => 0) ∧ ∀ i p, n - t ≤ i → ps[i]? = some p → Rep c.K s.W (.ref p) (.lst (rowT m (R i)))
/-- a row becomes known -/
theorem row_known {ρ : Env} {s s0 : Ws} {σ : L2.St} {p : Addr} {ds : List D} (h : SR c.K c.tb ρ s σ) (t : Tr c.P s0 s) (h0 : s0.H p = none) (wp : s.W p = none) (np : ¬ OwnsA s p) (ho : OwnOk c.K s.W s.H p (.lst ds)) :
    ∃ s', SR c.K c.tb ρ s' σ ∧ Tr c.P s0 s' ∧ s'.H = s.H ∧ s'.A = s.A ∧ Ex s.W s'.W ∧ Rep c.K s'.W (.ref p) (.lst ds) ∧ ∀ q, q ≠ p → s'.W q = s.W q := by
  obtain ⟨vs, h1, h2⟩ := ho
  obtain ⟨k1, k2⟩ := sr_known h t h0 h1 wp np
  have eW : Ex s.W (upd s.W p (.lst vs)) := fun a o e => by rw [upd_ne (ne_of_none e wp)]; exact e
  exact ⟨_, k1, k2, rfl, rfl, eW, .lst upd_same (h2.mono eW), fun q hq => upd_ne hq⟩
theorem tab_turn {X Y : D} {n m : Nat} {R : Nat → Nat → Int} {nxt : Nat → Nat → (Nat → Int) → Int} {tm te1 : TE} {mm mte : MM D} {s0 : Ws} {Wb : Hp} {L : Addr} {ps : List Addr} {t : Nat} {σ : L2.St} {H : Hp} {E : Ends} (hP : ∀ i, c.P i = false)
    (hm : SE c tm mm) (em : ∀ (a : Nat) l5 l6, mm (envT X Y .non (.dat (.int a)) l5 l6 .non) = some (.ok (.int m) (envT X Y .non (.dat (.int a)) l5 l6 .non))) (hmc : m ≤ 100000)
    (h1 : SE c te1 mte) (e1 : ∀ (a p : Nat) f, a < n → p < m → mte (envT X Y .non (.dat (.int a)) (.own (.lst (rowT m f))) (.dat (.lst (rowT m (R (a + 1))))) (.dat (.int p))) = some (.ok (.int (nxt a p f)) (envT X Y .non (.dat (.int a)) (.own (.lst (rowT m f))) (.dat (.lst (rowT m (R (a + 1))))) (.dat (.int p)))))
    (hF : ∀ a p f, a < n → p < m → (∀ j, p + 1 ≤ j → j ≤ m → f j = R a j) → nxt a p f = R a p) (hF0 : ∀ a, R a m = 0) (hps : ps.length = n + 1) (ht : t < n) (h : TabAt c X Y n m R s0 Wb L ps t σ H) :
    gName 4 (.int ((n - 1 - t : Nat) : Int)) σ H fun σ2 H2 => tSeq (tPar 5 6 (tCons (tOp (rIx c.K) (tVar 2) (tVar 4)) (tCons (tOp (rIx c.K) (tVar 2) (tOp (rAddAll c.K) (tVar 4) (tC (.int 1)))) tNil))) (tFor (iSeq c.K (tRevL c.K (tLstRg (tRg1 tm)))) (gName 7) (tAsg te1 (gSub (tVar 5) (tVar 7) rSetL)))
      { E with nx := TabAt c X Y n m R s0 Wb L ps (t + 1), ct := TabAt c X Y n m R s0 Wb L ps (t + 1), bk := E.nx } σ2 H2 := by
  obtain ⟨s, xb, hs, rfl, tr, hσ, hL, wL, nL, nm, r, hk⟩ := h
  obtain ⟨a, ha⟩ : ∃ a, a = n - 1 - t := ⟨_, rfl⟩
  have ha1 : n - t = a + 1 := by omega
  have ha2 : n - (t + 1) = a := by omega
  have han : a < n := by omega
  rw [← ha]
  rw [ha1] at r hk
  have hpa : ps[a]? = some ps[a] := List.getElem?_eq_getElem (by omega)
  have hpb : ps[a + 1]? = some ps[a + 1] := List.getElem?_eq_getElem (by omega)
  have etk : ps.take (a + 1) = ps.take a ++ [ps[a]] := by rw [List.take_succ, hpa]; rfl
  generalize hpa' : ps[a] = pa at hpa etk
  generalize hpb' : ps[a + 1] = pb at hpb
  have mpa : pa ∈ ps.take (a + 1) := by rw [etk]; exact List.mem_append_right _ (List.mem_singleton.mpr rfl)
  have npa : pa ∉ ps.take a := fun z => by
    have := r.nd
    rw [etk, List.nodup_append] at this
    exact this.2.2 pa z pa (List.mem_singleton.mpr rfl) rfl
  have rb := hk (a + 1) pb (Nat.le_refl _) hpb
  -- the names
  have hl : ∀ {i : Nat}, i < 9 → i < (envT X Y .non .non .non .non .non).length := fun h => h
  obtain ⟨s1, k1, t1, e1H, e1W⟩ := hs.put (i := 4) (v := .int (a : Int)) (d := .int (a : Int)) (hl (by decide)) (hP 4) (.int _)
  have len1 : (σ.set 4 (some (V.int (a : Int)))).length = 9 := k1.len
  have z2 : (σ.set 4 (some (V.int (a : Int))))[2]? = some (some (V.ref L)) := by rw [List.getElem?_set_ne (by decide)]; exact hσ
  have hl4 : 4 < σ.length := by rw [List.length_set] at len1; omega
  have z4 : (σ.set 4 (some (V.int (a : Int))))[4]? = some (some (V.int (a : Int))) := List.getElem?_set_self hl4
  show tSeq _ _ _ (σ.set 4 (some (V.int (a : Int)))) s.H
  generalize σ.set 4 (some (V.int (a : Int))) = σ1 at k1 len1 z2 z4 ⊢
  have ata : atI (ps.map V.ref) (a : Int) = some (V.ref pa) := by rw [atI_n, List.getElem?_map, hpa]; rfl
  have atb : atI (ps.map V.ref) ((a : Int) + 1) = some (V.ref pb) := by rw [atI_succ, List.getElem?_map, hpb]; rfl
  have sqL : SqL c.K s.H L (ps.map V.ref) := .inl (.inl hL)
  refine ⟨.ref L, z2, .int (a : Int), z4, .inl ⟨L, ps.map V.ref, (a : Int), .ref pa, rfl, rfl, sqL, ata, ?_⟩⟩
  refine ⟨.ref L, z2, .int (a : Int), z4, .inl ⟨(a : Int), 1, rfl, rfl, ?_⟩⟩
  refine .inl ⟨L, ps.map V.ref, (a : Int) + 1, .ref pb, rfl, rfl, sqL, atb, ?_⟩
  refine ⟨.ref pa, .ref pb, rfl, ?_⟩
  show tFor (iSeq c.K (tRevL c.K (tLstRg (tRg1 tm)))) (gName 7) (tAsg te1 (gSub (tVar 5) (tVar 7) rSetL)) { E with nx := TabAt c X Y n m R s0 Wb L ps (t + 1), ct := TabAt c X Y n m R s0 Wb L ps (t + 1), bk := E.nx } ((σ1.set 5 (some (.ref pa))).set 6 (some (.ref pb))) s.H
  -- slots 5 and 6
  have r1 := r.tr t1
  obtain ⟨j1, j2, j3⟩ := own_tr t1 hL (fun _ z => nomatch z) wL nL
  have k2 := k1.letgo (i := 5) (l := .own (.lst (rowT m fun _ => 0))) (ov := some (.ref pa)) (oa := some pa) (hl (by decide)) ⟨pa, rfl, rfl, r1.w pa mpa, r1.o pa mpa⟩ (fun p e j hj => by cases e; exact r1.n pa mpa ⟨j, hj⟩)
  have own2 : ∀ q, OwnsA ⟨s1.W, s1.H, updA s1.A 5 (some pa)⟩ q → q = pa ∨ OwnsA s1 q := fun q ⟨j, hj⟩ => by
    have hj' : updA s1.A 5 (some pa) j = some q := hj
    by_cases e : j = 5
    · rw [e, updA_same] at hj'; cases hj'; exact .inl rfl
    · rw [updA_ne e] at hj'; exact .inr ⟨j, hj'⟩
  have tr1 := tr.trans t1
  have tr2 : Tr c.P s0 ⟨s1.W, s1.H, updA s1.A 5 (some pa)⟩ := ⟨tr1.w, tr1.n, tr1.f, fun q z => by
      rcases own2 q z with z | z
      · rw [z]; exact .inr (r1.f pa mpa)
      · exact tr1.o q z, tr1.p, fun i hi => by rw [hP i] at hi; cases hi⟩
  obtain ⟨s3, k3, t3, e3H, e3W⟩ := k2.put (i := 6) (v := .ref pb) (d := .lst (rowT m (R (a + 1)))) (hl (by decide)) (hP 6) (rb.mono t1.w)
  have y2 : ((σ1.set 5 (some (V.ref pa))).set 6 (some (V.ref pb)))[2]? = some (some (V.ref L)) := by rw [List.getElem?_set_ne (by decide), List.getElem?_set_ne (by decide)]; exact z2
  have y5 : ((σ1.set 5 (some (V.ref pa))).set 6 (some (V.ref pb)))[5]? = some (some (V.ref pa)) := by rw [List.getElem?_set_ne (by decide), List.getElem?_set_self (by rw [len1]; decide)]
  generalize (σ1.set 5 (some (V.ref pa))).set 6 (some (V.ref pb)) = σ3 at k3 y2 y5 ⊢
  have eH : s.H = s3.H := by rw [e3H]; exact e1H.symm
  rw [eH]
  refine row_go (X := X) (Y := Y) (a := a) (m := m) (g := R (a + 1)) (F := R a) (nxt := nxt a) (L := L) (pa := pa) hP hm (em a) hmc h1 (fun p f hp => e1 a p f han hp) (fun p f hp hf => hF a p f han hp hf) (hF0 a) k3 y2 y5 fun s4 σ4 k4 t4 w2 w5 => ?_
  -- behind the row
  have L3 : ¬ OwnsA ⟨s1.W, s1.H, updA s1.A 5 (some pa)⟩ L := fun z => by
    rcases own2 L z with z | z
    · exact nm (by rw [z]; exact List.mem_of_getElem? hpa)
    · exact j3 z
  have t24 := t3.trans t4
  obtain ⟨i1, i2, i3⟩ := own_tr t24 (s := ⟨s1.W, s1.H, updA s1.A 5 (some pa)⟩) j1 (fun _ z => nomatch z) j2 L3
  have rr : Rows c s0 ⟨s1.W, s1.H, updA s1.A 5 (some pa)⟩ (ps.take a) (rowT m fun _ => 0) := by
    have rs := r1.sub (qs := ps.take a) (by rw [etk]; exact List.sublist_append_left _ _)
    refine ⟨rs.nd, rs.f, rs.w, fun p hp z => ?_, rs.o⟩
    rcases own2 p z with z | z
    · exact npa (z ▸ hp)
    · exact rs.n p hp z
  have rr4 := rr.tr t24
  obtain ⟨p', hA, hv, wp, ho⟩ := k4.own (i := 5) rfl
  rw [w5] at hv
  cases hv
  have k5 := k4.lose (i := 5) (hl (by decide))
  have own5 : ∀ q, OwnsA ⟨s4.W, s4.H, updA s4.A 5 none⟩ q → q ≠ pa ∧ OwnsA s4 q := fun q ⟨j, hj⟩ => by
    have hj' : updA s4.A 5 none j = some q := hj
    by_cases e : j = 5
    · rw [e, updA_same] at hj'; cases hj'
    · rw [updA_ne e] at hj'
      exact ⟨fun z => e (k4.inj j 5 q hj' (by rw [hA, z])), j, hj'⟩
  have tr5 : Tr c.P s0 ⟨s4.W, s4.H, updA s4.A 5 none⟩ := (tr2.trans t24).trans (tr_letgo (oa := none) (hP 5) fun _ z => nomatch z)
  obtain ⟨s6, k6, t6, e6H, e6A, x6, rp6, w6⟩ := row_known k5 tr5 (r1.f pa mpa) wp (fun z => (own5 pa z).1 rfl) ho
  have own6 : ∀ q, OwnsA s6 q → OwnsA s4 q := fun q ⟨j, hj⟩ => (own5 q ⟨j, by rw [e6A] at hj; exact hj⟩).2
  have xx : Ex s.W s6.W := (t1.w.trans t24.w).trans x6
  refine ⟨s6, xb.trans xx, k6, e6H, t6, w2, i1, ?_, fun z => i3 (own6 L z), nm, ?_, fun i p hi hp => ?_⟩
  · have : L ≠ pa := fun z => nm (by rw [z]; exact List.mem_of_getElem? hpa)
    rw [w6 L this]; exact i2
  · rw [ha2]
    refine ⟨rr4.nd, rr4.f, fun p hp => ?_, fun p hp z => rr4.n p hp (own6 p z), fun p hp => ?_⟩
    · have : p ≠ pa := fun z => npa (z ▸ hp)
      rw [w6 p this]; exact rr4.w p hp
    · refine (rr4.o p hp).mono x6 fun u _ hu => ?_
      rw [e6H]; exact hu
  · rw [ha2] at hi
    by_cases e : i = a
    · rw [e, hpa] at hp
      cases hp
      rw [e]; exact rp6
    · exact (hk i p (by omega) hp).mono xx
/-- the rows are made -/
theorem rows_lc {ρ : Env} {k n : Nat} {ta : TA} {te0 : TE} {ma : MM (List D)} {me0 : MM Own} {ds : List D} (hP : c.P k = false) (hk : ρ[k]? = some .non)
    (ha : SA c ta ma) (ea : ma ρ = some (.ok [.int (n : Int)] ρ)) (h0 : SF c te0 me0) (e0 : ∀ i : Int, me0 (ρ.set k (.dat (.int i))) = some (.ok (.lst ds) (ρ.set k (.dat (.int i))))) (hn : n ≤ 100000) {s : Ws} {σ : L2.St} (hs : SR c.K c.tb ρ s σ) {R : VK}
    (hR : ∀ L ps s', SR c.K c.tb ρ s' σ → Tr c.P s s' → s.H L = none → s'.H L = some (.lst (ps.map V.ref)) → ps.length = n → Rows c s s' ps ds → s'.W L = none → ¬ OwnsA s' L → L ∉ ps → R (.ref L) s'.H) :
    tLc (iRng1 ta) (gName k) tYes te0 [k] σ s.H R := by
  unfold tLc iRng1
  refine ha _ _ ea s σ hs _ fun vs s1 hs1 t1 rv => ?_
  have := reps_i1 rv
  subst this
  refine ⟨(n : Int), rfl, by omega, by omega, ?_⟩
  rw [Int.toNat_natCast]
  have hn0 : ∀ {a : Addr}, s1.H a = none → s.H a = none := fun {a} h => by
    cases e : s.H a with
    | none => rfl
    | some u => exact absurd h (t1.p a (by rw [e]; exact fun z => nomatch z))
  exact rows_made (n := n) (R := R) hs1 (k := k) (me := me0) (ds := ds) hk hP h0 e0 hn (fun L ps s2 hs2 t2 hL0 hL hl r wL nL nm => hR L ps s2 hs2 (t1.trans t2) (hn0 hL0) hL hl ⟨r.nd, fun p hp => hn0 (r.f p hp), r.w, r.n, r.o⟩ wL nL nm)
/-- for a in list(range(len(one)))[::-1]: .. -/
theorem tab_loop {X Y : D} {n m : Nat} {R : Nat → Nat → Int} {nxt : Nat → Nat → (Nat → Int) → Int} {tn tm te1 : TE} {mn mm mte : MM D} (hP : ∀ i, c.P i = false)
    (hn : SE c tn mn) (en : mn (envT X Y .non .non .non .non .non) = some (.ok (.int n) (envT X Y .non .non .non .non .non))) (hnc : n < 100000)
    (hm : SE c tm mm) (em : ∀ (a : Nat) l5 l6, mm (envT X Y .non (.dat (.int a)) l5 l6 .non) = some (.ok (.int m) (envT X Y .non (.dat (.int a)) l5 l6 .non))) (hmc : m ≤ 100000)
    (h1 : SE c te1 mte) (e1 : ∀ (a p : Nat) f, a < n → p < m → mte (envT X Y .non (.dat (.int a)) (.own (.lst (rowT m f))) (.dat (.lst (rowT m (R (a + 1))))) (.dat (.int p))) = some (.ok (.int (nxt a p f)) (envT X Y .non (.dat (.int a)) (.own (.lst (rowT m f))) (.dat (.lst (rowT m (R (a + 1))))) (.dat (.int p)))))
    (hF : ∀ a p f, a < n → p < m → (∀ j, p + 1 ≤ j → j ≤ m → f j = R a j) → nxt a p f = R a p) (hF0 : ∀ a, R a m = 0) (hRn : ∀ j, j ≤ m → R n j = 0) {s0 s : Ws} {σ : L2.St} {L : Addr} {ps : List Addr}
    (hs : SR c.K c.tb (envT X Y .non .non .non .non .non) s σ) (tr : Tr c.P s0 s) (h0L : s0.H L = none) (z2 : σ[2]? = some (some (V.ref L))) (hL : s.H L = some (.lst (ps.map V.ref))) (hps : ps.length = n + 1) (r : Rows c s0 s ps (rowT m fun _ => 0)) (wL : s.W L = none) (nL : ¬ OwnsA s L) (nm : L ∉ ps) {E : Ends}
    (q : ∀ s' σ', SR c.K c.tb (envT X Y (.dat (tabT n m R)) .non .non .non .non) s' σ' → Tr c.P s0 s' → E.nx σ' s'.H) :
    tFor (iSeq c.K (tRevL c.K (tLstRg (tRg1 tn)))) (gName 4) (tSeq (tPar 5 6 (tCons (tOp (rIx c.K) (tVar 2) (tVar 4)) (tCons (tOp (rIx c.K) (tVar 2) (tOp (rAddAll c.K) (tVar 4) (tC (.int 1)))) tNil))) (tFor (iSeq c.K (tRevL c.K (tLstRg (tRg1 tm)))) (gName 7) (tAsg te1 (gSub (tVar 5) (tVar 7) rSetL)))) E σ s.H := by
  unfold tFor iSeq
  refine se_revRg hn _ _ (mUn_rev en (by omega)) s σ hs _ fun v s5 k5 t5 rv5 => ?_
  have r5 := r.tr t5
  obtain ⟨i1, i2, i3⟩ := own_tr t5 hL (fun _ z => nomatch z) wL nL
  have tr5 := tr.trans t5
  have hlast : ps[n]? = some ps[n] := List.getElem?_eq_getElem (by omega)
  have etk : ps = ps.take n ++ [ps[n]] := by
    have e : ps.take (n + 1) = ps := List.take_of_length_le (by omega)
    have e2 := List.take_succ (l := ps) (i := n)
    rw [e, hlast] at e2
    exact e2
  have spn : ∃ pn, ps[n] = pn := ⟨_, rfl⟩
  obtain ⟨pn, hpn⟩ := spn
  rw [hpn] at hlast etk
  have mpn : pn ∈ ps := List.mem_of_getElem? hlast
  have npn : pn ∉ ps.take n := fun z => by
    have := r5.nd
    rw [etk, List.nodup_append] at this
    exact this.2.2 pn z pn (List.mem_singleton.mpr rfl) rfl
  have hLpn : L ≠ pn := fun z => nm (by rw [z]; exact mpn)
  obtain ⟨s4, k4, t4, e4H, e4A, x4, rp4, w4⟩ := row_known k5 tr5 (r5.f pn mpn) (r5.w pn mpn) (r5.n pn mpn) (r5.o pn mpn)
  have st : TabAt c X Y n m R s0 s5.W L ps 0 σ s5.H := by
    refine ⟨s4, x4, k4, e4H, t4, z2, i1, ?_, fun ⟨j, hj⟩ => i3 ⟨j, by rw [← e4A]; exact hj⟩, nm, ?_, fun i p hi hp => ?_⟩
    · rw [w4 L hLpn]; exact i2
    · rw [Nat.sub_zero]
      have rs := r5.sub (qs := ps.take n) (List.take_sublist _ _)
      refine ⟨rs.nd, rs.f, fun p hp => ?_, fun p hp ⟨j, hj⟩ => rs.n p hp ⟨j, by rw [← e4A]; exact hj⟩, fun p hp => ?_⟩
      · have : p ≠ pn := fun z => npn (z ▸ hp)
        rw [w4 p this]; exact rs.w p hp
      · exact (rs.o p hp).mono x4 fun u _ hu => by rw [e4H]; exact hu
    · have hin : i = n := by
        have := (List.getElem?_eq_some_iff.mp hp).1
        omega
      rw [hin, hlast] at hp
      cases hp
      rw [hin, rowT_congr (g := fun _ => 0) fun j hj => hRn j hj]
      exact rp4
  cases rv5 with
  | @lst b vs _ hq rr =>
    have hq' : SqL c.K s5.W b vs := .inl (.inl hq)
    have hlen : vs.length = n := by rw [rr.length, List.length_reverse, rangeD_len]
    refine ⟨b, rfl, .inl ⟨⟨vs, k5.ex.sl hq'⟩, for_list (K := c.K) (a := b) (xs := vs) (TabAt c X Y n m R s0 s5.W L ps) st (fun i σ2 H2 _ ⟨s', xb, k, e, _⟩ => e ▸ k.ex.sl (xb.sl hq')) (fun t x σ2 H2 hx hp => ?_) fun σ2 H2 hp => ?_⟩⟩
    · have ht : t < n := by rw [← hlen]; exact (List.getElem?_eq_some_iff.mp hx).1
      obtain ⟨d, hd, rd'⟩ := rr.get hx
      rw [rev_at ht] at hd
      cases hd
      cases rd'
      exact tab_turn hP hm em hmc h1 e1 hF hF0 hps ht hp
    · rw [hlen] at hp
      obtain ⟨s', xb, k, rfl, tr', y2, hL', wL', nL', _, _, hk⟩ := hp
      obtain ⟨k6, t6⟩ := sr_known k tr' h0L hL' wL' nL'
      have eW : Ex s'.W (upd s'.W L (.lst (ps.map V.ref))) := fun a o e => by rw [upd_ne (ne_of_none e wL')]; exact e
      have rt : Rep c.K (upd s'.W L (.lst (ps.map V.ref))) (.ref L) (tabT n m R) := by
        refine .lst upd_same ?_
        rw [Nat.sub_self] at hk
        have gen : ∀ (l : List Addr) (k : Nat), (∀ i p, l[i]? = some p → Rep c.K s'.W (.ref p) (.lst (rowT m (R (k + i))))) → Reps c.K (upd s'.W L (.lst (ps.map V.ref))) (l.map V.ref) ((List.range l.length).map fun i => D.lst (rowT m (R (k + i)))) := by
          intro l
          induction l with
          | nil => intro k _; exact .nil
          | cons p l ih =>
            intro k h
            rw [List.length_cons, List.range_succ_eq_map, List.map_cons, List.map_cons, List.map_map]
            refine .cons ((h 0 p rfl).mono eW) ?_
            have z := ih (k + 1) fun i p' hp' => by
              have w := h (i + 1) p' (by simpa using hp')
              rw [show k + 1 + i = k + (i + 1) by omega]
              exact w
            have e : ((fun i => D.lst (rowT m (R (k + i)))) ∘ Nat.succ) = fun i => D.lst (rowT m (R (k + 1 + i))) := by
              funext i
              show D.lst (rowT m (R (k + (i + 1)))) = _
              rw [show k + (i + 1) = k + 1 + i by omega]
            rw [e]
            exact z
        have z := gen ps 0 fun i p hp => by rw [Nat.zero_add]; exact hk i p (Nat.zero_le _) hp
        rw [hps] at z
        simpa only [Nat.zero_add] using z
      have k7 := k6.retell (i := 2) (l := .dat (tabT n m R)) (k.loc 2 _ rfl) ⟨rfl, .ref L, by rw [y2]; rfl, rt⟩
      exact q ⟨upd s'.W L (.lst (ps.map V.ref)), s'.H, s'.A⟩ σ2 k7 t6
end
end PD
end
section
set_option maxHeartbeats 0
namespace K02
open PySem PySem.Spec PyProof.Rows L2 PD
def top (i : Nat) : Stmt := PySem.Challenge.pw_landstack_k02_patches_between_texts.main.body.getD i (.Pass ⟨0, 0, 0, 0⟩)
def kv_SIGNS_OF_WORDS : List (Str × Str) := [("drop", "- "), ("add", "+ ")]
def kv_WORDS_OF_SIGNS : List (Str × Str) := [("- ", "drop"), ("+ ", "add")]
def kv_WORDS_BACK : List (Str × Str) := [("keep", "keep"), ("drop", "add"), ("add", "drop")]
end K02
end
section
set_option maxHeartbeats 0
/-! K02L: rows of lines, in plain Lean. -/
namespace K02
open PySem PD
/-- how long the longest common row is -/
def lcs : List Str → List Str → Nat
  | [], _ => 0
  | _ :: _, [] => 0
  | x :: xs, y :: ys => if x = y then lcs xs ys + 1 else max (lcs xs (y :: ys)) (lcs (x :: xs) ys)
termination_by xs ys => xs.length + ys.length
/-- the pairs that are found from the start, as told -/
def gw : List Str → List Str → Nat → Nat → List (Nat × Nat)
  | [], _, _, _ => []
  | _ :: _, [], _, _ => []
  | x :: xs, y :: ys, a, b => if x = y then (a, b) :: gw xs ys (a + 1) (b + 1) else if lcs xs (y :: ys) ≥ lcs (x :: xs) ys then gw xs (y :: ys) (a + 1) b else gw (x :: xs) ys a (b + 1)
termination_by xs ys => xs.length + ys.length
def asStrs : List D → Option (List Str)
  | [] => some []
  | .str z :: ds => (asStrs ds).map (z :: ·)
  | _ :: _ => none
def linesT (xs : List Str) : D := .tup (xs.map .str)
def pairD (p : Nat × Nat) : D := .tup [.int p.1, .int p.2]
def F__law_pairs : PD.Env → Option (Res D)
  | [.dat (.tup as), .dat (.tup bs)] => match asStrs as, asStrs bs with
    | some xs, some ys => if xs.length ≤ 1000 ∧ ys.length ≤ 1000 then some (.ok (.lst ((gw xs ys 0 0).map pairD)) [.non, .non]) else none
    | _, _ => none
  | _ => none
end K02
end
section
set_option maxHeartbeats 0
namespace K02
open PySem PySem.Spec PyProof.Rows L2 PD
section
variable {P : Program} {w : World} {K : PySem.W.Frag} {mg : Str → Option Value} {base : Heap} {tb : TBs} {ca : Str → Addr}
abbrev s_told : Stmt := top 23
theorem sc_told : FnScope ["what"] ["what"] (defScope s_told) := ⟨rfl, rfl, rfl, by decide +kernel, rfl, by decide +kernel, by decide +kernel⟩
abbrev s_common_rows : Stmt := top 9
abbrev N_common_rows : List Str := ["one", "other", "rows", "line", "below", "row", "place"]
theorem sc_common_rows : FnScope N_common_rows ["one", "other"] (defScope s_common_rows) := ⟨rfl, rfl, rfl, by decide +kernel, rfl, by decide +kernel, by decide +kernel⟩
def m_common_rows_b1 : MS :=
  (mIf (mTest (mOp dEq (rd 3) (mOp dIx (rd 1) (rd 6))))
    (mSetAtO 5 (mOp dAdd (mOp dIx (rd 4) (mOp dAdd (rd 6) (ret (.int 1)))) (ret (.int 1))) (rd 6))
    (mSetAtO 5 (mCb dMax2 (mArg (mOp dIx (rd 4) (rd 6)) (mArg (mIxO 5 (mOp dAdd (rd 6) (ret (.int 1)))) (ret [])))) (rd 6)))
def m_common_rows_b2 : MS :=
  (mSeq (mAsg (mIxO 2 (mUn dNeg (ret (.int 1)))) (setD 4))
    (mSeq (mSetO 5 (mOpO dRepL (mLstD (mArg (ret (.int 0)) (ret []))) (mOp dAdd (mCb dLen (mArg (rd 1) (ret []))) (ret (.int 1)))))
    (mSeq (mForE rg3 (mArg (mOp dSub (mCb dLen (mArg (rd 1) (ret []))) (ret (.int 1))) (mArg (mUn dNeg (ret (.int 1))) (mArg (mUn dNeg (ret (.int 1))) (ret [])))) (setD 6)
    m_common_rows_b1)
    (mDrop (mMeth 2 mdAppend (mArg (rd 5) (ret [])))))))
def m_common_rows : MS :=
  (mSeq (mSetO 2 (mLstO (mArg (mOp dMul (mLstD (mArg (ret (.int 0)) (ret []))) (mOp dAdd (mCb dLen (mArg (rd 1) (ret []))) (ret (.int 1)))) (ret []))))
    (mSeq (mForE elemsRev (rd 0) (setD 3)
    m_common_rows_b2)
    (mSeq (mDrop (mMeth 2 mdReverse (ret [])))
    (mRet (rd 2)))))
def F_common_rows : PD.Env → Option (Res D) := runF noPin 7 2 m_common_rows
theorem ok_common_rows {f : Addr} {fd : FuncData} (F : Fun K "common_rows" "common_rows" s_common_rows f fd) (gF : mg "common_rows" = some (.ref f)) (bF : Binds K fd ["one", "other"] []) (z_len : mg "len" = none) (z_max : mg "max" = none) (z_range : mg "range" = none) (z_reversed : mg "reversed" = none) :
    Cal P w K mg base tb ca "common_rows" 1 ["one", "other"] noPin F_common_rows f fd := by
  refine ⟨fn_pd (N := N_common_rows) (k := 0) F sc_common_rows fun cdv A outer s H E hr => ?_, gF, F.kp, bF⟩
  have nd : (N_common_rows).Nodup := sc_common_rows.nd
  have tk : Takes (cxOf (L2.CX P w) P w K mg base N_common_rows "common_rows" (defScope s_common_rows) f cdv A outer s H E) (wOf ca (ccOf K tb ca noPin E).xw) := takesB (L2.takes_of rfl rfl rfl rfl)
  skip
  exact ⟨_, (pss_cons (ps_set (i := 2) nd rfl (by first | exact Or.inl rfl | exact Or.inr rfl) (pe_lst (pa_cons (pe_op op_mulAll (pe_lst (pa_cons pe_int pa_nil)) (pe_op op_addAll (pe_callB call_len (by rfl) z_len PySem.boot_len (pa_cons (pv 1) pa_nil)) pe_int)) pa_nil)))
    (pss_cons (ps_for PassesOwn.leaving rfl (RT.pi_revA (by rfl) z_reversed (pv 0)) (pg_name (i := 3) nd rfl (by first | exact Or.inl rfl | exact Or.inr rfl))
    (pss_cons (ps_set (i := 4) nd rfl (by first | exact Or.inl rfl | exact Or.inr rfl) (pe_ix ix_seq (pv 2) (pe_un un_neg pe_int) (fun _ _ => rfl)))
    (pss_cons (ps_set (i := 5) nd rfl (by first | exact Or.inl rfl | exact Or.inr rfl) (pe_op op_mulAll (pe_lst (pa_cons pe_int pa_nil)) (pe_op op_addAll (pe_callB call_len (by rfl) z_len PySem.boot_len (pa_cons (pv 1) pa_nil)) pe_int)))
    (pss_cons (ps_for PassesOwn.leaving rfl (pi_range3 rfl z_range (pa_cons (pe_op op_sub (pe_callB call_len (by rfl) z_len PySem.boot_len (pa_cons (pv 1) pa_nil)) pe_int) (pa_cons (pe_un un_neg pe_int) (pa_cons (pe_un un_neg pe_int) pa_nil)))) (pg_name (i := 6) nd rfl (by first | exact Or.inl rfl | exact Or.inr rfl))
    (pss_one (ps_if (pt_cmpR (op_eqP hr.units) (pv 3) (pe_ix ix_seq (pv 1) (pv 6) (fun _ _ => rfl)) (nomark _))
    (pss_one (ps_asg (pe_op op_addAll (pe_ix ix_seq (pv 4) (pe_op op_addAll (pv 6) pe_int) (fun _ _ => rfl)) pe_int) (pg_sub (pv 5) (pv 6) set_list)))
    (pss_one (ps_asg (pe_callB (call_max2 rfl) (by rfl) z_max (by decide +kernel) (pa_cons (pe_ix ix_seq (pv 4) (pv 6) (fun _ _ => rfl)) (pa_cons (pe_ix ix_seq (pv 5) (pe_op op_addAll (pv 6) pe_int) (fun _ _ => rfl)) pa_nil))) (pg_sub (pv 5) (pv 6) set_list))))))
    (pss_one (ps_expr (pe_bm PySem.F.plainAttrs_list PySem.F.slot_list_append PySem.F.type_list_append mt_append (pv 2) (pa_cons (pv 5) pa_nil))))))))
    (pss_cons (ps_expr (pe_bm0 PySem.F.plainAttrs_list PySem.F.slot_list_reverse PySem.F.type_list_reverse mt_reverse (pv 2)))
    (pss_one (ps_ret (pv 2)))))),
    (ss_seq (ss_setO (i := 2) rfl (sf_lst (sa_cons (se_op rop_mul (se_lst (sa_cons (se_c fun _ => .int _) sa_nil)) (se_op rop_add (se_cb rca_len (sa_cons (se_var (i := 1) rfl) sa_nil)) (se_c fun _ => .int _))) sa_nil)))
    (ss_seq (ss_forRev (se_var (i := 0) rfl) (sg_name (i := 3) rfl)
    (ss_seq (ss_asg (se_ixO (i := 2) (se_un run_neg (se_c fun _ => .int _))) (sg_name (i := 4) rfl))
    (ss_seq (ss_setO (i := 5) rfl (sf_op own_rep (se_lst (sa_cons (se_c fun _ => .int _) sa_nil)) (se_op rop_add (se_cb rca_len (sa_cons (se_var (i := 1) rfl) sa_nil)) (se_c fun _ => .int _))))
    (ss_seq (ss_for3 (sa_cons (se_op rop_sub (se_cb rca_len (sa_cons (se_var (i := 1) rfl) sa_nil)) (se_c fun _ => .int _)) (sa_cons (se_un run_neg (se_c fun _ => .int _)) (sa_cons (se_un run_neg (se_c fun _ => .int _)) sa_nil))) (sg_name (i := 6) rfl)
    (ss_if (st_test (se_op rop_eq (se_var (i := 3) rfl) (se_op rop_ix (se_var (i := 1) rfl) (se_var (i := 6) rfl))))
    (ss_setAt (i := 5) (se_op rop_add (se_op rop_ix (se_var (i := 4) rfl) (se_op rop_add (se_var (i := 6) rfl) (se_c fun _ => .int _))) (se_c fun _ => .int _)) (se_var (i := 6) rfl))
    (ss_setAt (i := 5) (se_cb rca_max2 (sa_cons (se_op rop_ix (se_var (i := 4) rfl) (se_var (i := 6) rfl)) (sa_cons (se_ixO (i := 5) (se_op rop_add (se_var (i := 6) rfl) (se_c fun _ => .int _))) sa_nil))) (se_var (i := 6) rfl))))
    (ss_drop (se_meth (i := 2) rme_append (sa_cons (se_var (i := 5) rfl) sa_nil)))))))
    (ss_seq (ss_drop (se_meth0 (i := 2) rme_reverse))
    (ss_ret (se_var (i := 2) rfl)))))⟩
abbrev s_same_start : Stmt := top 10
abbrev N_same_start : List Str := ["one", "other", "many"]
theorem sc_same_start : FnScope N_same_start ["one", "other"] (defScope s_same_start) := ⟨rfl, rfl, rfl, by decide +kernel, rfl, by decide +kernel, by decide +kernel⟩
def m_same_start_t1 : MM Bool :=
  (mAnd (mTest (mOp dLt (rd 2) (mCb dLen (mArg (rd 0) (ret []))))) (mAnd (mTest (mOp dLt (rd 2) (mCb dLen (mArg (rd 1) (ret []))))) (mTest (mOp dEq (mOp dIx (rd 0) (rd 2)) (mOp dIx (rd 1) (rd 2))))))
def m_same_start_b1 : MS :=
  (mAug 2 dIpAdd (ret (.int 1)))
def m_same_start : MS :=
  (mSeq (mAsg (ret (.int 0)) (setD 2))
    (mSeq (mWhile (fun _ => 100000) m_same_start_t1 m_same_start_b1)
    (mRet (rd 2))))
def F_same_start : PD.Env → Option (Res D) := runF noPin 3 2 m_same_start
theorem ok_same_start {f : Addr} {fd : FuncData} (F : Fun K "same_start" "same_start" s_same_start f fd) (gF : mg "same_start" = some (.ref f)) (bF : Binds K fd ["one", "other"] []) (z_len : mg "len" = none) :
    Cal P w K mg base tb ca "same_start" 1 ["one", "other"] noPin F_same_start f fd := by
  refine ⟨fn_pd (N := N_same_start) (k := 0) F sc_same_start fun cdv A outer s H E hr => ?_, gF, F.kp, bF⟩
  have nd : (N_same_start).Nodup := sc_same_start.nd
  have tk : Takes (cxOf (L2.CX P w) P w K mg base N_same_start "same_start" (defScope s_same_start) f cdv A outer s H E) (wOf ca (ccOf K tb ca noPin E).xw) := takesB (L2.takes_of rfl rfl rfl rfl)
  skip
  exact ⟨_, (pss_cons (ps_set (i := 2) nd rfl (by first | exact Or.inl rfl | exact Or.inr rfl) pe_int)
    (pss_cons (ps_while PassesOwn.leaving (PW.pt (pw_and (pt_cmpR op_lt (pv 2) (pe_callB call_len (by rfl) z_len PySem.boot_len (pa_cons (pv 0) pa_nil)) (nomark _)) (pw_and (pt_cmpR op_lt (pv 2) (pe_callB call_len (by rfl) z_len PySem.boot_len (pa_cons (pv 1) pa_nil)) (nomark _)) (pw_and1 (pt_cmpR (op_eqP hr.units) (pe_ix ix_seq (pv 0) (pv 2) (fun _ _ => rfl)) (pe_ix ix_seq (pv 1) (pv 2) (fun _ _ => rfl)) (nomark _))))))
    (pss_one (ps_aug (i := 2) nd rfl (by first | exact Or.inl rfl | exact Or.inr rfl) pe_int ip_add)))
    (pss_one (ps_ret (pv 2))))),
    (ss_seq (ss_asg (se_c fun _ => .int _) (sg_name (i := 2) rfl))
    (ss_seq (ss_while (fuel := fun _ => 100000) (st_and (st_test (se_op rop_lt (se_var (i := 2) rfl) (se_cb rca_len (sa_cons (se_var (i := 0) rfl) sa_nil)))) (st_and (st_test (se_op rop_lt (se_var (i := 2) rfl) (se_cb rca_len (sa_cons (se_var (i := 1) rfl) sa_nil)))) (st_test (se_op rop_eq (se_op rop_ix (se_var (i := 0) rfl) (se_var (i := 2) rfl)) (se_op rop_ix (se_var (i := 1) rfl) (se_var (i := 2) rfl))))))
    (ss_aug (i := 2) rfl rop_ipadd (se_c fun _ => .int _)))
    (ss_ret (se_var (i := 2) rfl))))⟩
abbrev s_matches : Stmt := top 11
abbrev N_matches : List Str := ["one", "other", "start", "pairs", "place", "rows", "here", "there"]
theorem sc_matches : FnScope N_matches ["one", "other"] (defScope s_matches) := ⟨rfl, rfl, rfl, by decide +kernel, rfl, by decide +kernel, by decide +kernel⟩
def m_matches_e1 : MM D :=
  (mTupD (mArg (rd 4) (mArg (rd 4) (ret []))))
def m_matches_t1 : MM Bool :=
  (mAnd (mTest (mOp dLt (rd 6) (mCb dLen (mArg (rd 0) (ret []))))) (mTest (mOp dLt (rd 7) (mCb dLen (mArg (rd 1) (ret []))))))
def m_matches_b1 : MS :=
  (mIf (mTest (mOp dEq (mOp dIx (rd 0) (rd 6)) (mOp dIx (rd 1) (rd 7))))
    (mSeq (mDrop (mMeth 3 mdAppend (mArg (mTupD (mArg (rd 6) (mArg (rd 7) (ret [])))) (ret []))))
    (mSeq (mAug 6 dIpAdd (ret (.int 1)))
    (mAug 7 dIpAdd (ret (.int 1)))))
    (mIf (mTest (mOp dEq (mOp dIx (mOp dIx (rd 5) (mOp dAdd (mOp dSub (rd 6) (rd 2)) (ret (.int 1)))) (mOp dSub (rd 7) (rd 2))) (mOp dIx (mOp dIx (rd 5) (mOp dSub (rd 6) (rd 2))) (mOp dSub (rd 7) (rd 2)))))
    (mAug 6 dIpAdd (ret (.int 1)))
    (mAug 7 dIpAdd (ret (.int 1)))))
def m_matches : MS :=
  (mSeq (mAsg (mCall F_same_start (mArg (rd 0) (mArg (rd 1) (ret [])))) (setD 2))
    (mSeq (mSetO 3 (asO (mLc (mArg (rd 2) (ret [])) rg1 [4] (setD 4) (ret true) m_matches_e1)))
    (mSeq (mAsg (mCall F_common_rows (mArg (mSl (rd 0) (mPart (rd 2)) (ret none)) (mArg (mSl (rd 1) (mPart (rd 2)) (ret none)) (ret [])))) (setD 5))
    (mSeq (mPar 6 7 (mArg (rd 2) (mArg (rd 2) (ret []))))
    (mSeq (mWhile (fun _ => 100000) m_matches_t1 m_matches_b1)
    (mRet (mCb dTuple (mArg (rd 3) (ret [])))))))))
def F_matches : PD.Env → Option (Res D) := runF noPin 8 2 m_matches
theorem ok_matches {f : Addr} {fd : FuncData} (F : Fun K "matches" "matches" s_matches f fd) (gF : mg "matches" = some (.ref f)) (bF : Binds K fd ["one", "other"] []) (z_len : mg "len" = none) (z_range : mg "range" = none) (z_tuple : mg "tuple" = none) {f_same_start : Addr} {fd_same_start : FuncData} (C_same_start : Cal P w K mg base tb ca "same_start" 1 ["one", "other"] noPin F_same_start f_same_start fd_same_start) {f_common_rows : Addr} {fd_common_rows : FuncData} (C_common_rows : Cal P w K mg base tb ca "common_rows" 1 ["one", "other"] noPin F_common_rows f_common_rows fd_common_rows) :
    Cal P w K mg base tb ca "matches" 2 ["one", "other"] noPin F_matches f fd := by
  refine ⟨fn_pd (N := N_matches) (k := 1) F sc_matches fun cdv A outer s H E hr => ?_, gF, F.kp, bF⟩
  have nd : (N_matches).Nodup := sc_matches.nd
  have tk : Takes (cxOf (L2.CX P w) P w K mg base N_matches "matches" (defScope s_matches) f cdv A outer s H E) (wOf ca (ccOf K tb ca noPin E).xw) := takesB (L2.takes_of rfl rfl rfl rfl)
  skip
  exact ⟨_, (pss_cons (ps_set (i := 2) nd rfl (by first | exact Or.inl rfl | exact Or.inr rfl) (pe_callSD C_same_start.ok (hr.mono (by decide)) rfl C_same_start.g C_same_start.kp C_same_start.b .nil (fun σ => passAt tk σ) (pa_cons (pv 0) (pa_cons (pv 1) pa_nil))))
    (pss_cons (ps_setLc (i := 3) (own := [("place", 4)]) rfl nd rfl rfl (sw_true rfl rfl rfl (by decide +kernel)) (pi_range1 rfl z_range (pa_cons (pv 2) pa_nil)) (blkOk_by (N := N_matches) (sc := defScope s_matches) (by decide +kernel)) (fun _ _ _ _ _ => (pg_name (i := 4) nd rfl (by first | exact Or.inl rfl | exact Or.inr rfl))) (fun _ _ _ _ _ => pts_nil) (fun _ _ _ _ _ => (pe_tup (pa_cons (pv 4) (pa_cons (pv 4) pa_nil)))))
    (pss_cons (ps_set (i := 5) nd rfl (by first | exact Or.inl rfl | exact Or.inr rfl) (pe_callSD C_common_rows.ok (hr.mono (by decide)) rfl C_common_rows.g C_common_rows.kp C_common_rows.b .nil (fun σ => passAt tk σ) (pa_cons (pe_slice sl_all (pv 0) (po_some (pv 2)) po_none) (pa_cons (pe_slice sl_all (pv 1) (po_some (pv 2)) po_none) pa_nil))))
    (pss_cons (ps_par (i := 6) (j := 7) rfl nd rfl rfl (by decide) rfl rfl (pa_cons (pv 2) (pa_cons (pv 2) pa_nil)) (by rfl))
    (pss_cons (ps_while PassesOwn.leaving (PW.pt (pw_and (pt_cmpR op_lt (pv 6) (pe_callB call_len (by rfl) z_len PySem.boot_len (pa_cons (pv 0) pa_nil)) (nomark _)) (pw_and1 (pt_cmpR op_lt (pv 7) (pe_callB call_len (by rfl) z_len PySem.boot_len (pa_cons (pv 1) pa_nil)) (nomark _)))))
    (pss_one (ps_if (pt_cmpR (op_eqP hr.units) (pe_ix ix_seq (pv 0) (pv 6) (fun _ _ => rfl)) (pe_ix ix_seq (pv 1) (pv 7) (fun _ _ => rfl)) (nomark _))
    (pss_cons (ps_expr (pe_bm PySem.F.plainAttrs_list PySem.F.slot_list_append PySem.F.type_list_append mt_append (pv 3) (pa_cons (pe_tup (pa_cons (pv 6) (pa_cons (pv 7) pa_nil))) pa_nil)))
    (pss_cons (ps_aug (i := 6) nd rfl (by first | exact Or.inl rfl | exact Or.inr rfl) pe_int ip_add)
    (pss_one (ps_aug (i := 7) nd rfl (by first | exact Or.inl rfl | exact Or.inr rfl) pe_int ip_add))))
    (pss_one (ps_if (pt_cmpR (op_eqP hr.units) (pe_ix ix_seq (pe_ix ix_seq (pv 5) (pe_op op_addAll (pe_op op_sub (pv 6) (pv 2)) pe_int) (fun _ _ => rfl)) (pe_op op_sub (pv 7) (pv 2)) (fun _ _ => rfl)) (pe_ix ix_seq (pe_ix ix_seq (pv 5) (pe_op op_sub (pv 6) (pv 2)) (fun _ _ => rfl)) (pe_op op_sub (pv 7) (pv 2)) (fun _ _ => rfl)) (nomark _))
    (pss_one (ps_aug (i := 6) nd rfl (by first | exact Or.inl rfl | exact Or.inr rfl) pe_int ip_add))
    (pss_one (ps_aug (i := 7) nd rfl (by first | exact Or.inl rfl | exact Or.inr rfl) pe_int ip_add)))))))
    (pss_one (ps_ret (pe_callTy call_tuple_of (by rfl) z_tuple (by decide +kernel) (pa_cons (pv 3) pa_nil))))))))),
    (ss_seq (ss_asg (se_call (sa_cons (se_var (i := 0) rfl) (sa_cons (se_var (i := 1) rfl) sa_nil)) (ln_cons (ln_cons ln_nil))) (sg_name (i := 2) rfl))
    (ss_seq (ss_setO (i := 3) rfl (sf_lc1 (vs := [4]) ⟨(by decide : ([4] : List Nat).Nodup), (by decide : ∀ v ∈ ([4] : List Nat), noPin v = false)⟩ (sa_cons (se_var (i := 2) rfl) sa_nil) (sg_name (i := 4) rfl) (gw_name (by decide)) st_yes (se_tup (sa_cons (se_var (i := 4) rfl) (sa_cons (se_var (i := 4) rfl) sa_nil)))))
    (ss_seq (ss_asg (se_call (sa_cons (se_sl (se_var (i := 0) rfl) (so_some (se_var (i := 2) rfl)) so_none) (sa_cons (se_sl (se_var (i := 1) rfl) (so_some (se_var (i := 2) rfl)) so_none) sa_nil)) (ln_cons (ln_cons ln_nil))) (sg_name (i := 5) rfl))
    (ss_seq (ss_par (i := 6) (j := 7) rfl rfl (sa_cons (se_var (i := 2) rfl) (sa_cons (se_var (i := 2) rfl) sa_nil)))
    (ss_seq (ss_while (fuel := fun _ => 100000) (st_and (st_test (se_op rop_lt (se_var (i := 6) rfl) (se_cb rca_len (sa_cons (se_var (i := 0) rfl) sa_nil)))) (st_test (se_op rop_lt (se_var (i := 7) rfl) (se_cb rca_len (sa_cons (se_var (i := 1) rfl) sa_nil)))))
    (ss_if (st_test (se_op rop_eq (se_op rop_ix (se_var (i := 0) rfl) (se_var (i := 6) rfl)) (se_op rop_ix (se_var (i := 1) rfl) (se_var (i := 7) rfl))))
    (ss_seq (ss_drop (se_meth (i := 3) rme_append (sa_cons (se_tup (sa_cons (se_var (i := 6) rfl) (sa_cons (se_var (i := 7) rfl) sa_nil))) sa_nil)))
    (ss_seq (ss_aug (i := 6) rfl rop_ipadd (se_c fun _ => .int _))
    (ss_aug (i := 7) rfl rop_ipadd (se_c fun _ => .int _))))
    (ss_if (st_test (se_op rop_eq (se_op rop_ix (se_op rop_ix (se_var (i := 5) rfl) (se_op rop_add (se_op rop_sub (se_var (i := 6) rfl) (se_var (i := 2) rfl)) (se_c fun _ => .int _))) (se_op rop_sub (se_var (i := 7) rfl) (se_var (i := 2) rfl))) (se_op rop_ix (se_op rop_ix (se_var (i := 5) rfl) (se_op rop_sub (se_var (i := 6) rfl) (se_var (i := 2) rfl))) (se_op rop_sub (se_var (i := 7) rfl) (se_var (i := 2) rfl)))))
    (ss_aug (i := 6) rfl rop_ipadd (se_c fun _ => .int _))
    (ss_aug (i := 7) rfl rop_ipadd (se_c fun _ => .int _)))))
    (ss_ret (se_cb rca_tuple (sa_cons (se_var (i := 3) rfl) sa_nil))))))))⟩
abbrev s_patch_between : Stmt := top 12
abbrev N_patch_between : List Str := ["one", "other", "rows", "kept", "here", "there", "old", "new"]
theorem sc_patch_between : FnScope N_patch_between ["one", "other"] (defScope s_patch_between) := ⟨rfl, rfl, rfl, by decide +kernel, rfl, by decide +kernel, by decide +kernel⟩
def m_patch_between_b1 : MS :=
  (mSeq (mIf (mAnd (mTest (mOp dGt (rd 3) (ret (.int 0)))) (mOr (mTest (mOp dLt (rd 4) (rd 6))) (mTest (mOp dLt (rd 5) (rd 7)))))
    (mSeq (mDrop (mMeth 2 mdAppend (mArg (mTupD (mArg (ret (.str "keep")) (mArg (rd 3) (ret [])))) (ret []))))
    (mAsg (ret (.int 0)) (setD 3)))
    mNext)
    (mSeq (mIf (mTest (mOp dLt (rd 4) (rd 6)))
    (mDrop (mMeth 2 mdAppend (mArg (mTupD (mArg (ret (.str "drop")) (mArg (mCb dTuple (mArg (mSl (rd 0) (mPart (rd 4)) (mPart (rd 6))) (ret []))) (ret [])))) (ret []))))
    mNext)
    (mSeq (mIf (mTest (mOp dLt (rd 5) (rd 7)))
    (mDrop (mMeth 2 mdAppend (mArg (mTupD (mArg (ret (.str "add")) (mArg (mCb dTuple (mArg (mSl (rd 1) (mPart (rd 5)) (mPart (rd 7))) (ret []))) (ret [])))) (ret []))))
    mNext)
    (mPar3 3 4 5 (mArg (mOp dAdd (rd 3) (ret (.int 1))) (mArg (mOp dAdd (rd 6) (ret (.int 1))) (mArg (mOp dAdd (rd 7) (ret (.int 1))) (ret []))))))))
def m_patch_between : MS :=
  (mSeq (mSetO 2 (mLstO (ret [])))
    (mSeq (mAsg (mTupD (mArg (ret (.int 0)) (mArg (ret (.int 0)) (mArg (ret (.int 0)) (ret []))))) (setTup 3 (setCons (setD 3) (setCons (setD 4) (setCons (setD 5) setNil)))))
    (mSeq (mFor (mLstD (mStar (mCall F_matches (mArg (rd 0) (mArg (rd 1) (ret [])))) (mArg (mTupD (mArg (mCb dLen (mArg (rd 0) (ret []))) (mArg (mCb dLen (mArg (rd 1) (ret []))) (ret [])))) (ret [])))) (setTup 2 (setCons (setD 6) (setCons (setD 7) setNil)))
    m_patch_between_b1)
    (mSeq (mIf (mTest (mOp dGt (rd 3) (ret (.int 1))))
    (mDrop (mMeth 2 mdAppend (mArg (mTupD (mArg (ret (.str "keep")) (mArg (mOp dSub (rd 3) (ret (.int 1))) (ret [])))) (ret []))))
    mNext)
    (mRet (mCb dTuple (mArg (rd 2) (ret []))))))))
def F_patch_between : PD.Env → Option (Res D) := runF noPin 8 2 m_patch_between
theorem ok_patch_between {f : Addr} {fd : FuncData} (F : Fun K "patch_between" "patch_between" s_patch_between f fd) (gF : mg "patch_between" = some (.ref f)) (bF : Binds K fd ["one", "other"] []) (z_len : mg "len" = none) (z_tuple : mg "tuple" = none) {f_matches : Addr} {fd_matches : FuncData} (C_matches : Cal P w K mg base tb ca "matches" 2 ["one", "other"] noPin F_matches f_matches fd_matches) :
    Cal P w K mg base tb ca "patch_between" 3 ["one", "other"] noPin F_patch_between f fd := by
  refine ⟨fn_pd (N := N_patch_between) (k := 2) F sc_patch_between fun cdv A outer s H E hr => ?_, gF, F.kp, bF⟩
  have nd : (N_patch_between).Nodup := sc_patch_between.nd
  have tk : Takes (cxOf (L2.CX P w) P w K mg base N_patch_between "patch_between" (defScope s_patch_between) f cdv A outer s H E) (wOf ca (ccOf K tb ca noPin E).xw) := takesB (L2.takes_of rfl rfl rfl rfl)
  skip
  exact ⟨_, (pss_cons (ps_set (i := 2) nd rfl (by first | exact Or.inl rfl | exact Or.inr rfl) (pe_lst pa_nil))
    (pss_cons (ps_asg (pe_tup (pa_cons pe_int (pa_cons pe_int (pa_cons pe_int pa_nil)))) (pg_tup rfl (pgs_cons (pg_name (i := 3) nd rfl (by first | exact Or.inl rfl | exact Or.inr rfl)) (pgs_cons (pg_name (i := 4) nd rfl (by first | exact Or.inl rfl | exact Or.inr rfl)) (pgs_cons (pg_name (i := 5) nd rfl (by first | exact Or.inl rfl | exact Or.inr rfl)) pgs_nil)))))
    (pss_cons (ps_for PassesOwn.leaving rfl (pi_seq (pe_lst (StX.pa_star (pe_callSD C_matches.ok (hr.mono (by decide)) rfl C_matches.g C_matches.kp C_matches.b .nil (fun σ => passAt tk σ) (pa_cons (pv 0) (pa_cons (pv 1) pa_nil))) (pa_cons (pe_tup (pa_cons (pe_callB call_len (by rfl) z_len PySem.boot_len (pa_cons (pv 0) pa_nil)) (pa_cons (pe_callB call_len (by rfl) z_len PySem.boot_len (pa_cons (pv 1) pa_nil)) pa_nil))) pa_nil)))) (pg_tup rfl (pgs_cons (pg_name (i := 6) nd rfl (by first | exact Or.inl rfl | exact Or.inr rfl)) (pgs_cons (pg_name (i := 7) nd rfl (by first | exact Or.inl rfl | exact Or.inr rfl)) pgs_nil)))
    (pss_cons (ps_if (PW.pt (pw_and (pt_cmpR op_gt (pv 3) pe_int (nomark _)) (pw_and1 (PW.pt (pw_or (pt_cmpR op_lt (pv 4) (pv 6) (nomark _)) (pw_or1 (pt_cmpR op_lt (pv 5) (pv 7) (nomark _))))))))
    (pss_cons (ps_expr (pe_bm PySem.F.plainAttrs_list PySem.F.slot_list_append PySem.F.type_list_append mt_append (pv 2) (pa_cons (pe_tup (pa_cons pe_str (pa_cons (pv 3) pa_nil))) pa_nil)))
    (pss_one (ps_set (i := 3) nd rfl (by first | exact Or.inl rfl | exact Or.inr rfl) pe_int)))
    pss_nil)
    (pss_cons (ps_if (pt_cmpR op_lt (pv 4) (pv 6) (nomark _))
    (pss_one (ps_expr (pe_bm PySem.F.plainAttrs_list PySem.F.slot_list_append PySem.F.type_list_append mt_append (pv 2) (pa_cons (pe_tup (pa_cons pe_str (pa_cons (pe_callTy call_tuple_of (by rfl) z_tuple (by decide +kernel) (pa_cons (pe_slice sl_all (pv 0) (po_some (pv 4)) (po_some (pv 6))) pa_nil)) pa_nil))) pa_nil))))
    pss_nil)
    (pss_cons (ps_if (pt_cmpR op_lt (pv 5) (pv 7) (nomark _))
    (pss_one (ps_expr (pe_bm PySem.F.plainAttrs_list PySem.F.slot_list_append PySem.F.type_list_append mt_append (pv 2) (pa_cons (pe_tup (pa_cons pe_str (pa_cons (pe_callTy call_tuple_of (by rfl) z_tuple (by decide +kernel) (pa_cons (pe_slice sl_all (pv 1) (po_some (pv 5)) (po_some (pv 7))) pa_nil)) pa_nil))) pa_nil))))
    pss_nil)
    (pss_one (ps_par3 (i := 3) (j := 4) (l := 5) rfl nd rfl rfl rfl (by decide) (by decide) (by decide) rfl rfl rfl (pa_cons (pe_op op_addAll (pv 3) pe_int) (pa_cons (pe_op op_addAll (pv 6) pe_int) (pa_cons (pe_op op_addAll (pv 7) pe_int) pa_nil))) (by rfl)))))))
    (pss_cons (ps_if (pt_cmpR op_gt (pv 3) pe_int (nomark _))
    (pss_one (ps_expr (pe_bm PySem.F.plainAttrs_list PySem.F.slot_list_append PySem.F.type_list_append mt_append (pv 2) (pa_cons (pe_tup (pa_cons pe_str (pa_cons (pe_op op_sub (pv 3) pe_int) pa_nil))) pa_nil))))
    pss_nil)
    (pss_one (ps_ret (pe_callTy call_tuple_of (by rfl) z_tuple (by decide +kernel) (pa_cons (pv 2) pa_nil)))))))),
    (ss_seq (ss_setO (i := 2) rfl (sf_lst sa_nil))
    (ss_seq (ss_asg (se_tup (sa_cons (se_c fun _ => .int _) (sa_cons (se_c fun _ => .int _) (sa_cons (se_c fun _ => .int _) sa_nil)))) (sg_tup (n := 3) (sgs_cons (sg_name (i := 3) rfl) (sgs_cons (sg_name (i := 4) rfl) (sgs_cons (sg_name (i := 5) rfl) sgs_nil)))))
    (ss_seq (ss_forL (se_lst (sa_star (se_call (sa_cons (se_var (i := 0) rfl) (sa_cons (se_var (i := 1) rfl) sa_nil)) (ln_cons (ln_cons ln_nil))) (sa_cons (se_tup (sa_cons (se_cb rca_len (sa_cons (se_var (i := 0) rfl) sa_nil)) (sa_cons (se_cb rca_len (sa_cons (se_var (i := 1) rfl) sa_nil)) sa_nil))) sa_nil))) (sg_tup (n := 2) (sgs_cons (sg_name (i := 6) rfl) (sgs_cons (sg_name (i := 7) rfl) sgs_nil)))
    (ss_seq (ss_if (st_and (st_test (se_op rop_gt (se_var (i := 3) rfl) (se_c fun _ => .int _))) (st_or (st_test (se_op rop_lt (se_var (i := 4) rfl) (se_var (i := 6) rfl))) (st_test (se_op rop_lt (se_var (i := 5) rfl) (se_var (i := 7) rfl)))))
    (ss_seq (ss_drop (se_meth (i := 2) rme_append (sa_cons (se_tup (sa_cons (se_c fun _ => .str _) (sa_cons (se_var (i := 3) rfl) sa_nil))) sa_nil)))
    (ss_asg (se_c fun _ => .int _) (sg_name (i := 3) rfl)))
    ss_next)
    (ss_seq (ss_if (st_test (se_op rop_lt (se_var (i := 4) rfl) (se_var (i := 6) rfl)))
    (ss_drop (se_meth (i := 2) rme_append (sa_cons (se_tup (sa_cons (se_c fun _ => .str _) (sa_cons (se_cb rca_tuple (sa_cons (se_sl (se_var (i := 0) rfl) (so_some (se_var (i := 4) rfl)) (so_some (se_var (i := 6) rfl))) sa_nil)) sa_nil))) sa_nil)))
    ss_next)
    (ss_seq (ss_if (st_test (se_op rop_lt (se_var (i := 5) rfl) (se_var (i := 7) rfl)))
    (ss_drop (se_meth (i := 2) rme_append (sa_cons (se_tup (sa_cons (se_c fun _ => .str _) (sa_cons (se_cb rca_tuple (sa_cons (se_sl (se_var (i := 1) rfl) (so_some (se_var (i := 5) rfl)) (so_some (se_var (i := 7) rfl))) sa_nil)) sa_nil))) sa_nil)))
    ss_next)
    (ss_par3 (i := 3) (j := 4) (l := 5) rfl rfl rfl (sa_cons (se_op rop_add (se_var (i := 3) rfl) (se_c fun _ => .int _)) (sa_cons (se_op rop_add (se_var (i := 6) rfl) (se_c fun _ => .int _)) (sa_cons (se_op rop_add (se_var (i := 7) rfl) (se_c fun _ => .int _)) sa_nil))))))))
    (ss_seq (ss_if (st_test (se_op rop_gt (se_var (i := 3) rfl) (se_c fun _ => .int _)))
    (ss_drop (se_meth (i := 2) rme_append (sa_cons (se_tup (sa_cons (se_c fun _ => .str _) (sa_cons (se_op rop_sub (se_var (i := 3) rfl) (se_c fun _ => .int _)) sa_nil))) sa_nil)))
    ss_next)
    (ss_ret (se_cb rca_tuple (sa_cons (se_var (i := 2) rfl) sa_nil)))))))⟩
abbrev s_apply_patch : Stmt := top 13
abbrev N_apply_patch : List Str := ["lines", "patch", "found", "place", "word", "value", "many", "here"]
theorem sc_apply_patch : FnScope N_apply_patch ["lines", "patch"] (defScope s_apply_patch) := ⟨rfl, rfl, rfl, by decide +kernel, rfl, by decide +kernel, by decide +kernel⟩
def m_apply_patch_b1 : MS :=
  (mSeq (mIf (mTest (mOp dEq (rd 4) (ret (.str "add"))))
    (mSeq (mDrop (mMeth 2 mdExtend (mArg (rd 5) (ret []))))
    mCont)
    mNext)
    (mSeq (mAsg (mIfE (mTest (mOp dEq (rd 4) (ret (.str "keep")))) (rd 5) (mCb dLen (mArg (rd 5) (ret [])))) (setD 6))
    (mSeq (mAsg (mCb dTuple (mArg (mSl (rd 0) (mPart (rd 3)) (mPart (mOp dAdd (rd 3) (rd 6)))) (ret []))) (setD 7))
    (mSeq (mIf (mOr (mTest (mOp dGt (mOp dAdd (rd 3) (rd 6)) (mCb dLen (mArg (rd 0) (ret []))))) (mAnd (mTest (mOp dEq (rd 4) (ret (.str "drop")))) (mTest (mOp dNe (rd 7) (mCb dTuple (mArg (rd 5) (ret [])))))))
    (mRaiseE "PatchError" (joinM [(ret (.str "a patch does not fit at line ")), (mUn dFmt (rd 3))] Str.empty))
    mNext)
    (mSeq (mIf (mTest (mOp dEq (rd 4) (ret (.str "keep"))))
    (mDrop (mMeth 2 mdExtend (mArg (rd 7) (ret []))))
    mNext)
    (mAug 3 dIpAdd (rd 6)))))))
def m_apply_patch : MS :=
  (mSeq (mSetO 2 (mLstO (ret [])))
    (mSeq (mAsg (ret (.int 0)) (setD 3))
    (mSeq (mFor (rd 1) (setTup 2 (setCons (setD 4) (setCons (setD 5) setNil)))
    m_apply_patch_b1)
    (mSeq (mIf (mTest (mOp dNe (rd 3) (mCb dLen (mArg (rd 0) (ret [])))))
    (mRaiseE "PatchError" (ret (.str "a patch ends too early")))
    mNext)
    (mRet (mCb dTuple (mArg (rd 2) (ret []))))))))
def F_apply_patch : PD.Env → Option (Res D) := runF noPin 8 2 m_apply_patch
theorem ok_apply_patch {f : Addr} {fd : FuncData} (F : Fun K "apply_patch" "apply_patch" s_apply_patch f fd) (gF : mg "apply_patch" = some (.ref f)) (bF : Binds K fd ["lines", "patch"] []) (z_len : mg "len" = none) (z_tuple : mg "tuple" = none) (X_PatchError : ExcC K mg ca "PatchError") :
    Cal P w K mg base tb ca "apply_patch" 1 ["lines", "patch"] noPin F_apply_patch f fd := by
  refine ⟨fn_pd (N := N_apply_patch) (k := 0) F sc_apply_patch fun cdv A outer s H E hr => ?_, gF, F.kp, bF⟩
  have nd : (N_apply_patch).Nodup := sc_apply_patch.nd
  have tk : Takes (cxOf (L2.CX P w) P w K mg base N_apply_patch "apply_patch" (defScope s_apply_patch) f cdv A outer s H E) (wOf ca (ccOf K tb ca noPin E).xw) := takesB (L2.takes_of rfl rfl rfl rfl)
  skip
  exact ⟨_, (pss_cons (ps_set (i := 2) nd rfl (by first | exact Or.inl rfl | exact Or.inr rfl) (pe_lst pa_nil))
    (pss_cons (ps_set (i := 3) nd rfl (by first | exact Or.inl rfl | exact Or.inr rfl) pe_int)
    (pss_cons (ps_for PassesOwn.leaving rfl (pi_seq (pv 1)) (pg_tup rfl (pgs_cons (pg_name (i := 4) nd rfl (by first | exact Or.inl rfl | exact Or.inr rfl)) (pgs_cons (pg_name (i := 5) nd rfl (by first | exact Or.inl rfl | exact Or.inr rfl)) pgs_nil)))
    (pss_cons (ps_if (pt_cmpR (op_eqP hr.units) (pv 4) pe_str (nomark _))
    (pss_cons (ps_expr (pe_bm PySem.F.plainAttrs_list PySem.F.slot_list_extend PySem.F.type_list_extend mt_extendA (pv 2) (pa_cons (pv 5) pa_nil)))
    (pss_one ps_continue))
    pss_nil)
    (pss_cons (ps_set (i := 6) nd rfl (by first | exact Or.inl rfl | exact Or.inr rfl) (pe_ifExp (pt_cmpR (op_eqP hr.units) (pv 4) pe_str (nomark _)) (pv 5) (pe_callB call_len (by rfl) z_len PySem.boot_len (pa_cons (pv 5) pa_nil))))
    (pss_cons (ps_set (i := 7) nd rfl (by first | exact Or.inl rfl | exact Or.inr rfl) (pe_callTy call_tuple_of (by rfl) z_tuple (by decide +kernel) (pa_cons (pe_slice sl_all (pv 0) (po_some (pv 3)) (po_some (pe_op op_addAll (pv 3) (pv 6)))) pa_nil)))
    (pss_cons (ps_if (PW.pt (pw_or (pt_cmpR op_gt (pe_op op_addAll (pv 3) (pv 6)) (pe_callB call_len (by rfl) z_len PySem.boot_len (pa_cons (pv 0) pa_nil)) (nomark _)) (pw_or1 (PW.pt (pw_and (pt_cmpR (op_eqP hr.units) (pv 4) pe_str (nomark _)) (pw_and1 (pt_cmpR (op_neP hr.units) (pv 7) (pe_callTy call_tuple_of (by rfl) z_tuple (by decide +kernel) (pa_cons (pv 5) pa_nil)) (nomark _))))))))
    (pss_one (ps_raise rfl tk (SkE.pmk_own1 PySem.F.excBase_ValueError X_PatchError.ex X_PatchError.g X_PatchError.kp (raises_own X_PatchError.sub X_PatchError.ty) rfl (pe_joined (.cons pe_str (.cons (pe_fmt (pv 3)) .nil))))))
    pss_nil)
    (pss_cons (ps_if (pt_cmpR (op_eqP hr.units) (pv 4) pe_str (nomark _))
    (pss_one (ps_expr (pe_bm PySem.F.plainAttrs_list PySem.F.slot_list_extend PySem.F.type_list_extend mt_extendA (pv 2) (pa_cons (pv 7) pa_nil))))
    pss_nil)
    (pss_one (ps_aug (i := 3) nd rfl (by first | exact Or.inl rfl | exact Or.inr rfl) (pv 6) ip_add))))))))
    (pss_cons (ps_if (pt_cmpR (op_neP hr.units) (pv 3) (pe_callB call_len (by rfl) z_len PySem.boot_len (pa_cons (pv 0) pa_nil)) (nomark _))
    (pss_one (ps_raise rfl tk (SkE.pmk_own1 PySem.F.excBase_ValueError X_PatchError.ex X_PatchError.g X_PatchError.kp (raises_own X_PatchError.sub X_PatchError.ty) rfl pe_str)))
    pss_nil)
    (pss_one (ps_ret (pe_callTy call_tuple_of (by rfl) z_tuple (by decide +kernel) (pa_cons (pv 2) pa_nil)))))))),
    (ss_seq (ss_setO (i := 2) rfl (sf_lst sa_nil))
    (ss_seq (ss_asg (se_c fun _ => .int _) (sg_name (i := 3) rfl))
    (ss_seq (ss_forL (se_var (i := 1) rfl) (sg_tup (n := 2) (sgs_cons (sg_name (i := 4) rfl) (sgs_cons (sg_name (i := 5) rfl) sgs_nil)))
    (ss_seq (ss_if (st_test (se_op rop_eq (se_var (i := 4) rfl) (se_c fun _ => .str _)))
    (ss_seq (ss_drop (se_meth (i := 2) rme_extend (sa_cons (se_var (i := 5) rfl) sa_nil)))
    ss_cont)
    ss_next)
    (ss_seq (ss_asg (se_if (st_test (se_op rop_eq (se_var (i := 4) rfl) (se_c fun _ => .str _))) (se_var (i := 5) rfl) (se_cb rca_len (sa_cons (se_var (i := 5) rfl) sa_nil))) (sg_name (i := 6) rfl))
    (ss_seq (ss_asg (se_cb rca_tuple (sa_cons (se_sl (se_var (i := 0) rfl) (so_some (se_var (i := 3) rfl)) (so_some (se_op rop_add (se_var (i := 3) rfl) (se_var (i := 6) rfl)))) sa_nil)) (sg_name (i := 7) rfl))
    (ss_seq (ss_if (st_or (st_test (se_op rop_gt (se_op rop_add (se_var (i := 3) rfl) (se_var (i := 6) rfl)) (se_cb rca_len (sa_cons (se_var (i := 0) rfl) sa_nil)))) (st_and (st_test (se_op rop_eq (se_var (i := 4) rfl) (se_c fun _ => .str _))) (st_test (se_op rop_ne (se_var (i := 7) rfl) (se_cb rca_tuple (sa_cons (se_var (i := 5) rfl) sa_nil))))))
    (ss_raiseE (x := "PatchError") (se_joined (.cons (se_c fun _ => .str _) (.cons (se_fmt (se_var (i := 3) rfl)) .nil))))
    ss_next)
    (ss_seq (ss_if (st_test (se_op rop_eq (se_var (i := 4) rfl) (se_c fun _ => .str _)))
    (ss_drop (se_meth (i := 2) rme_extend (sa_cons (se_var (i := 7) rfl) sa_nil)))
    ss_next)
    (ss_aug (i := 3) rfl rop_ipadd (se_var (i := 6) rfl))))))))
    (ss_seq (ss_if (st_test (se_op rop_ne (se_var (i := 3) rfl) (se_cb rca_len (sa_cons (se_var (i := 0) rfl) sa_nil))))
    (ss_raiseE (x := "PatchError") (se_c fun _ => .str _))
    ss_next)
    (ss_ret (se_cb rca_tuple (sa_cons (se_var (i := 2) rfl) sa_nil)))))))⟩
abbrev s_turned : Stmt := top 14
abbrev N_turned : List Str := ["patch", "rows", "word", "value"]
theorem sc_turned : FnScope N_turned ["patch"] (defScope s_turned) := ⟨rfl, rfl, rfl, by decide +kernel, rfl, by decide +kernel, by decide +kernel⟩
def m_turned_b1 : MS :=
  (mIf (mAnd (mTest (mOp dEq (rd 2) (ret (.str "add")))) (mAnd (mTruO 1) (mTest (mOp dEq (mOp dIx (mIxO 1 (mUn dNeg (ret (.int 1)))) (ret (.int 0))) (ret (.str "add"))))))
    (mDrop (mMeth 1 mdInsert (mArg (mOp dSub (mLenO 1) (ret (.int 1))) (mArg (mTupD (mArg (ret (.str "drop")) (mArg (rd 3) (ret [])))) (ret [])))))
    (mDrop (mMeth 1 mdAppend (mArg (mTupD (mArg (mUn (dWGet kv_WORDS_BACK) (rd 2)) (mArg (rd 3) (ret [])))) (ret [])))))
def m_turned : MS :=
  (mSeq (mSetO 1 (mLstO (ret [])))
    (mSeq (mFor (rd 0) (setTup 2 (setCons (setD 2) (setCons (setD 3) setNil)))
    m_turned_b1)
    (mRet (mCb dTuple (mArg (rd 1) (ret []))))))
def F_turned : PD.Env → Option (Res D) := runF noPin 4 1 m_turned
theorem ok_turned {f : Addr} {fd : FuncData} (F : Fun K "turned" "turned" s_turned f fd) (gF : mg "turned" = some (.ref f)) (bF : Binds K fd ["patch"] []) (z_len : mg "len" = none) (z_tuple : mg "tuple" = none) {a_WORDS_BACK : Addr} (W_WORDS_BACK : WDic K w mg "WORDS_BACK" a_WORDS_BACK kv_WORDS_BACK) :
    Cal P w K mg base tb ca "turned" 1 ["patch"] noPin F_turned f fd := by
  refine ⟨fn_pd (N := N_turned) (k := 0) F sc_turned fun cdv A outer s H E hr => ?_, gF, F.kp, bF⟩
  have nd : (N_turned).Nodup := sc_turned.nd
  obtain ⟨es_WORDS_BACK, n_WORDS_BACK, D_WORDS_BACK⟩ := W_WORDS_BACK.kd
  have tk : Takes (cxOf (L2.CX P w) P w K mg base N_turned "turned" (defScope s_turned) f cdv A outer s H E) (wOf ca (ccOf K tb ca noPin E).xw) := takesB (L2.takes_of rfl rfl rfl rfl)
  skip
  exact ⟨_, (pss_cons (ps_set (i := 1) nd rfl (by first | exact Or.inl rfl | exact Or.inr rfl) (pe_lst pa_nil))
    (pss_cons (ps_for PassesOwn.leaving rfl (pi_seq (pv 0)) (pg_tup rfl (pgs_cons (pg_name (i := 2) nd rfl (by first | exact Or.inl rfl | exact Or.inr rfl)) (pgs_cons (pg_name (i := 3) nd rfl (by first | exact Or.inl rfl | exact Or.inr rfl)) pgs_nil)))
    (pss_one (ps_if (PW.pt (pw_and (pt_cmpR (op_eqP hr.units) (pv 2) pe_str (nomark _)) (pw_and (pt_truth (pv 1) (by intro _; rfl)) (pw_and1 (pt_cmpR (op_eqP hr.units) (pe_ix ix_seq (pe_ix ix_seq (pv 1) (pe_un un_neg pe_int) (fun _ _ => rfl)) pe_int (fun _ _ => rfl)) pe_str (nomark _))))))
    (pss_one (ps_expr (pe_bm PySem.F.plainAttrs_list PySem.F.slot_list_insert PySem.F.type_list_insert mt_insert (pv 1) (pa_cons (pe_op op_sub (pe_callB call_len (by rfl) z_len PySem.boot_len (pa_cons (pv 1) pa_nil)) pe_int) (pa_cons (pe_tup (pa_cons pe_str (pa_cons (pv 3) pa_nil))) pa_nil)))))
    (pss_one (ps_expr (pe_bm PySem.F.plainAttrs_list PySem.F.slot_list_append PySem.F.type_list_append mt_append (pv 1) (pa_cons (pe_tup (pa_cons (pe_ix ix_kdict (pe_glob (v := .ref a_WORDS_BACK) rfl W_WORDS_BACK.g rfl) (pv 2) (fun _ _ => rfl)) (pa_cons (pv 3) pa_nil))) pa_nil)))))))
    (pss_one (ps_ret (pe_callTy call_tuple_of (by rfl) z_tuple (by decide +kernel) (pa_cons (pv 1) pa_nil)))))),
    (ss_seq (ss_setO (i := 1) rfl (sf_lst sa_nil))
    (ss_seq (ss_forL (se_var (i := 0) rfl) (sg_tup (n := 2) (sgs_cons (sg_name (i := 2) rfl) (sgs_cons (sg_name (i := 3) rfl) sgs_nil)))
    (ss_if (st_and (st_test (se_op rop_eq (se_var (i := 2) rfl) (se_c fun _ => .str _))) (st_and (st_truO (i := 1)) (st_test (se_op rop_eq (se_op rop_ix (se_ixO (i := 1) (se_un run_neg (se_c fun _ => .int _))) (se_c fun _ => .int _)) (se_c fun _ => .str _)))))
    (ss_drop (se_meth (i := 1) rme_insert (sa_cons (se_op rop_sub (se_lenO (i := 1)) (se_c fun _ => .int _)) (sa_cons (se_tup (sa_cons (se_c fun _ => .str _) (sa_cons (se_var (i := 3) rfl) sa_nil))) sa_nil))))
    (ss_drop (se_meth (i := 1) rme_append (sa_cons (se_tup (sa_cons (se_wget W_WORDS_BACK (se_var (i := 2) rfl)) (sa_cons (se_var (i := 3) rfl) sa_nil))) sa_nil)))))
    (ss_ret (se_cb rca_tuple (sa_cons (se_var (i := 1) rfl) sa_nil)))))⟩
abbrev s_patch_text : Stmt := top 15
abbrev N_patch_text : List Str := ["patch", "lines", "word", "value", "line"]
theorem sc_patch_text : FnScope N_patch_text ["patch"] (defScope s_patch_text) := ⟨rfl, rfl, rfl, by decide +kernel, rfl, by decide +kernel, by decide +kernel⟩
def m_patch_text_e1 : MM D :=
  (mOp dAdd (mUn (dWGet kv_SIGNS_OF_WORDS) (rd 2)) (rd 4))
def m_patch_text_b1 : MS :=
  (mIf (mTest (mOp dEq (rd 2) (ret (.str "keep"))))
    (mDrop (mMeth 1 mdAppend (mArg (joinM [(ret (.str "= ")), (mUn dFmt (rd 3))] Str.empty) (ret []))))
    (mDrop (mMeth 1 mdExtend (mArg (asL (mLc (rd 3) elems [4] (setD 4) (ret true) m_patch_text_e1)) (ret [])))))
def m_patch_text : MS :=
  (mSeq (mSetO 1 (mLstO (ret [])))
    (mSeq (mFor (rd 0) (setTup 2 (setCons (setD 2) (setCons (setD 3) setNil)))
    m_patch_text_b1)
    (mRet (mCb dTuple (mArg (rd 1) (ret []))))))
def F_patch_text : PD.Env → Option (Res D) := runF noPin 5 1 m_patch_text
theorem ok_patch_text {f : Addr} {fd : FuncData} (F : Fun K "patch_text" "patch_text" s_patch_text f fd) (gF : mg "patch_text" = some (.ref f)) (bF : Binds K fd ["patch"] []) (z_tuple : mg "tuple" = none) {a_SIGNS_OF_WORDS : Addr} (W_SIGNS_OF_WORDS : WDic K w mg "SIGNS_OF_WORDS" a_SIGNS_OF_WORDS kv_SIGNS_OF_WORDS) :
    Cal P w K mg base tb ca "patch_text" 1 ["patch"] noPin F_patch_text f fd := by
  refine ⟨fn_pd (N := N_patch_text) (k := 0) F sc_patch_text fun cdv A outer s H E hr => ?_, gF, F.kp, bF⟩
  have nd : (N_patch_text).Nodup := sc_patch_text.nd
  obtain ⟨es_SIGNS_OF_WORDS, n_SIGNS_OF_WORDS, D_SIGNS_OF_WORDS⟩ := W_SIGNS_OF_WORDS.kd
  have tk : Takes (cxOf (L2.CX P w) P w K mg base N_patch_text "patch_text" (defScope s_patch_text) f cdv A outer s H E) (wOf ca (ccOf K tb ca noPin E).xw) := takesB (L2.takes_of rfl rfl rfl rfl)
  skip
  exact ⟨_, (pss_cons (ps_set (i := 1) nd rfl (by first | exact Or.inl rfl | exact Or.inr rfl) (pe_lst pa_nil))
    (pss_cons (ps_for PassesOwn.leaving rfl (pi_seq (pv 0)) (pg_tup rfl (pgs_cons (pg_name (i := 2) nd rfl (by first | exact Or.inl rfl | exact Or.inr rfl)) (pgs_cons (pg_name (i := 3) nd rfl (by first | exact Or.inl rfl | exact Or.inr rfl)) pgs_nil)))
    (pss_one (ps_if (pt_cmpR (op_eqP hr.units) (pv 2) pe_str (nomark _))
    (pss_one (ps_expr (pe_bm PySem.F.plainAttrs_list PySem.F.slot_list_append PySem.F.type_list_append mt_append (pv 1) (pa_cons (pe_joined (.cons pe_str (.cons (pe_fmt (pv 3)) .nil))) pa_nil))))
    (pss_one (ps_expr (pe_bm PySem.F.plainAttrs_list PySem.F.slot_list_extend PySem.F.type_list_extend mt_extendA (pv 1) (pa_cons (pe_lc (own := [("line", 4)]) rfl nd (pi_seq (pv 3)) (blkOk_by (N := N_patch_text) (sc := defScope s_patch_text) (by decide +kernel)) (fun _ _ _ _ _ => (pg_name (i := 4) nd rfl (by first | exact Or.inl rfl | exact Or.inr rfl))) (fun _ _ _ _ _ => pts_nil) (fun _ _ _ _ _ => (pe_op op_addAll (pe_ix ix_kdict (pe_glob (v := .ref a_SIGNS_OF_WORDS) rfl W_SIGNS_OF_WORDS.g rfl) (pv 2) (fun _ _ => rfl)) (pv 4)))) pa_nil)))))))
    (pss_one (ps_ret (pe_callTy call_tuple_of (by rfl) z_tuple (by decide +kernel) (pa_cons (pv 1) pa_nil)))))),
    (ss_seq (ss_setO (i := 1) rfl (sf_lst sa_nil))
    (ss_seq (ss_forL (se_var (i := 0) rfl) (sg_tup (n := 2) (sgs_cons (sg_name (i := 2) rfl) (sgs_cons (sg_name (i := 3) rfl) sgs_nil)))
    (ss_if (st_test (se_op rop_eq (se_var (i := 2) rfl) (se_c fun _ => .str _)))
    (ss_drop (se_meth (i := 1) rme_append (sa_cons (se_joined (.cons (se_c fun _ => .str _) (.cons (se_fmt (se_var (i := 3) rfl)) .nil))) sa_nil)))
    (ss_drop (se_meth (i := 1) rme_extend (sa_cons (se_lcS (vs := [4]) ⟨(by decide : ([4] : List Nat).Nodup), (by decide : ∀ v ∈ ([4] : List Nat), noPin v = false)⟩ (se_var (i := 3) rfl) (sg_name (i := 4) rfl) (gw_name (by decide)) st_yes (se_op rop_add (se_wget W_SIGNS_OF_WORDS (se_var (i := 2) rfl)) (se_var (i := 4) rfl))) sa_nil)))))
    (ss_ret (se_cb rca_tuple (sa_cons (se_var (i := 1) rfl) sa_nil)))))⟩
abbrev s_number_kept : Stmt := top 16
abbrev N_number_kept : List Str := ["text"]
theorem sc_number_kept : FnScope N_number_kept ["text"] (defScope s_number_kept) := ⟨rfl, rfl, rfl, by decide +kernel, rfl, by decide +kernel, by decide +kernel⟩
def m_number_kept : MS :=
  (mSeq (mIf (mOr (mTest (mOp dEq (rd 0) (ret (.str "")))) (mOr (mTru (mUn (dAnyS fun c => !decide (c ∈ ("0123456789" : Str).cps.toList)) (rd 0))) (mOr (mTest (mOp dEq (mOp dIx (rd 0) (ret (.int 0))) (ret (.str "0")))) (mTest (mOp dGt (mCb dLen (mArg (rd 0) (ret []))) (ret (.int 6)))))))
    (mRaiseE "PatchError" (joinM [(ret (.str "no number: ")), (mUn dFmt (rd 0))] Str.empty))
    mNext)
    (mRet (mCb dIntOf (mArg (rd 0) (ret [])))))
def F_number_kept : PD.Env → Option (Res D) := runF noPin 1 1 m_number_kept
theorem ok_number_kept {f : Addr} {fd : FuncData} (F : Fun K "number_kept" "number_kept" s_number_kept f fd) (gF : mg "number_kept" = some (.ref f)) (bF : Binds K fd ["text"] []) (z_any : mg "any" = none) (z_int : mg "int" = none) (z_len : mg "len" = none) {t_DIGITS : Tok} (h_DIGITS : mg "DIGITS" = some (.str ("0123456789" : Str) t_DIGITS)) {t_MOST_DIGITS : Tok} (h_MOST_DIGITS : mg "MOST_DIGITS" = some (.int 6 t_MOST_DIGITS)) (X_PatchError : ExcC K mg ca "PatchError") {cc PG : Addr} (kc : fd.code = .ref cc) (TBg : GxR.TabB base mg cc PG) (hPG : PG ∈ tb.GT) (hLG : ∀ q ∈ tb.LT, q.1 ≠ PG) :
    Cal P w K mg base tb ca "number_kept" 1 ["text"] noPin F_number_kept f fd := by
  refine ⟨fn_pdC (N := N_number_kept) (k := 0) F sc_number_kept fun cdv A outer s H E kcv hr => ?_, gF, F.kp, bF⟩
  have nd : (N_number_kept).Nodup := sc_number_kept.nd
  have tk : Takes (cxOf (L2.CX P w) P w K mg base N_number_kept "number_kept" (defScope s_number_kept) f cdv A outer s H E) (wOf ca (ccOf K tb ca noPin E).xw) := takesB (L2.takes_of rfl rfl rfl rfl)
  have hcode : (cxOf (L2.CX P w) P w K mg base N_number_kept "number_kept" (defScope s_number_kept) f cdv A outer s H E).env.code = .ref cc := kcv.symm.trans kc
  exact ⟨_, (pss_cons (ps_if (PW.pt (pw_or (pt_cmpR (op_eqP hr.units) (pv 0) pe_str (nomark _)) (pw_or (pt_truth (pe_anyG hr (by rfl) z_any TBg hcode (genS_by (by decide +kernel) (by rfl)) (pv 0) (eltG_notIn rfl rfl rfl h_DIGITS) (fun _ => rfl)) (by intro _; rfl)) (pw_or (pt_cmpR (op_eqP hr.units) (pe_ix ix_seq (pv 0) pe_int (fun _ _ => rfl)) pe_str (nomark _)) (pw_or1 (pt_cmpR op_gt (pe_callB call_len (by rfl) z_len PySem.boot_len (pa_cons (pv 0) pa_nil)) (pe_glob (v := .int 6) rfl h_MOST_DIGITS ⟨_, rfl⟩) (nomark _)))))))
    (pss_one (ps_raise rfl tk (SkE.pmk_own1 PySem.F.excBase_ValueError X_PatchError.ex X_PatchError.g X_PatchError.kp (raises_own X_PatchError.sub X_PatchError.ty) rfl (pe_joined (.cons pe_str (.cons (pe_fmt (pv 0)) .nil))))))
    pss_nil)
    (pss_one (ps_ret (pe_callTy call_intAll (by rfl) z_int (by decide +kernel) (pa_cons (pv 0) pa_nil))))),
    (ss_seq (ss_if (st_or (st_test (se_op rop_eq (se_var (i := 0) rfl) (se_c fun _ => .str _))) (st_or (st_tru (se_anyS hPG hLG (se_var (i := 0) rfl))) (st_or (st_test (se_op rop_eq (se_op rop_ix (se_var (i := 0) rfl) (se_c fun _ => .int _)) (se_c fun _ => .str _))) (st_test (se_op rop_gt (se_cb rca_len (sa_cons (se_var (i := 0) rfl) sa_nil)) (se_c fun _ => .int _))))))
    (ss_raiseE (x := "PatchError") (se_joined (.cons (se_c fun _ => .str _) (.cons (se_fmt (se_var (i := 0) rfl)) .nil))))
    ss_next)
    (ss_ret (se_cb rca_int (sa_cons (se_var (i := 0) rfl) sa_nil))))⟩
abbrev s_read_patch : Stmt := top 17
abbrev N_read_patch : List Str := ["lines", "found", "line", "sign", "rest", "one", "other"]
theorem sc_read_patch : FnScope N_read_patch ["lines"] (defScope s_read_patch) := ⟨rfl, rfl, rfl, by decide +kernel, rfl, by decide +kernel, by decide +kernel⟩
def m_read_patch_b1 : MS :=
  (mSeq (mPar 3 4 (mArg (mSl (rd 2) (ret none) (mPart (ret (.int 2)))) (mArg (mSl (rd 2) (mPart (ret (.int 2))) (ret none)) (ret []))))
    (mIf (mTest (mOp dEq (rd 3) (ret (.str "= "))))
    (mDrop (mMeth 1 mdAppend (mArg (mTupD (mArg (ret (.str "keep")) (mArg (mCall F_number_kept (mArg (rd 4) (ret []))) (ret [])))) (ret []))))
    (mIf (mTest (mUn (dWNotIn kv_WORDS_OF_SIGNS) (rd 3)))
    (mRaiseE "PatchError" (joinM [(ret (.str "no line of a patch: ")), (mUn dFmt (rd 2))] Str.empty))
    (mIf (mAnd (mTruO 1) (mTest (mOp dEq (mOp dIx (mIxO 1 (mUn dNeg (ret (.int 1)))) (ret (.int 0))) (mUn (dWGet kv_WORDS_OF_SIGNS) (rd 3)))))
    (mSetAtO 1 (mTupD (mArg (mOp dIx (mIxO 1 (mUn dNeg (ret (.int 1)))) (ret (.int 0))) (mArg (mOp dAdd (mOp dIx (mIxO 1 (mUn dNeg (ret (.int 1)))) (ret (.int 1))) (mTupD (mArg (rd 4) (ret [])))) (ret [])))) (mUn dNeg (ret (.int 1))))
    (mDrop (mMeth 1 mdAppend (mArg (mTupD (mArg (mUn (dWGet kv_WORDS_OF_SIGNS) (rd 3)) (mArg (mTupD (mArg (rd 4) (ret []))) (ret [])))) (ret []))))))))
def m_read_patch_b2 : MS :=
  (mIf (mOr (mTest (mOp dEq (mOp dIx (rd 5) (ret (.int 0))) (mOp dIx (rd 6) (ret (.int 0))))) (mAnd (mTest (mOp dEq (mOp dIx (rd 5) (ret (.int 0))) (ret (.str "add")))) (mTest (mOp dEq (mOp dIx (rd 6) (ret (.int 0))) (ret (.str "drop"))))))
    (mRaiseE "PatchError" (ret (.str "a patch is told in another way")))
    mNext)
def m_read_patch : MS :=
  (mSeq (mSetO 1 (mLstO (ret [])))
    (mSeq (mFor (rd 0) (setD 2)
    m_read_patch_b1)
    (mSeq (mForE zipDA (mArg (rd 1) (mArg (mSl (rd 1) (mPart (ret (.int 1))) (ret none)) (ret []))) (setTup 2 (setCons (setD 5) (setCons (setD 6) setNil)))
    m_read_patch_b2)
    (mRet (mCb dTuple (mArg (rd 1) (ret [])))))))
def F_read_patch : PD.Env → Option (Res D) := runF noPin 7 1 m_read_patch
theorem ok_read_patch {f : Addr} {fd : FuncData} (F : Fun K "read_patch" "read_patch" s_read_patch f fd) (gF : mg "read_patch" = some (.ref f)) (bF : Binds K fd ["lines"] []) (z_tuple : mg "tuple" = none) (z_zip : mg "zip" = none) {a_WORDS_OF_SIGNS : Addr} (W_WORDS_OF_SIGNS : WDic K w mg "WORDS_OF_SIGNS" a_WORDS_OF_SIGNS kv_WORDS_OF_SIGNS) (X_PatchError : ExcC K mg ca "PatchError") {f_number_kept : Addr} {fd_number_kept : FuncData} (C_number_kept : Cal P w K mg base tb ca "number_kept" 1 ["text"] noPin F_number_kept f_number_kept fd_number_kept) :
    Cal P w K mg base tb ca "read_patch" 2 ["lines"] noPin F_read_patch f fd := by
  refine ⟨fn_pd (N := N_read_patch) (k := 1) F sc_read_patch fun cdv A outer s H E hr => ?_, gF, F.kp, bF⟩
  have nd : (N_read_patch).Nodup := sc_read_patch.nd
  obtain ⟨es_WORDS_OF_SIGNS, n_WORDS_OF_SIGNS, D_WORDS_OF_SIGNS⟩ := W_WORDS_OF_SIGNS.kd
  have tk : Takes (cxOf (L2.CX P w) P w K mg base N_read_patch "read_patch" (defScope s_read_patch) f cdv A outer s H E) (wOf ca (ccOf K tb ca noPin E).xw) := takesB (L2.takes_of rfl rfl rfl rfl)
  skip
  exact ⟨_, (pss_cons (ps_set (i := 1) nd rfl (by first | exact Or.inl rfl | exact Or.inr rfl) (pe_lst pa_nil))
    (pss_cons (ps_for PassesOwn.leaving rfl (pi_seq (pv 0)) (pg_name (i := 2) nd rfl (by first | exact Or.inl rfl | exact Or.inr rfl))
    (pss_cons (ps_par (i := 3) (j := 4) rfl nd rfl rfl (by decide) rfl rfl (pa_cons (pe_slice sl_all (pv 2) po_none (po_some pe_int)) (pa_cons (pe_slice sl_all (pv 2) (po_some pe_int) po_none) pa_nil)) (by rfl))
    (pss_one (ps_if (pt_cmpR (op_eqP hr.units) (pv 3) pe_str (nomark _))
    (pss_one (ps_expr (pe_bm PySem.F.plainAttrs_list PySem.F.slot_list_append PySem.F.type_list_append mt_append (pv 1) (pa_cons (pe_tup (pa_cons pe_str (pa_cons (pe_callSD C_number_kept.ok (hr.mono (by decide)) rfl C_number_kept.g C_number_kept.kp C_number_kept.b .nil (fun σ => passAt tk σ) (pa_cons (pv 4) pa_nil)) pa_nil))) pa_nil))))
    (pss_one (ps_if (pt_cmpR (op_notIn_kd D_WORDS_OF_SIGNS) (pv 3) (pe_glob (v := .ref a_WORDS_OF_SIGNS) rfl W_WORDS_OF_SIGNS.g rfl) (by rfl))
    (pss_one (ps_raise rfl tk (SkE.pmk_own1 PySem.F.excBase_ValueError X_PatchError.ex X_PatchError.g X_PatchError.kp (raises_own X_PatchError.sub X_PatchError.ty) rfl (pe_joined (.cons pe_str (.cons (pe_fmt (pv 2)) .nil))))))
    (pss_one (ps_if (PW.pt (pw_and (pt_truth (pv 1) (by intro _; rfl)) (pw_and1 (pt_cmpR (op_eqP hr.units) (pe_ix ix_seq (pe_ix ix_seq (pv 1) (pe_un un_neg pe_int) (fun _ _ => rfl)) pe_int (fun _ _ => rfl)) (pe_ix ix_kdict (pe_glob (v := .ref a_WORDS_OF_SIGNS) rfl W_WORDS_OF_SIGNS.g rfl) (pv 3) (fun _ _ => rfl)) (nomark _)))))
    (pss_one (ps_asg (pe_tup (pa_cons (pe_ix ix_seq (pe_ix ix_seq (pv 1) (pe_un un_neg pe_int) (fun _ _ => rfl)) pe_int (fun _ _ => rfl)) (pa_cons (pe_op op_addAll (pe_ix ix_seq (pe_ix ix_seq (pv 1) (pe_un un_neg pe_int) (fun _ _ => rfl)) pe_int (fun _ _ => rfl)) (pe_tup (pa_cons (pv 4) pa_nil))) pa_nil))) (pg_sub (pv 1) (pe_un un_neg pe_int) set_list)))
    (pss_one (ps_expr (pe_bm PySem.F.plainAttrs_list PySem.F.slot_list_append PySem.F.type_list_append mt_append (pv 1) (pa_cons (pe_tup (pa_cons (pe_ix ix_kdict (pe_glob (v := .ref a_WORDS_OF_SIGNS) rfl W_WORDS_OF_SIGNS.g rfl) (pv 3) (fun _ _ => rfl)) (pa_cons (pe_tup (pa_cons (pv 4) pa_nil)) pa_nil))) pa_nil))))))))))))
    (pss_cons (ps_for PassesOwn.leaving rfl (RZ.pi_zipA (by rfl) z_zip (pa_cons (pv 1) (pa_cons (pe_slice sl_all (pv 1) (po_some pe_int) po_none) pa_nil))) (pg_tup rfl (pgs_cons (pg_name (i := 5) nd rfl (by first | exact Or.inl rfl | exact Or.inr rfl)) (pgs_cons (pg_name (i := 6) nd rfl (by first | exact Or.inl rfl | exact Or.inr rfl)) pgs_nil)))
    (pss_one (ps_if (PW.pt (pw_or (pt_cmpR (op_eqP hr.units) (pe_ix ix_seq (pv 5) pe_int (fun _ _ => rfl)) (pe_ix ix_seq (pv 6) pe_int (fun _ _ => rfl)) (nomark _)) (pw_or1 (PW.pt (pw_and (pt_cmpR (op_eqP hr.units) (pe_ix ix_seq (pv 5) pe_int (fun _ _ => rfl)) pe_str (nomark _)) (pw_and1 (pt_cmpR (op_eqP hr.units) (pe_ix ix_seq (pv 6) pe_int (fun _ _ => rfl)) pe_str (nomark _))))))))
    (pss_one (ps_raise rfl tk (SkE.pmk_own1 PySem.F.excBase_ValueError X_PatchError.ex X_PatchError.g X_PatchError.kp (raises_own X_PatchError.sub X_PatchError.ty) rfl pe_str)))
    pss_nil)))
    (pss_one (ps_ret (pe_callTy call_tuple_of (by rfl) z_tuple (by decide +kernel) (pa_cons (pv 1) pa_nil))))))),
    (ss_seq (ss_setO (i := 1) rfl (sf_lst sa_nil))
    (ss_seq (ss_forL (se_var (i := 0) rfl) (sg_name (i := 2) rfl)
    (ss_seq (ss_par (i := 3) (j := 4) rfl rfl (sa_cons (se_sl (se_var (i := 2) rfl) so_none (so_some (se_c fun _ => .int _))) (sa_cons (se_sl (se_var (i := 2) rfl) (so_some (se_c fun _ => .int _)) so_none) sa_nil)))
    (ss_if (st_test (se_op rop_eq (se_var (i := 3) rfl) (se_c fun _ => .str _)))
    (ss_drop (se_meth (i := 1) rme_append (sa_cons (se_tup (sa_cons (se_c fun _ => .str _) (sa_cons (se_call (sa_cons (se_var (i := 4) rfl) sa_nil) (ln_cons ln_nil)) sa_nil))) sa_nil)))
    (ss_if (st_test (se_wnot W_WORDS_OF_SIGNS (se_var (i := 3) rfl)))
    (ss_raiseE (x := "PatchError") (se_joined (.cons (se_c fun _ => .str _) (.cons (se_fmt (se_var (i := 2) rfl)) .nil))))
    (ss_if (st_and (st_truO (i := 1)) (st_test (se_op rop_eq (se_op rop_ix (se_ixO (i := 1) (se_un run_neg (se_c fun _ => .int _))) (se_c fun _ => .int _)) (se_wget W_WORDS_OF_SIGNS (se_var (i := 3) rfl)))))
    (ss_setAt (i := 1) (se_tup (sa_cons (se_op rop_ix (se_ixO (i := 1) (se_un run_neg (se_c fun _ => .int _))) (se_c fun _ => .int _)) (sa_cons (se_op rop_add (se_op rop_ix (se_ixO (i := 1) (se_un run_neg (se_c fun _ => .int _))) (se_c fun _ => .int _)) (se_tup (sa_cons (se_var (i := 4) rfl) sa_nil))) sa_nil))) (se_un run_neg (se_c fun _ => .int _)))
    (ss_drop (se_meth (i := 1) rme_append (sa_cons (se_tup (sa_cons (se_wget W_WORDS_OF_SIGNS (se_var (i := 3) rfl)) (sa_cons (se_tup (sa_cons (se_var (i := 4) rfl) sa_nil)) sa_nil))) sa_nil))))))))
    (ss_seq (ss_forZipA (sa_cons (se_var (i := 1) rfl) (sa_cons (se_sl (se_var (i := 1) rfl) (so_some (se_c fun _ => .int _)) so_none) sa_nil)) (sg_tup (n := 2) (sgs_cons (sg_name (i := 5) rfl) (sgs_cons (sg_name (i := 6) rfl) sgs_nil)))
    (ss_if (st_or (st_test (se_op rop_eq (se_op rop_ix (se_var (i := 5) rfl) (se_c fun _ => .int _)) (se_op rop_ix (se_var (i := 6) rfl) (se_c fun _ => .int _)))) (st_and (st_test (se_op rop_eq (se_op rop_ix (se_var (i := 5) rfl) (se_c fun _ => .int _)) (se_c fun _ => .str _))) (st_test (se_op rop_eq (se_op rop_ix (se_var (i := 6) rfl) (se_c fun _ => .int _)) (se_c fun _ => .str _)))))
    (ss_raiseE (x := "PatchError") (se_c fun _ => .str _))
    ss_next))
    (ss_ret (se_cb rca_tuple (sa_cons (se_var (i := 1) rfl) sa_nil))))))⟩
abbrev s_counts : Stmt := top 18
abbrev N_counts : List Str := ["patch", "added", "word", "value", "dropped"]
theorem sc_counts : FnScope N_counts ["patch"] (defScope s_counts) := ⟨rfl, rfl, rfl, by decide +kernel, rfl, by decide +kernel, by decide +kernel⟩
def m_counts_e1 : MM D :=
  (mCb dLen (mArg (rd 3) (ret [])))
def m_counts_c1 : MM Bool :=
  (mTest (mOp dEq (rd 2) (ret (.str "add"))))
def m_counts_e2 : MM D :=
  (mCb dLen (mArg (rd 3) (ret [])))
def m_counts_c2 : MM Bool :=
  (mTest (mOp dEq (rd 2) (ret (.str "drop"))))
def m_counts : MS :=
  (mSeq (mAsg (mCb dSum (mArg (asL (mLc (rd 0) elems [2, 3] (setTup 2 (setCons (setD 2) (setCons (setD 3) setNil))) m_counts_c1 m_counts_e1)) (ret []))) (setD 1))
    (mSeq (mAsg (mCb dSum (mArg (asL (mLc (rd 0) elems [2, 3] (setTup 2 (setCons (setD 2) (setCons (setD 3) setNil))) m_counts_c2 m_counts_e2)) (ret []))) (setD 4))
    (mRet (mTupD (mArg (rd 1) (mArg (rd 4) (ret [])))))))
def F_counts : PD.Env → Option (Res D) := runF noPin 5 1 m_counts
theorem ok_counts {f : Addr} {fd : FuncData} (F : Fun K "counts" "counts" s_counts f fd) (gF : mg "counts" = some (.ref f)) (bF : Binds K fd ["patch"] []) (z_len : mg "len" = none) (z_sum : mg "sum" = none) :
    Cal P w K mg base tb ca "counts" 1 ["patch"] noPin F_counts f fd := by
  refine ⟨fn_pd (N := N_counts) (k := 0) F sc_counts fun cdv A outer s H E hr => ?_, gF, F.kp, bF⟩
  have nd : (N_counts).Nodup := sc_counts.nd
  have tk : Takes (cxOf (L2.CX P w) P w K mg base N_counts "counts" (defScope s_counts) f cdv A outer s H E) (wOf ca (ccOf K tb ca noPin E).xw) := takesB (L2.takes_of rfl rfl rfl rfl)
  skip
  exact ⟨_, (pss_cons (ps_set (i := 1) nd rfl (by first | exact Or.inl rfl | exact Or.inr rfl) (pe_callB (cr_sum rfl) (by rfl) z_sum (by decide +kernel) (pa_cons (pe_lc (own := [("word", 2), ("value", 3)]) rfl nd (pi_seq (pv 0)) (blkOk_by (N := N_counts) (sc := defScope s_counts) (by decide +kernel)) (fun _ _ _ _ _ => (pg_tup rfl (pgs_cons (pg_name (i := 2) nd rfl (by first | exact Or.inl rfl | exact Or.inr rfl)) (pgs_cons (pg_name (i := 3) nd rfl (by first | exact Or.inl rfl | exact Or.inr rfl)) pgs_nil)))) (fun _ _ _ _ _ => (pts_one (pt_cmpR (op_eqP hr.units) (pv 2) pe_str (nomark _)))) (fun _ _ _ _ _ => (pe_callB call_len (by rfl) z_len PySem.boot_len (pa_cons (pv 3) pa_nil)))) pa_nil)))
    (pss_cons (ps_set (i := 4) nd rfl (by first | exact Or.inl rfl | exact Or.inr rfl) (pe_callB (cr_sum rfl) (by rfl) z_sum (by decide +kernel) (pa_cons (pe_lc (own := [("word", 2), ("value", 3)]) rfl nd (pi_seq (pv 0)) (blkOk_by (N := N_counts) (sc := defScope s_counts) (by decide +kernel)) (fun _ _ _ _ _ => (pg_tup rfl (pgs_cons (pg_name (i := 2) nd rfl (by first | exact Or.inl rfl | exact Or.inr rfl)) (pgs_cons (pg_name (i := 3) nd rfl (by first | exact Or.inl rfl | exact Or.inr rfl)) pgs_nil)))) (fun _ _ _ _ _ => (pts_one (pt_cmpR (op_eqP hr.units) (pv 2) pe_str (nomark _)))) (fun _ _ _ _ _ => (pe_callB call_len (by rfl) z_len PySem.boot_len (pa_cons (pv 3) pa_nil)))) pa_nil)))
    (pss_one (ps_ret (pe_tup (pa_cons (pv 1) (pa_cons (pv 4) pa_nil))))))),
    (ss_seq (ss_asg (se_cb rca_sum (sa_cons (se_lcS (vs := [2, 3]) ⟨(by decide : ([2, 3] : List Nat).Nodup), (by decide : ∀ v ∈ ([2, 3] : List Nat), noPin v = false)⟩ (se_var (i := 0) rfl) (sg_tup (n := 2) (sgs_cons (sg_name (i := 2) rfl) (sgs_cons (sg_name (i := 3) rfl) sgs_nil))) (gw_tup (gw_cons (by decide) (gw_cons (by decide) gw_nil))) (st_test (se_op rop_eq (se_var (i := 2) rfl) (se_c fun _ => .str _))) (se_cb rca_len (sa_cons (se_var (i := 3) rfl) sa_nil))) sa_nil)) (sg_name (i := 1) rfl))
    (ss_seq (ss_asg (se_cb rca_sum (sa_cons (se_lcS (vs := [2, 3]) ⟨(by decide : ([2, 3] : List Nat).Nodup), (by decide : ∀ v ∈ ([2, 3] : List Nat), noPin v = false)⟩ (se_var (i := 0) rfl) (sg_tup (n := 2) (sgs_cons (sg_name (i := 2) rfl) (sgs_cons (sg_name (i := 3) rfl) sgs_nil))) (gw_tup (gw_cons (by decide) (gw_cons (by decide) gw_nil))) (st_test (se_op rop_eq (se_var (i := 2) rfl) (se_c fun _ => .str _))) (se_cb rca_len (sa_cons (se_var (i := 3) rfl) sa_nil))) sa_nil)) (sg_name (i := 4) rfl))
    (ss_ret (se_tup (sa_cons (se_var (i := 1) rfl) (sa_cons (se_var (i := 4) rfl) sa_nil))))))⟩
abbrev s__law_dice : Stmt := top 20
abbrev N__law_dice : List Str := ["cell"]
theorem sc__law_dice : FnScope N__law_dice ["cell"] (defScope s__law_dice) := ⟨rfl, rfl, rfl, by decide +kernel, rfl, by decide +kernel, by decide +kernel⟩
def m__law_dice : MS :=
  (mSeq (mIf (mTest (mChain dLt dLt (mOp dSub (ret (.int 0)) (ret (.int 10))) (rd 0) (ret (.int 10))))
    (mRet (mLstD (mArg (mCb dAbs (mArg (rd 0) (ret []))) (mArg (ret (.int 0)) (mArg (ret (.int 2)) (ret []))))))
    mNext)
    (mRet (mLstD (mArg (rd 0) (mArg (mOp dAdd (ret (.int 1)) (mOp dMod (mCb dIntOf (mArg (rd 0) (ret []))) (ret (.int 1009)))) (mArg (mCb dIntOf (mArg (mOp dGe (rd 0) (mOp dPow (ret (.int 10)) (ret (.int 18)))) (ret []))) (ret [])))))))
def F__law_dice : PD.Env → Option (Res D) := runF noPin 1 1 m__law_dice
theorem ok__law_dice {f : Addr} {fd : FuncData} (F : Fun K "_law_dice" "_law_dice" s__law_dice f fd) (gF : mg "_law_dice" = some (.ref f)) (bF : Binds K fd ["cell"] []) (z_abs : mg "abs" = none) (z_int : mg "int" = none) :
    Cal P w K mg base tb ca "_law_dice" 1 ["cell"] noPin F__law_dice f fd := by
  refine ⟨fn_pd (N := N__law_dice) (k := 0) F sc__law_dice fun cdv A outer s H E hr => ?_, gF, F.kp, bF⟩
  have nd : (N__law_dice).Nodup := sc__law_dice.nd
  have tk : Takes (cxOf (L2.CX P w) P w K mg base N__law_dice "_law_dice" (defScope s__law_dice) f cdv A outer s H E) (wOf ca (ccOf K tb ca noPin E).xw) := takesB (L2.takes_of rfl rfl rfl rfl)
  skip
  exact ⟨_, (pss_cons (ps_if (pt_chain op_lt op_lt (pe_op op_sub pe_int pe_int) (pv 0) pe_int)
    (pss_one (ps_ret (pe_lst (pa_cons (pe_callB call_abs (by rfl) z_abs (by decide +kernel) (pa_cons (pv 0) pa_nil)) (pa_cons pe_int (pa_cons pe_int pa_nil))))))
    pss_nil)
    (pss_one (ps_ret (pe_lst (pa_cons (pv 0) (pa_cons (pe_op op_addAll pe_int (pe_op op_modN (pe_callTy call_intAll (by rfl) z_int (by decide +kernel) (pa_cons (pv 0) pa_nil)) pe_int)) (pa_cons (pe_callTy call_intAll (by rfl) z_int (by decide +kernel) (pa_cons (pe_cmpR op_ge (pv 0) (pe_op op_pow pe_int pe_int) (nomark _)) pa_nil)) pa_nil))))))),
    (ss_seq (ss_if (st_test (se_chain rop_lt rop_lt (se_op rop_sub (se_c fun _ => .int _) (se_c fun _ => .int _)) (se_var (i := 0) rfl) (se_c fun _ => .int _)))
    (ss_ret (se_lst (sa_cons (se_cb rca_abs (sa_cons (se_var (i := 0) rfl) sa_nil)) (sa_cons (se_c fun _ => .int _) (sa_cons (se_c fun _ => .int _) sa_nil)))))
    ss_next)
    (ss_ret (se_lst (sa_cons (se_var (i := 0) rfl) (sa_cons (se_op rop_add (se_c fun _ => .int _) (se_op rop_mod (se_cb rca_int (sa_cons (se_var (i := 0) rfl) sa_nil)) (se_c fun _ => .int _))) (sa_cons (se_cb rca_int (sa_cons (se_op rop_ge (se_var (i := 0) rfl) (se_op rop_pow (se_c fun _ => .int _) (se_c fun _ => .int _))) sa_nil)) sa_nil))))))⟩
abbrev s__law_roll : Stmt := top 21
abbrev N__law_roll : List Str := ["dice", "many", "found"]
theorem sc__law_roll : FnScope N__law_roll ["dice", "many"] (defScope s__law_roll) := ⟨rfl, rfl, rfl, by decide +kernel, rfl, by decide +kernel, by decide +kernel⟩
def m__law_roll : MS :=
  (mSeq (mIf (mOr (mTest (mOp dEq (mIxO 0 (ret (.int 2))) (ret (.int 2)))) (mAnd (mTest (mOp dEq (mIxO 0 (ret (.int 2))) (ret (.int 1)))) (mTest (mOp dGt (mIxO 0 (ret (.int 0))) (ret (.int 0))))))
    (mSeq (mAsg (mOp dMod (mCb dIntOf (mArg (mIxO 0 (ret (.int 0))) (ret []))) (rd 1)) (setD 2))
    (mSeq (mSetAtO 0 (mOp dDiv (mIxO 0 (ret (.int 0))) (rd 1)) (ret (.int 0)))
    (mRet (rd 2))))
    mNext)
    (mSeq (mSetAtO 0 (ret (.int 0)) (ret (.int 2)))
    (mSeq (mIf (mTest (mOp dGt (rd 1) (ret (.int 100000000))))
    mNever
    mNext)
    (mSeq (mSetAtO 0 (mOp dMod (mCb dIntOf (mArg (mOp dAdd (mOp dAdd (mOp dMul (mIxO 0 (ret (.int 0))) (ret (.int 48271))) (mOp dMul (mIxO 0 (ret (.int 1))) (ret (.int 69621)))) (ret (.int 11))) (ret []))) (ret (.int 2147483647))) (ret (.int 0)))
    (mSeq (mSetAtO 0 (mOp dAdd (mIxO 0 (ret (.int 1))) (ret (.int 1))) (ret (.int 1)))
    (mRet (mOp dMod (mCb dIntOf (mArg (mOp dDiv (mIxO 0 (ret (.int 0))) (ret (.int 7))) (ret []))) (rd 1))))))))
def F__law_roll : PD.Env → Option (Res D) := runF pin0 3 2 m__law_roll
theorem ok__law_roll {f : Addr} {fd : FuncData} (F : Fun K "_law_roll" "_law_roll" s__law_roll f fd) (gF : mg "_law_roll" = some (.ref f)) (bF : Binds K fd ["dice", "many"] []) (z_int : mg "int" = none) :
    Cal P w K mg base tb ca "_law_roll" 1 ["dice", "many"] pin0 F__law_roll f fd := by
  refine ⟨fn_pd (N := N__law_roll) (k := 0) F sc__law_roll fun cdv A outer s H E hr => ?_, gF, F.kp, bF⟩
  have nd : (N__law_roll).Nodup := sc__law_roll.nd
  have tk : Takes (cxOf (L2.CX P w) P w K mg base N__law_roll "_law_roll" (defScope s__law_roll) f cdv A outer s H E) (wOf ca (ccOf K tb ca pin0 E).xw) := takesB (L2.takes_of rfl rfl rfl rfl)
  skip
  exact ⟨_, (pss_cons (ps_if (PW.pt (pw_or (pt_cmpR (op_eqP hr.units) (pe_ix ix_seq (pv 0) pe_int (fun _ _ => rfl)) pe_int (nomark _)) (pw_or1 (PW.pt (pw_and (pt_cmpR (op_eqP hr.units) (pe_ix ix_seq (pv 0) pe_int (fun _ _ => rfl)) pe_int (nomark _)) (pw_and1 (pt_cmpR op_gt (pe_ix ix_seq (pv 0) pe_int (fun _ _ => rfl)) pe_int (nomark _))))))))
    (pss_cons (ps_set (i := 2) nd rfl (by first | exact Or.inl rfl | exact Or.inr rfl) (pe_op op_modN (pe_callTy call_intAll (by rfl) z_int (by decide +kernel) (pa_cons (pe_ix ix_seq (pv 0) pe_int (fun _ _ => rfl)) pa_nil)) (pv 1)))
    (pss_cons (ps_asg (pe_op op_fdiv (pe_ix ix_seq (pv 0) pe_int (fun _ _ => rfl)) (pv 1)) (pg_sub (pv 0) pe_int set_list))
    (pss_one (ps_ret (pv 2)))))
    pss_nil)
    (pss_cons (ps_asg pe_int (pg_sub (pv 0) pe_int set_list))
    (pss_cons (ps_if (pt_cmpR op_gt (pv 1) pe_int (nomark _))
    pss_never
    pss_nil)
    (pss_cons (ps_asg (pe_op op_modN (pe_callTy call_intAll (by rfl) z_int (by decide +kernel) (pa_cons (pe_op op_addAll (pe_op op_addAll (pe_op op_mulAll (pe_ix ix_seq (pv 0) pe_int (fun _ _ => rfl)) pe_int) (pe_op op_mulAll (pe_ix ix_seq (pv 0) pe_int (fun _ _ => rfl)) pe_int)) pe_int) pa_nil)) pe_int) (pg_sub (pv 0) pe_int set_list))
    (pss_cons (ps_asg (pe_op op_addAll (pe_ix ix_seq (pv 0) pe_int (fun _ _ => rfl)) pe_int) (pg_sub (pv 0) pe_int set_list))
    (pss_one (ps_ret (pe_op op_modN (pe_callTy call_intAll (by rfl) z_int (by decide +kernel) (pa_cons (pe_op op_fdiv (pe_ix ix_seq (pv 0) pe_int (fun _ _ => rfl)) pe_int) pa_nil)) (pv 1))))))))),
    (ss_seq (ss_if (st_or (st_test (se_op rop_eq (se_ixO (i := 0) (se_c fun _ => .int _)) (se_c fun _ => .int _))) (st_and (st_test (se_op rop_eq (se_ixO (i := 0) (se_c fun _ => .int _)) (se_c fun _ => .int _))) (st_test (se_op rop_gt (se_ixO (i := 0) (se_c fun _ => .int _)) (se_c fun _ => .int _)))))
    (ss_seq (ss_asg (se_op rop_mod (se_cb rca_int (sa_cons (se_ixO (i := 0) (se_c fun _ => .int _)) sa_nil)) (se_var (i := 1) rfl)) (sg_name (i := 2) rfl))
    (ss_seq (ss_setAt (i := 0) (se_op rop_div (se_ixO (i := 0) (se_c fun _ => .int _)) (se_var (i := 1) rfl)) (se_c fun _ => .int _))
    (ss_ret (se_var (i := 2) rfl))))
    ss_next)
    (ss_seq (ss_setAt (i := 0) (se_c fun _ => .int _) (se_c fun _ => .int _))
    (ss_seq (ss_if (st_test (se_op rop_gt (se_var (i := 1) rfl) (se_c fun _ => .int _)))
    ss_never
    ss_next)
    (ss_seq (ss_setAt (i := 0) (se_op rop_mod (se_cb rca_int (sa_cons (se_op rop_add (se_op rop_add (se_op rop_mul (se_ixO (i := 0) (se_c fun _ => .int _)) (se_c fun _ => .int _)) (se_op rop_mul (se_ixO (i := 0) (se_c fun _ => .int _)) (se_c fun _ => .int _))) (se_c fun _ => .int _)) sa_nil)) (se_c fun _ => .int _)) (se_c fun _ => .int _))
    (ss_seq (ss_setAt (i := 0) (se_op rop_add (se_ixO (i := 0) (se_c fun _ => .int _)) (se_c fun _ => .int _)) (se_c fun _ => .int _))
    (ss_ret (se_op rop_mod (se_cb rca_int (sa_cons (se_op rop_div (se_ixO (i := 0) (se_c fun _ => .int _)) (se_c fun _ => .int _)) sa_nil)) (se_var (i := 1) rfl))))))))⟩
abbrev s__law_rounds : Stmt := top 22
abbrev N__law_rounds : List Str := ["script", "most", "cells", "cell"]
theorem sc__law_rounds : FnScope N__law_rounds ["script", "most"] (defScope s__law_rounds) := ⟨rfl, rfl, rfl, by decide +kernel, rfl, by decide +kernel, by decide +kernel⟩
def m__law_rounds_e1 : MM D :=
  (mCall F__law_dice (mArg (rd 3) (ret [])))
def m__law_rounds : MS :=
  (mSeq (mAsg (mSl (rd 0) (ret none) (mPart (rd 1))) (setD 2))
    (mSeq (mIf (mTest (mOp dEq (rd 2) (mLstD (ret []))))
    (mAsg (mLstD (mArg (ret (.int 0)) (ret []))) (setD 2))
    mNext)
    (mRet (asL (mLc (rd 2) elems [3] (setD 3) (ret true) m__law_rounds_e1)))))
def F__law_rounds : PD.Env → Option (Res D) := runF noPin 4 2 m__law_rounds
theorem ok__law_rounds {f : Addr} {fd : FuncData} (F : Fun K "_law_rounds" "_law_rounds" s__law_rounds f fd) (gF : mg "_law_rounds" = some (.ref f)) (bF : Binds K fd ["script", "most"] []) {f__law_dice : Addr} {fd__law_dice : FuncData} (C__law_dice : Cal P w K mg base tb ca "_law_dice" 1 ["cell"] noPin F__law_dice f__law_dice fd__law_dice) :
    Cal P w K mg base tb ca "_law_rounds" 2 ["script", "most"] noPin F__law_rounds f fd := by
  refine ⟨fn_pd (N := N__law_rounds) (k := 1) F sc__law_rounds fun cdv A outer s H E hr => ?_, gF, F.kp, bF⟩
  have nd : (N__law_rounds).Nodup := sc__law_rounds.nd
  have tk : Takes (cxOf (L2.CX P w) P w K mg base N__law_rounds "_law_rounds" (defScope s__law_rounds) f cdv A outer s H E) (wOf ca (ccOf K tb ca noPin E).xw) := takesB (L2.takes_of rfl rfl rfl rfl)
  skip
  exact ⟨_, (pss_cons (ps_set (i := 2) nd rfl (by first | exact Or.inl rfl | exact Or.inr rfl) (pe_slice sl_all (pv 0) po_none (po_some (pv 1))))
    (pss_cons (ps_if (pt_cmpR (op_eqP hr.units) (pv 2) (pe_lst pa_nil) (nomark _))
    (pss_one (ps_set (i := 2) nd rfl (by first | exact Or.inl rfl | exact Or.inr rfl) (pe_lst (pa_cons pe_int pa_nil))))
    pss_nil)
    (pss_one (ps_ret (pe_lc (own := [("cell", 3)]) rfl nd (pi_seq (pv 2)) (blkOk_by (N := N__law_rounds) (sc := defScope s__law_rounds) (by decide +kernel)) (fun _ _ _ _ _ => (pg_name (i := 3) nd rfl (by first | exact Or.inl rfl | exact Or.inr rfl))) (fun _ _ _ _ _ => pts_nil) (fun _ _ _ _ _ => (pe_callSD C__law_dice.ok (hr.mono (by decide)) rfl C__law_dice.g C__law_dice.kp C__law_dice.b .nil (fun σ => passAt takesQ σ) (pa_cons (pv 3) pa_nil)))))))),
    (ss_seq (ss_asg (se_sl (se_var (i := 0) rfl) so_none (so_some (se_var (i := 1) rfl))) (sg_name (i := 2) rfl))
    (ss_seq (ss_if (st_test (se_op rop_eq (se_var (i := 2) rfl) (se_lst sa_nil)))
    (ss_asg (se_lst (sa_cons (se_c fun _ => .int _) sa_nil)) (sg_name (i := 2) rfl))
    ss_next)
    (ss_ret (se_lcS (vs := [3]) ⟨(by decide : ([3] : List Nat).Nodup), (by decide : ∀ v ∈ ([3] : List Nat), noPin v = false)⟩ (se_var (i := 2) rfl) (sg_name (i := 3) rfl) (gw_name (by decide)) st_yes (se_call (sa_cons (se_var (i := 3) rfl) sa_nil) (ln_cons ln_nil))))))⟩
abbrev s__law_text : Stmt := top 25
abbrev N__law_text : List Str := ["dice", "k"]
theorem sc__law_text : FnScope N__law_text ["dice"] (defScope s__law_text) := ⟨rfl, rfl, rfl, by decide +kernel, rfl, by decide +kernel, by decide +kernel⟩
def m__law_text_e1 : MM D :=
  (mOp dMul (mOp dIx (ret (.str "abcde")) (mCallP F__law_roll 0 (mArg (ret (.int 5)) (ret [])))) (mOp dAdd (ret (.int 1)) (mCb dIntOf (mArg (mOp dEq (mCallP F__law_roll 0 (mArg (ret (.int 9)) (ret []))) (ret (.int 0))) (ret [])))))
def m__law_text : MS :=
  (mRet (mCb dTuple (mArg (asL (mLc (mArg (mCallP F__law_roll 0 (mArg (ret (.int 13)) (ret []))) (ret [])) rg1 [1] (setD 1) (ret true) m__law_text_e1)) (ret []))))
def F__law_text : PD.Env → Option (Res D) := runF pin0 2 1 m__law_text
theorem ok__law_text {f : Addr} {fd : FuncData} (F : Fun K "_law_text" "_law_text" s__law_text f fd) (gF : mg "_law_text" = some (.ref f)) (bF : Binds K fd ["dice"] []) (z_int : mg "int" = none) (z_range : mg "range" = none) (z_tuple : mg "tuple" = none) {f__law_roll : Addr} {fd__law_roll : FuncData} (C__law_roll : Cal P w K mg base tb ca "_law_roll" 1 ["dice", "many"] pin0 F__law_roll f__law_roll fd__law_roll) :
    Cal P w K mg base tb ca "_law_text" 2 ["dice"] pin0 F__law_text f fd := by
  refine ⟨fn_pd (N := N__law_text) (k := 1) F sc__law_text fun cdv A outer s H E hr => ?_, gF, F.kp, bF⟩
  have nd : (N__law_text).Nodup := sc__law_text.nd
  have tk : Takes (cxOf (L2.CX P w) P w K mg base N__law_text "_law_text" (defScope s__law_text) f cdv A outer s H E) (wOf ca (ccOf K tb ca pin0 E).xw) := takesB (L2.takes_of rfl rfl rfl rfl)
  skip
  exact ⟨_, (pss_one (ps_ret (pe_callTy call_tuple_of (by rfl) z_tuple (by decide +kernel) (pa_cons (pe_lc (own := [("k", 1)]) rfl nd (pi_range1 rfl z_range (pa_cons (pe_callSD C__law_roll.ok (hr.mono (by decide)) rfl C__law_roll.g C__law_roll.kp C__law_roll.b .nil (fun σ => passAt tk σ) (pa_cons (pv 0) (pa_cons pe_int pa_nil))) pa_nil)) (blkOk_by (N := N__law_text) (sc := defScope s__law_text) (by decide +kernel)) (fun _ _ _ _ _ => (pg_name (i := 1) nd rfl (by first | exact Or.inl rfl | exact Or.inr rfl))) (fun _ _ _ _ _ => pts_nil) (fun _ _ _ _ _ => (pe_op op_mulAll (pe_ix ix_seq pe_str (pe_callSD C__law_roll.ok (hr.mono (by decide)) rfl C__law_roll.g C__law_roll.kp C__law_roll.b .nil (fun σ => passAt takesQ σ) (pa_cons (pv 0) (pa_cons pe_int pa_nil))) (fun _ _ => rfl)) (pe_op op_addAll pe_int (pe_callTy call_intAll (by rfl) z_int (by decide +kernel) (pa_cons (pe_cmpR (op_eqP hr.units) (pe_callSD C__law_roll.ok (hr.mono (by decide)) rfl C__law_roll.g C__law_roll.kp C__law_roll.b .nil (fun σ => passAt takesQ σ) (pa_cons (pv 0) (pa_cons pe_int pa_nil))) pe_int (nomark _)) pa_nil)))))) pa_nil)))),
    (ss_ret (se_cb rca_tuple (sa_cons (se_lc1 (vs := [1]) ⟨(by decide : ([1] : List Nat).Nodup), (by decide : ∀ v ∈ ([1] : List Nat), pin0 v = false)⟩ (sa_cons (se_callP (j := 0) (sa_cons (se_c fun _ => .int _) sa_nil) (Ln_pin (ln_cons ln_nil))) sa_nil) (sg_name (i := 1) rfl) (gw_name (by decide)) st_yes (se_op rop_mul (se_op rop_ix (se_c fun _ => .str _) (se_callP (j := 0) (sa_cons (se_c fun _ => .int _) sa_nil) (Ln_pin (ln_cons ln_nil)))) (se_op rop_add (se_c fun _ => .int _) (se_cb rca_int (sa_cons (se_op rop_eq (se_callP (j := 0) (sa_cons (se_c fun _ => .int _) sa_nil) (Ln_pin (ln_cons ln_nil))) (se_c fun _ => .int _)) sa_nil))))) sa_nil)))⟩
abbrev s__law_fitted : Stmt := top 26
abbrev N__law_fitted : List Str := ["lines", "patch", "found", "place", "word", "value", "many", "part"]
theorem sc__law_fitted : FnScope N__law_fitted ["lines", "patch"] (defScope s__law_fitted) := ⟨rfl, rfl, rfl, by decide +kernel, rfl, by decide +kernel, by decide +kernel⟩
def m__law_fitted_b1 : MS :=
  (mIf (mTest (mOp dEq (rd 4) (ret (.str "add"))))
    (mAsg (mOp dAdd (rd 2) (rd 5)) (setD 2))
    (mSeq (mAsg (mIfE (mTest (mOp dEq (rd 4) (ret (.str "keep")))) (rd 5) (mCb dLen (mArg (rd 5) (ret [])))) (setD 6))
    (mSeq (mAsg (mSl (rd 0) (mPart (rd 3)) (mPart (mOp dAdd (rd 3) (rd 6)))) (setD 7))
    (mSeq (mIf (mOr (mTest (mOp dLt (mCb dLen (mArg (rd 7) (ret []))) (rd 6))) (mAnd (mTest (mOp dEq (rd 4) (ret (.str "drop")))) (mTest (mOp dNe (rd 7) (rd 5)))))
    (mRet (ret .non))
    mNext)
    (mPar 2 3 (mArg (mOp dAdd (rd 2) (mIfE (mTest (mOp dEq (rd 4) (ret (.str "keep")))) (rd 7) (mTupD (ret [])))) (mArg (mOp dAdd (rd 3) (rd 6)) (ret []))))))))
def m__law_fitted : MS :=
  (mSeq (mAsg (mTupD (mArg (mTupD (ret [])) (mArg (ret (.int 0)) (ret [])))) (setTup 2 (setCons (setD 2) (setCons (setD 3) setNil))))
    (mSeq (mFor (rd 1) (setTup 2 (setCons (setD 4) (setCons (setD 5) setNil)))
    m__law_fitted_b1)
    (mRet (mIfE (mTest (mOp dEq (rd 3) (mCb dLen (mArg (rd 0) (ret []))))) (rd 2) (ret .non)))))
def F__law_fitted : PD.Env → Option (Res D) := runF noPin 8 2 m__law_fitted
theorem ok__law_fitted {f : Addr} {fd : FuncData} (F : Fun K "_law_fitted" "_law_fitted" s__law_fitted f fd) (gF : mg "_law_fitted" = some (.ref f)) (bF : Binds K fd ["lines", "patch"] []) (z_len : mg "len" = none) :
    Cal P w K mg base tb ca "_law_fitted" 1 ["lines", "patch"] noPin F__law_fitted f fd := by
  refine ⟨fn_pd (N := N__law_fitted) (k := 0) F sc__law_fitted fun cdv A outer s H E hr => ?_, gF, F.kp, bF⟩
  have nd : (N__law_fitted).Nodup := sc__law_fitted.nd
  have tk : Takes (cxOf (L2.CX P w) P w K mg base N__law_fitted "_law_fitted" (defScope s__law_fitted) f cdv A outer s H E) (wOf ca (ccOf K tb ca noPin E).xw) := takesB (L2.takes_of rfl rfl rfl rfl)
  skip
  exact ⟨_, (pss_cons (ps_asg (pe_tup (pa_cons (pe_tup pa_nil) (pa_cons pe_int pa_nil))) (pg_tup rfl (pgs_cons (pg_name (i := 2) nd rfl (by first | exact Or.inl rfl | exact Or.inr rfl)) (pgs_cons (pg_name (i := 3) nd rfl (by first | exact Or.inl rfl | exact Or.inr rfl)) pgs_nil))))
    (pss_cons (ps_for PassesOwn.leaving rfl (pi_seq (pv 1)) (pg_tup rfl (pgs_cons (pg_name (i := 4) nd rfl (by first | exact Or.inl rfl | exact Or.inr rfl)) (pgs_cons (pg_name (i := 5) nd rfl (by first | exact Or.inl rfl | exact Or.inr rfl)) pgs_nil)))
    (pss_one (ps_if (pt_cmpR (op_eqP hr.units) (pv 4) pe_str (nomark _))
    (pss_one (ps_set (i := 2) nd rfl (by first | exact Or.inl rfl | exact Or.inr rfl) (pe_op op_addAll (pv 2) (pv 5))))
    (pss_cons (ps_set (i := 6) nd rfl (by first | exact Or.inl rfl | exact Or.inr rfl) (pe_ifExp (pt_cmpR (op_eqP hr.units) (pv 4) pe_str (nomark _)) (pv 5) (pe_callB call_len (by rfl) z_len PySem.boot_len (pa_cons (pv 5) pa_nil))))
    (pss_cons (ps_set (i := 7) nd rfl (by first | exact Or.inl rfl | exact Or.inr rfl) (pe_slice sl_all (pv 0) (po_some (pv 3)) (po_some (pe_op op_addAll (pv 3) (pv 6)))))
    (pss_cons (ps_if (PW.pt (pw_or (pt_cmpR op_lt (pe_callB call_len (by rfl) z_len PySem.boot_len (pa_cons (pv 7) pa_nil)) (pv 6) (nomark _)) (pw_or1 (PW.pt (pw_and (pt_cmpR (op_eqP hr.units) (pv 4) pe_str (nomark _)) (pw_and1 (pt_cmpR (op_neP hr.units) (pv 7) (pv 5) (nomark _))))))))
    (pss_one (ps_ret pe_non))
    pss_nil)
    (pss_one (ps_par (i := 2) (j := 3) rfl nd rfl rfl (by decide) rfl rfl (pa_cons (pe_op op_addAll (pv 2) (pe_ifExp (pt_cmpR (op_eqP hr.units) (pv 4) pe_str (nomark _)) (pv 7) (pe_tup pa_nil))) (pa_cons (pe_op op_addAll (pv 3) (pv 6)) pa_nil)) (by rfl)))))))))
    (pss_one (ps_ret (pe_ifExp (pt_cmpR (op_eqP hr.units) (pv 3) (pe_callB call_len (by rfl) z_len PySem.boot_len (pa_cons (pv 0) pa_nil)) (nomark _)) (pv 2) pe_non))))),
    (ss_seq (ss_asg (se_tup (sa_cons (se_tup sa_nil) (sa_cons (se_c fun _ => .int _) sa_nil))) (sg_tup (n := 2) (sgs_cons (sg_name (i := 2) rfl) (sgs_cons (sg_name (i := 3) rfl) sgs_nil))))
    (ss_seq (ss_forL (se_var (i := 1) rfl) (sg_tup (n := 2) (sgs_cons (sg_name (i := 4) rfl) (sgs_cons (sg_name (i := 5) rfl) sgs_nil)))
    (ss_if (st_test (se_op rop_eq (se_var (i := 4) rfl) (se_c fun _ => .str _)))
    (ss_asg (se_op rop_add (se_var (i := 2) rfl) (se_var (i := 5) rfl)) (sg_name (i := 2) rfl))
    (ss_seq (ss_asg (se_if (st_test (se_op rop_eq (se_var (i := 4) rfl) (se_c fun _ => .str _))) (se_var (i := 5) rfl) (se_cb rca_len (sa_cons (se_var (i := 5) rfl) sa_nil))) (sg_name (i := 6) rfl))
    (ss_seq (ss_asg (se_sl (se_var (i := 0) rfl) (so_some (se_var (i := 3) rfl)) (so_some (se_op rop_add (se_var (i := 3) rfl) (se_var (i := 6) rfl)))) (sg_name (i := 7) rfl))
    (ss_seq (ss_if (st_or (st_test (se_op rop_lt (se_cb rca_len (sa_cons (se_var (i := 7) rfl) sa_nil)) (se_var (i := 6) rfl))) (st_and (st_test (se_op rop_eq (se_var (i := 4) rfl) (se_c fun _ => .str _))) (st_test (se_op rop_ne (se_var (i := 7) rfl) (se_var (i := 5) rfl)))))
    (ss_ret (se_c fun _ => .non))
    ss_next)
    (ss_par (i := 2) (j := 3) rfl rfl (sa_cons (se_op rop_add (se_var (i := 2) rfl) (se_if (st_test (se_op rop_eq (se_var (i := 4) rfl) (se_c fun _ => .str _))) (se_var (i := 7) rfl) (se_tup sa_nil))) (sa_cons (se_op rop_add (se_var (i := 3) rfl) (se_var (i := 6) rfl)) sa_nil))))))))
    (ss_ret (se_if (st_test (se_op rop_eq (se_var (i := 3) rfl) (se_cb rca_len (sa_cons (se_var (i := 0) rfl) sa_nil)))) (se_var (i := 2) rfl) (se_c fun _ => .non)))))⟩
abbrev s__law_rows : Stmt := top 27
abbrev N__law_rows : List Str := ["word", "value", "line"]
theorem sc__law_rows : FnScope N__law_rows ["word", "value"] (defScope s__law_rows) := ⟨rfl, rfl, rfl, by decide +kernel, rfl, by decide +kernel, by decide +kernel⟩
def m__law_rows_e1 : MM D :=
  (mOp dAdd (mIfE (mTest (mOp dEq (rd 0) (ret (.str "drop")))) (ret (.str "- ")) (ret (.str "+ "))) (rd 2))
def m__law_rows : MS :=
  (mRet (mIfE (mTest (mOp dEq (rd 0) (ret (.str "keep")))) (mLstD (mArg (mOp dAdd (ret (.str "= ")) (mCb dStrI (mArg (rd 1) (ret [])))) (ret []))) (asL (mLc (rd 1) elems [2] (setD 2) (ret true) m__law_rows_e1))))
def F__law_rows : PD.Env → Option (Res D) := runF noPin 3 2 m__law_rows
theorem ok__law_rows {f : Addr} {fd : FuncData} (F : Fun K "_law_rows" "_law_rows" s__law_rows f fd) (gF : mg "_law_rows" = some (.ref f)) (bF : Binds K fd ["word", "value"] []) (z_str : mg "str" = none) :
    Cal P w K mg base tb ca "_law_rows" 1 ["word", "value"] noPin F__law_rows f fd := by
  refine ⟨fn_pd (N := N__law_rows) (k := 0) F sc__law_rows fun cdv A outer s H E hr => ?_, gF, F.kp, bF⟩
  have nd : (N__law_rows).Nodup := sc__law_rows.nd
  have tk : Takes (cxOf (L2.CX P w) P w K mg base N__law_rows "_law_rows" (defScope s__law_rows) f cdv A outer s H E) (wOf ca (ccOf K tb ca noPin E).xw) := takesB (L2.takes_of rfl rfl rfl rfl)
  skip
  exact ⟨_, (pss_one (ps_ret (pe_ifExp (pt_cmpR (op_eqP hr.units) (pv 0) pe_str (nomark _)) (pe_lst (pa_cons (pe_op op_addAll pe_str (pe_callTy call_str_int (by rfl) z_str (by decide +kernel) (pa_cons (pv 1) pa_nil))) pa_nil)) (pe_lc (own := [("line", 2)]) rfl nd (pi_seq (pv 1)) (blkOk_by (N := N__law_rows) (sc := defScope s__law_rows) (by decide +kernel)) (fun _ _ _ _ _ => (pg_name (i := 2) nd rfl (by first | exact Or.inl rfl | exact Or.inr rfl))) (fun _ _ _ _ _ => pts_nil) (fun _ _ _ _ _ => (pe_op op_addAll (pe_ifExp (pt_cmpR (op_eqP hr.units) (pv 0) pe_str (nomark _)) pe_str pe_str) (pv 2))))))),
    (ss_ret (se_if (st_test (se_op rop_eq (se_var (i := 0) rfl) (se_c fun _ => .str _))) (se_lst (sa_cons (se_op rop_add (se_c fun _ => .str _) (se_cb rca_str (sa_cons (se_var (i := 1) rfl) sa_nil))) sa_nil)) (se_lcS (vs := [2]) ⟨(by decide : ([2] : List Nat).Nodup), (by decide : ∀ v ∈ ([2] : List Nat), noPin v = false)⟩ (se_var (i := 1) rfl) (sg_name (i := 2) rfl) (gw_name (by decide)) st_yes (se_op rop_add (se_if (st_test (se_op rop_eq (se_var (i := 0) rfl) (se_c fun _ => .str _))) (se_c fun _ => .str _) (se_c fun _ => .str _)) (se_var (i := 2) rfl)))))⟩
abbrev s__law_all : Stmt := top 28
abbrev N__law_all : List Str := ["patch", "found", "word", "value"]
theorem sc__law_all : FnScope N__law_all ["patch"] (defScope s__law_all) := ⟨rfl, rfl, rfl, by decide +kernel, rfl, by decide +kernel, by decide +kernel⟩
def m__law_all_b1 : MS :=
  (mAsg (mOp dAdd (rd 1) (mCb dTuple (mArg (mCall F__law_rows (mArg (rd 2) (mArg (rd 3) (ret [])))) (ret [])))) (setD 1))
def m__law_all : MS :=
  (mSeq (mAsg (mTupD (ret [])) (setD 1))
    (mSeq (mFor (rd 0) (setTup 2 (setCons (setD 2) (setCons (setD 3) setNil)))
    m__law_all_b1)
    (mRet (rd 1))))
def F__law_all : PD.Env → Option (Res D) := runF noPin 4 1 m__law_all
theorem ok__law_all {f : Addr} {fd : FuncData} (F : Fun K "_law_all" "_law_all" s__law_all f fd) (gF : mg "_law_all" = some (.ref f)) (bF : Binds K fd ["patch"] []) (z_tuple : mg "tuple" = none) {f__law_rows : Addr} {fd__law_rows : FuncData} (C__law_rows : Cal P w K mg base tb ca "_law_rows" 1 ["word", "value"] noPin F__law_rows f__law_rows fd__law_rows) :
    Cal P w K mg base tb ca "_law_all" 2 ["patch"] noPin F__law_all f fd := by
  refine ⟨fn_pd (N := N__law_all) (k := 1) F sc__law_all fun cdv A outer s H E hr => ?_, gF, F.kp, bF⟩
  have nd : (N__law_all).Nodup := sc__law_all.nd
  have tk : Takes (cxOf (L2.CX P w) P w K mg base N__law_all "_law_all" (defScope s__law_all) f cdv A outer s H E) (wOf ca (ccOf K tb ca noPin E).xw) := takesB (L2.takes_of rfl rfl rfl rfl)
  skip
  exact ⟨_, (pss_cons (ps_set (i := 1) nd rfl (by first | exact Or.inl rfl | exact Or.inr rfl) (pe_tup pa_nil))
    (pss_cons (ps_for PassesOwn.leaving rfl (pi_seq (pv 0)) (pg_tup rfl (pgs_cons (pg_name (i := 2) nd rfl (by first | exact Or.inl rfl | exact Or.inr rfl)) (pgs_cons (pg_name (i := 3) nd rfl (by first | exact Or.inl rfl | exact Or.inr rfl)) pgs_nil)))
    (pss_one (ps_set (i := 1) nd rfl (by first | exact Or.inl rfl | exact Or.inr rfl) (pe_op op_addAll (pv 1) (pe_callTy call_tuple_of (by rfl) z_tuple (by decide +kernel) (pa_cons (pe_callSD C__law_rows.ok (hr.mono (by decide)) rfl C__law_rows.g C__law_rows.kp C__law_rows.b .nil (fun σ => passAt tk σ) (pa_cons (pv 2) (pa_cons (pv 3) pa_nil))) pa_nil))))))
    (pss_one (ps_ret (pv 1))))),
    (ss_seq (ss_asg (se_tup sa_nil) (sg_name (i := 1) rfl))
    (ss_seq (ss_forL (se_var (i := 0) rfl) (sg_tup (n := 2) (sgs_cons (sg_name (i := 2) rfl) (sgs_cons (sg_name (i := 3) rfl) sgs_nil)))
    (ss_asg (se_op rop_add (se_var (i := 1) rfl) (se_cb rca_tuple (sa_cons (se_call (sa_cons (se_var (i := 2) rfl) (sa_cons (se_var (i := 3) rfl) sa_nil)) (ln_cons (ln_cons ln_nil))) sa_nil))) (sg_name (i := 1) rfl)))
    (ss_ret (se_var (i := 1) rfl))))⟩
abbrev s_law : Stmt := top 29
abbrev N_law : List Str := ["script", "dice", "one", "other", "third", "pairs", "patch", "kept", "word", "value", "a", "b", "drops", "row", "told_now", "fits", "lines", "bad"]
theorem sc_law : FnScope N_law ["script"] (defScope s_law) := ⟨rfl, rfl, rfl, by decide +kernel, rfl, by decide +kernel, by decide +kernel⟩
def m_law_e1 : MM D :=
  (rd 9)
def m_law_c1 : MM Bool :=
  (mTest (mOp dEq (rd 8) (ret (.str "keep"))))
def m_law_e2 : MM D :=
  (ret (.int 1))
def m_law_c2 : MM Bool :=
  (mOr (mTest (mOp dEq (mOp dIx (rd 10) (ret (.int 0))) (mOp dIx (rd 11) (ret (.int 0))))) (mAnd (mTest (mOp dEq (mOp dIx (rd 10) (ret (.int 0))) (ret (.str "add")))) (mTest (mOp dEq (mOp dIx (rd 11) (ret (.int 0))) (ret (.str "drop"))))))
def m_law_e3 : MM D :=
  (rd 13)
def m_law_c3 : MM Bool :=
  (mTest (mOp dEq (mOp dIx (rd 13) (ret (.int 0))) (ret (.str "drop"))))
def m_law_call : MM D :=
  (mCall F__law_rounds (mArg (rd 0) (mArg (ret (.int 1)) (ret []))))
def m_law_body : MS :=
  (mSeq (mAsg (mTupD (mArg (mCallP F__law_text 1 (ret [])) (mArg (mCallP F__law_text 1 (ret [])) (mArg (mCallP F__law_text 1 (ret [])) (ret []))))) (setTup 3 (setCons (setD 2) (setCons (setD 3) (setCons (setD 4) setNil)))))
    (mSeq (mAsg (mCall F__law_pairs (mArg (rd 2) (mArg (rd 3) (ret [])))) (setD 5))
    (mSeq (mIf (mOr (mTest (mOp dNe (mCb (fun as => (dList as).map .lst) (mArg (mCall F_matches (mArg (rd 2) (mArg (rd 3) (ret [])))) (ret []))) (rd 5))) (mTest (mOp dNe (mOp dIx (mOp dIx (mCall F_common_rows (mArg (rd 2) (mArg (rd 3) (ret [])))) (ret (.int 0))) (ret (.int 0))) (mCb dLen (mArg (rd 5) (ret []))))))
    (mRet (ret (.bl false)))
    mNext)
    (mSeq (mAsg (mCall F_patch_between (mArg (rd 2) (mArg (rd 3) (ret [])))) (setD 6))
    (mSeq (mIf (mOr (mTest (mOp dNe (mCall F_apply_patch (mArg (rd 2) (mArg (rd 6) (ret [])))) (rd 3))) (mOr (mTest (mOp dNe (mCall F_apply_patch (mArg (rd 3) (mArg (mCall F_turned (mArg (rd 6) (ret []))) (ret [])))) (rd 2))) (mTest (mOp dNe (mCall F_turned (mArg (mCall F_turned (mArg (rd 6) (ret []))) (ret []))) (rd 6)))))
    (mRet (ret (.bl false)))
    mNext)
    (mSeq (mAsg (mCb dSum (mArg (asL (mLc (rd 6) elems [8, 9] (setTup 2 (setCons (setD 8) (setCons (setD 9) setNil))) m_law_c1 m_law_e1)) (ret []))) (setD 7))
    (mSeq (mIf (mOr (mTest (mOp dNe (mCall F_counts (mArg (rd 6) (ret []))) (mTupD (mArg (mOp dSub (mCb dLen (mArg (rd 3) (ret []))) (mCb dLen (mArg (rd 5) (ret [])))) (mArg (mOp dSub (mCb dLen (mArg (rd 2) (ret []))) (mCb dLen (mArg (rd 5) (ret [])))) (ret [])))))) (mTest (mOp dNe (rd 7) (mCb dLen (mArg (rd 5) (ret []))))))
    (mRet (ret (.bl false)))
    mNext)
    (mSeq (mIf (mTest (mOp dNe (asL (mLc (mArg (rd 6) (mArg (mSl (rd 6) (mPart (ret (.int 1))) (ret none)) (ret []))) zipDA [10, 11] (setTup 2 (setCons (setD 10) (setCons (setD 11) setNil))) m_law_c2 m_law_e2)) (mLstD (ret []))))
    (mRet (ret (.bl false)))
    mNext)
    (mSeq (mAsg (asL (mLc (rd 6) elems [13] (setD 13) m_law_c3 m_law_e3)) (setD 12))
    (mSeq (mAsg (mTold "PatchError" "PatchError" (mCall F_apply_patch (mArg (rd 4) (mArg (rd 6) (ret []))))) (setD 14))
    (mSeq (mAsg (mCall F__law_fitted (mArg (rd 4) (mArg (rd 6) (ret [])))) (setD 15))
    (mSeq (mIf (mOr (mTest (mOp dNe (rd 14) (mIfE (mTest (mUn dIsN (rd 15))) (ret (.str "PatchError")) (rd 15)))) (mTest (mOp dGt (mCb dLen (mArg (rd 12) (ret []))) (mCb dLen (mArg (rd 6) (ret []))))))
    (mRet (ret (.bl false)))
    mNext)
    (mSeq (mAsg (mCall F_patch_text (mArg (rd 6) (ret []))) (setD 16))
    (mSeq (mIf (mOr (mTest (mOp dNe (mCall F_read_patch (mArg (rd 16) (ret []))) (rd 6))) (mTest (mOp dNe (rd 16) (mCall F__law_all (mArg (rd 6) (ret []))))))
    (mRet (ret (.bl false)))
    mNext)
    (mSeq (mAsg (mOp dIx (mLstD (mArg (mLstD (mArg (ret (.str "= 0")) (ret []))) (mArg (mLstD (mArg (ret (.str "= x")) (ret []))) (mArg (mLstD (mArg (ret (.str "= ")) (ret []))) (mArg (mLstD (mArg (ret (.str "* a")) (ret []))) (mArg (mLstD (mArg (ret (.str "")) (ret []))) (mArg (mLstD (mArg (ret (.str "+ a")) (mArg (ret (.str "- b")) (ret [])))) (mArg (mLstD (mArg (ret (.str "= 1")) (mArg (ret (.str "= 2")) (ret [])))) (mArg (mLstD (mArg (ret (.str "= 01")) (ret []))) (mArg (mLstD (mArg (ret (.str "=1")) (ret []))) (mArg (mLstD (mArg (ret (.str "= 1234567")) (ret []))) (ret [])))))))))))) (mCallP F__law_roll 1 (mArg (ret (.int 10)) (ret [])))) (setD 17))
    (mIf (mOr (mTest (mOp dNe (mTold "PatchError" "PatchError" (mCall F_read_patch (mArg (rd 17) (ret [])))) (ret (.str "PatchError")))) (mTest (mOp dNe (mTold "PatchError" "PatchError" (mCall F_read_patch (mArg (mOp dAdd (mCb (fun as => (dList as).map .lst) (mArg (rd 16) (ret []))) (mLstD (mArg (ret (.str "= 1")) (mArg (ret (.str "= 1")) (ret []))))) (ret [])))) (ret (.str "PatchError")))))
    (mRet (ret (.bl false)))
    mNext))))))))))))))))
def m_law_ret : MS :=
  (mRet (mAndV (mOp dEq (mCall F_patch_between (mArg (mTupD (ret [])) (mArg (mTupD (ret [])) (ret [])))) (mTupD (ret []))) (mAndV (mOp dEq (mCall F_apply_patch (mArg (mTupD (ret [])) (mArg (mTupD (ret [])) (ret [])))) (mTupD (ret []))) (mOp dEq (mCall F_read_patch (mArg (mTupD (ret [])) (ret []))) (mTupD (ret []))))))
theorem ok_law {f : Addr} {fd : FuncData} (F : Fun K "law" "law" s_law f fd) (z_len : mg "len" = none) (z_list : mg "list" = none) (z_sum : mg "sum" = none) (z_zip : mg "zip" = none) (X_PatchError : ExcC K mg ca "PatchError") {f__law_rounds : Addr} {fd__law_rounds : FuncData} (C__law_rounds : Cal P w K mg base tb ca "_law_rounds" 2 ["script", "most"] noPin F__law_rounds f__law_rounds fd__law_rounds) {f__law_text : Addr} {fd__law_text : FuncData} (C__law_text : Cal P w K mg base tb ca "_law_text" 2 ["dice"] pin0 F__law_text f__law_text fd__law_text) {f__law_pairs : Addr} {fd__law_pairs : FuncData} (C__law_pairs : Cal P w K mg base tb ca "_law_pairs" 2 ["one", "other"] noPin F__law_pairs f__law_pairs fd__law_pairs) {f_matches : Addr} {fd_matches : FuncData} (C_matches : Cal P w K mg base tb ca "matches" 2 ["one", "other"] noPin F_matches f_matches fd_matches) {f_common_rows : Addr} {fd_common_rows : FuncData} (C_common_rows : Cal P w K mg base tb ca "common_rows" 1 ["one", "other"] noPin F_common_rows f_common_rows fd_common_rows) {f_patch_between : Addr} {fd_patch_between : FuncData} (C_patch_between : Cal P w K mg base tb ca "patch_between" 3 ["one", "other"] noPin F_patch_between f_patch_between fd_patch_between) {f_apply_patch : Addr} {fd_apply_patch : FuncData} (C_apply_patch : Cal P w K mg base tb ca "apply_patch" 1 ["lines", "patch"] noPin F_apply_patch f_apply_patch fd_apply_patch) {f_turned : Addr} {fd_turned : FuncData} (C_turned : Cal P w K mg base tb ca "turned" 1 ["patch"] noPin F_turned f_turned fd_turned) {f_counts : Addr} {fd_counts : FuncData} (C_counts : Cal P w K mg base tb ca "counts" 1 ["patch"] noPin F_counts f_counts fd_counts) {f__law_fitted : Addr} {fd__law_fitted : FuncData} (C__law_fitted : Cal P w K mg base tb ca "_law_fitted" 1 ["lines", "patch"] noPin F__law_fitted f__law_fitted fd__law_fitted) {f_patch_text : Addr} {fd_patch_text : FuncData} (C_patch_text : Cal P w K mg base tb ca "patch_text" 1 ["patch"] noPin F_patch_text f_patch_text fd_patch_text) {f_read_patch : Addr} {fd_read_patch : FuncData} (C_read_patch : Cal P w K mg base tb ca "read_patch" 2 ["lines"] noPin F_read_patch f_read_patch fd_read_patch) {f__law_all : Addr} {fd__law_all : FuncData} (C__law_all : Cal P w K mg base tb ca "_law_all" 2 ["patch"] noPin F__law_all f__law_all fd__law_all) {f__law_roll : Addr} {fd__law_roll : FuncData} (C__law_roll : Cal P w K mg base tb ca "_law_roll" 1 ["dice", "many"] pin0 F__law_roll f__law_roll fd__law_roll) {cc PL : Addr} (kc : fd.code = .ref cc) (TBl : LamX.TabB base mg cc PL) (hPL : (PL, lamQ "law") ∈ tb.LT) (hUL : ∀ p ∈ tb.LT, p.1 = PL → p.2 = lamQ "law") (hGL : ∀ q ∈ tb.GT, q ≠ PL) {f_told : Addr} {fd_told : FuncData} (T_told : Fun K "_law_told" "_law_told" s_told f_told fd_told) (T_toldg : mg "_law_told" = some (.ref f_told)) (T_toldb : Binds K fd_told ["what"] []) :
    FnOk P w K mg base (L2.CX P w) 5 f fd ["script"] (spLawP K tb (GoodL N_law.length 1 m_law_call m_law_body m_law_ret)) := by
  refine fn_law (N := N_law) (k := 4) (i := 1) (ca := ca) F sc_law (by decide) (by decide) fun cdv A outer s H E kcv hr => ?_
  have nd : (N_law).Nodup := sc_law.nd
  have tk : Takes (cxOf (L2.CX P w) P w K mg base N_law "law" (defScope s_law) f cdv A outer s H E) (wOf ca (ccOf K tb ca noPin E).xw) := takesB (L2.takes_of rfl rfl rfl rfl)
  have hcode : (cxOf (L2.CX P w) P w K mg base N_law "law" (defScope s_law) f cdv A outer s H E).env.code = .ref cc := kcv.symm.trans kc
  exact ⟨_, _, _, (pss_cons (ps_for PassesOwn.leaving rfl (pi_seq (pe_callSD C__law_rounds.ok (hr.mono (by decide)) rfl C__law_rounds.g C__law_rounds.kp C__law_rounds.b .nil (fun σ => passAt tk σ) (pa_cons (pv 0) (pa_cons pe_int pa_nil)))) (pg_name (i := 1) nd rfl (by first | exact Or.inl rfl | exact Or.inr rfl))
    (pss_cons (ps_asg (pe_tup (pa_cons (pe_callSD C__law_text.ok (hr.mono (by decide)) rfl C__law_text.g C__law_text.kp C__law_text.b .nil (fun σ => passAt tk σ) (pa_cons (pv 1) pa_nil)) (pa_cons (pe_callSD C__law_text.ok (hr.mono (by decide)) rfl C__law_text.g C__law_text.kp C__law_text.b .nil (fun σ => passAt tk σ) (pa_cons (pv 1) pa_nil)) (pa_cons (pe_callSD C__law_text.ok (hr.mono (by decide)) rfl C__law_text.g C__law_text.kp C__law_text.b .nil (fun σ => passAt tk σ) (pa_cons (pv 1) pa_nil)) pa_nil)))) (pg_tup rfl (pgs_cons (pg_name (i := 2) nd rfl (by first | exact Or.inl rfl | exact Or.inr rfl)) (pgs_cons (pg_name (i := 3) nd rfl (by first | exact Or.inl rfl | exact Or.inr rfl)) (pgs_cons (pg_name (i := 4) nd rfl (by first | exact Or.inl rfl | exact Or.inr rfl)) pgs_nil)))))
    (pss_cons (ps_set (i := 5) nd rfl (by first | exact Or.inl rfl | exact Or.inr rfl) (pe_callSD C__law_pairs.ok (hr.mono (by decide)) rfl C__law_pairs.g C__law_pairs.kp C__law_pairs.b .nil (fun σ => passAt tk σ) (pa_cons (pv 2) (pa_cons (pv 3) pa_nil))))
    (pss_cons (ps_if (PW.pt (pw_or (pt_cmpR (op_neP hr.units) (pe_callTy call_list_of (by rfl) z_list (by decide +kernel) (pa_cons (pe_callSD C_matches.ok (hr.mono (by decide)) rfl C_matches.g C_matches.kp C_matches.b .nil (fun σ => passAt tk σ) (pa_cons (pv 2) (pa_cons (pv 3) pa_nil))) pa_nil)) (pv 5) (nomark _)) (pw_or1 (pt_cmpR (op_neP hr.units) (pe_ix ix_seq (pe_ix ix_seq (pe_callSD C_common_rows.ok (hr.mono (by decide)) rfl C_common_rows.g C_common_rows.kp C_common_rows.b .nil (fun σ => passAt tk σ) (pa_cons (pv 2) (pa_cons (pv 3) pa_nil))) pe_int (fun _ _ => rfl)) pe_int (fun _ _ => rfl)) (pe_callB call_len (by rfl) z_len PySem.boot_len (pa_cons (pv 5) pa_nil)) (nomark _)))))
    (pss_one (ps_ret pe_bl))
    pss_nil)
    (pss_cons (ps_set (i := 6) nd rfl (by first | exact Or.inl rfl | exact Or.inr rfl) (pe_callSD C_patch_between.ok (hr.mono (by decide)) rfl C_patch_between.g C_patch_between.kp C_patch_between.b .nil (fun σ => passAt tk σ) (pa_cons (pv 2) (pa_cons (pv 3) pa_nil))))
    (pss_cons (ps_if (PW.pt (pw_or (pt_cmpR (op_neP hr.units) (pe_callSD C_apply_patch.ok (hr.mono (by decide)) rfl C_apply_patch.g C_apply_patch.kp C_apply_patch.b .nil (fun σ => passAt tk σ) (pa_cons (pv 2) (pa_cons (pv 6) pa_nil))) (pv 3) (nomark _)) (pw_or (pt_cmpR (op_neP hr.units) (pe_callSD C_apply_patch.ok (hr.mono (by decide)) rfl C_apply_patch.g C_apply_patch.kp C_apply_patch.b .nil (fun σ => passAt tk σ) (pa_cons (pv 3) (pa_cons (pe_callSD C_turned.ok (hr.mono (by decide)) rfl C_turned.g C_turned.kp C_turned.b .nil (fun σ => passAt tk σ) (pa_cons (pv 6) pa_nil)) pa_nil))) (pv 2) (nomark _)) (pw_or1 (pt_cmpR (op_neP hr.units) (pe_callSD C_turned.ok (hr.mono (by decide)) rfl C_turned.g C_turned.kp C_turned.b .nil (fun σ => passAt tk σ) (pa_cons (pe_callSD C_turned.ok (hr.mono (by decide)) rfl C_turned.g C_turned.kp C_turned.b .nil (fun σ => passAt tk σ) (pa_cons (pv 6) pa_nil)) pa_nil)) (pv 6) (nomark _))))))
    (pss_one (ps_ret pe_bl))
    pss_nil)
    (pss_cons (ps_set (i := 7) nd rfl (by first | exact Or.inl rfl | exact Or.inr rfl) (pe_callB (cr_sum rfl) (by rfl) z_sum (by decide +kernel) (pa_cons (pe_lc (own := [("word", 8), ("value", 9)]) rfl nd (pi_seq (pv 6)) (blkOk_by (N := N_law) (sc := defScope s_law) (by decide +kernel)) (fun _ _ _ _ _ => (pg_tup rfl (pgs_cons (pg_name (i := 8) nd rfl (by first | exact Or.inl rfl | exact Or.inr rfl)) (pgs_cons (pg_name (i := 9) nd rfl (by first | exact Or.inl rfl | exact Or.inr rfl)) pgs_nil)))) (fun _ _ _ _ _ => (pts_one (pt_cmpR (op_eqP hr.units) (pv 8) pe_str (nomark _)))) (fun _ _ _ _ _ => (pv 9))) pa_nil)))
    (pss_cons (ps_if (PW.pt (pw_or (pt_cmpR (op_neP hr.units) (pe_callSD C_counts.ok (hr.mono (by decide)) rfl C_counts.g C_counts.kp C_counts.b .nil (fun σ => passAt tk σ) (pa_cons (pv 6) pa_nil)) (pe_tup (pa_cons (pe_op op_sub (pe_callB call_len (by rfl) z_len PySem.boot_len (pa_cons (pv 3) pa_nil)) (pe_callB call_len (by rfl) z_len PySem.boot_len (pa_cons (pv 5) pa_nil))) (pa_cons (pe_op op_sub (pe_callB call_len (by rfl) z_len PySem.boot_len (pa_cons (pv 2) pa_nil)) (pe_callB call_len (by rfl) z_len PySem.boot_len (pa_cons (pv 5) pa_nil))) pa_nil))) (nomark _)) (pw_or1 (pt_cmpR (op_neP hr.units) (pv 7) (pe_callB call_len (by rfl) z_len PySem.boot_len (pa_cons (pv 5) pa_nil)) (nomark _)))))
    (pss_one (ps_ret pe_bl))
    pss_nil)
    (pss_cons (ps_if (pt_cmpR (op_neP hr.units) (pe_lc (own := [("a", 10), ("b", 11)]) rfl nd (RZ.pi_zipA (by rfl) z_zip (pa_cons (pv 6) (pa_cons (pe_slice sl_all (pv 6) (po_some pe_int) po_none) pa_nil))) (blkOk_by (N := N_law) (sc := defScope s_law) (by decide +kernel)) (fun _ _ _ _ _ => (pg_tup rfl (pgs_cons (pg_name (i := 10) nd rfl (by first | exact Or.inl rfl | exact Or.inr rfl)) (pgs_cons (pg_name (i := 11) nd rfl (by first | exact Or.inl rfl | exact Or.inr rfl)) pgs_nil)))) (fun _ _ _ _ _ => (pts_one (PW.pt (pw_or (pt_cmpR (op_eqP hr.units) (pe_ix ix_seq (pv 10) pe_int (fun _ _ => rfl)) (pe_ix ix_seq (pv 11) pe_int (fun _ _ => rfl)) (nomark _)) (pw_or1 (PW.pt (pw_and (pt_cmpR (op_eqP hr.units) (pe_ix ix_seq (pv 10) pe_int (fun _ _ => rfl)) pe_str (nomark _)) (pw_and1 (pt_cmpR (op_eqP hr.units) (pe_ix ix_seq (pv 11) pe_int (fun _ _ => rfl)) pe_str (nomark _)))))))))) (fun _ _ _ _ _ => pe_int)) (pe_lst pa_nil) (nomark _))
    (pss_one (ps_ret pe_bl))
    pss_nil)
    (pss_cons (ps_setLc (i := 12) (own := [("row", 13)]) rfl nd rfl rfl (sw_true rfl rfl rfl (by decide +kernel)) (pi_seq (pv 6)) (blkOk_by (N := N_law) (sc := defScope s_law) (by decide +kernel)) (fun _ _ _ _ _ => (pg_name (i := 13) nd rfl (by first | exact Or.inl rfl | exact Or.inr rfl))) (fun _ _ _ _ _ => (pts_one (pt_cmpR (op_eqP hr.units) (pe_ix ix_seq (pv 13) pe_int (fun _ _ => rfl)) pe_str (nomark _)))) (fun _ _ _ _ _ => (pv 13)))
    (pss_cons (ps_set (i := 14) nd rfl (by first | exact Or.inl rfl | exact Or.inr rfl) (pe_told (k := 1) T_told T_toldg T_toldb sc_told (by rfl) (by rfl) X_PatchError (by rfl) TBl hcode (hr.mono (by decide)) (LamX.lamS_by (sc := defScope s_law) (by decide +kernel)) (by rfl) (fun _ _ _ _ _ => rfl) (fun _ _ _ _ _ _ _ hr => (pe_callSD C_apply_patch.ok (hr.mono (by decide)) rfl C_apply_patch.g C_apply_patch.kp C_apply_patch.b .nil (fun σ => passAt tk_lam σ) (pa_cons (pv 4) (pa_cons (pv 6) pa_nil)))) (Or.inl rfl) (by decide) (by decide) (by decide) (by decide)))
    (pss_cons (ps_set (i := 15) nd rfl (by first | exact Or.inl rfl | exact Or.inr rfl) (pe_callSD C__law_fitted.ok (hr.mono (by decide)) rfl C__law_fitted.g C__law_fitted.kp C__law_fitted.b .nil (fun σ => passAt tk σ) (pa_cons (pv 4) (pa_cons (pv 6) pa_nil))))
    (pss_cons (ps_if (PW.pt (pw_or (pt_cmpR (op_neP hr.units) (pv 14) (pe_ifExp (pt_cmp (pc_isN (pv 15))) pe_str (pv 15)) (nomark _)) (pw_or1 (pt_cmpR op_gt (pe_callB call_len (by rfl) z_len PySem.boot_len (pa_cons (pv 12) pa_nil)) (pe_callB call_len (by rfl) z_len PySem.boot_len (pa_cons (pv 6) pa_nil)) (nomark _)))))
    (pss_one (ps_ret pe_bl))
    pss_nil)
    (pss_cons (ps_set (i := 16) nd rfl (by first | exact Or.inl rfl | exact Or.inr rfl) (pe_callSD C_patch_text.ok (hr.mono (by decide)) rfl C_patch_text.g C_patch_text.kp C_patch_text.b .nil (fun σ => passAt tk σ) (pa_cons (pv 6) pa_nil)))
    (pss_cons (ps_if (PW.pt (pw_or (pt_cmpR (op_neP hr.units) (pe_callSD C_read_patch.ok (hr.mono (by decide)) rfl C_read_patch.g C_read_patch.kp C_read_patch.b .nil (fun σ => passAt tk σ) (pa_cons (pv 16) pa_nil)) (pv 6) (nomark _)) (pw_or1 (pt_cmpR (op_neP hr.units) (pv 16) (pe_callSD C__law_all.ok (hr.mono (by decide)) rfl C__law_all.g C__law_all.kp C__law_all.b .nil (fun σ => passAt tk σ) (pa_cons (pv 6) pa_nil)) (nomark _)))))
    (pss_one (ps_ret pe_bl))
    pss_nil)
    (pss_cons (ps_set (i := 17) nd rfl (by first | exact Or.inl rfl | exact Or.inr rfl) (pe_ix ix_seq (pe_lst (pa_cons (pe_lst (pa_cons pe_str pa_nil)) (pa_cons (pe_lst (pa_cons pe_str pa_nil)) (pa_cons (pe_lst (pa_cons pe_str pa_nil)) (pa_cons (pe_lst (pa_cons pe_str pa_nil)) (pa_cons (pe_lst (pa_cons pe_str pa_nil)) (pa_cons (pe_lst (pa_cons pe_str (pa_cons pe_str pa_nil))) (pa_cons (pe_lst (pa_cons pe_str (pa_cons pe_str pa_nil))) (pa_cons (pe_lst (pa_cons pe_str pa_nil)) (pa_cons (pe_lst (pa_cons pe_str pa_nil)) (pa_cons (pe_lst (pa_cons pe_str pa_nil)) pa_nil))))))))))) (pe_callSD C__law_roll.ok (hr.mono (by decide)) rfl C__law_roll.g C__law_roll.kp C__law_roll.b .nil (fun σ => passAt tk σ) (pa_cons (pv 1) (pa_cons pe_int pa_nil))) (fun _ _ => rfl)))
    (pss_one (ps_if (PW.pt (pw_or (pt_cmpR (op_neP hr.units) (pe_told (k := 2) T_told T_toldg T_toldb sc_told (by rfl) (by rfl) X_PatchError (by rfl) TBl hcode (hr.mono (by decide)) (LamX.lamS_by (sc := defScope s_law) (by decide +kernel)) (by rfl) (fun _ _ _ _ _ => rfl) (fun _ _ _ _ _ _ _ hr => (pe_callSD C_read_patch.ok (hr.mono (by decide)) rfl C_read_patch.g C_read_patch.kp C_read_patch.b .nil (fun σ => passAt tk_lam σ) (pa_cons (pv 17) pa_nil))) (Or.inl rfl) (by decide) (by decide) (by decide) (by decide)) pe_str (nomark _)) (pw_or1 (pt_cmpR (op_neP hr.units) (pe_told (k := 2) T_told T_toldg T_toldb sc_told (by rfl) (by rfl) X_PatchError (by rfl) TBl hcode (hr.mono (by decide)) (LamX.lamS_by (sc := defScope s_law) (by decide +kernel)) (by rfl) (fun _ _ _ _ _ => rfl) (fun _ _ _ _ _ _ _ hr => (pe_callSD C_read_patch.ok (hr.mono (by decide)) rfl C_read_patch.g C_read_patch.kp C_read_patch.b .nil (fun σ => passAt tk_lam σ) (pa_cons (pe_op op_addAll (pe_callTy call_list_of (by rfl) z_list (by decide +kernel) (pa_cons (pv 16) pa_nil)) (pe_lst (pa_cons pe_str (pa_cons pe_str pa_nil)))) pa_nil))) (Or.inl rfl) (by decide) (by decide) (by decide) (by decide)) pe_str (nomark _)))))
    (pss_one (ps_ret pe_bl))
    pss_nil))))))))))))))))))
    (pss_one (ps_ret (pe_and (pe_cmpR (op_eqP hr.units) (pe_callSD C_patch_between.ok (hr.mono (by decide)) rfl C_patch_between.g C_patch_between.kp C_patch_between.b .nil (fun σ => passAt tk σ) (pa_cons (pe_tup pa_nil) (pa_cons (pe_tup pa_nil) pa_nil))) (pe_tup pa_nil) (nomark _)) (pe_and (pe_cmpR (op_eqP hr.units) (pe_callSD C_apply_patch.ok (hr.mono (by decide)) rfl C_apply_patch.g C_apply_patch.kp C_apply_patch.b .nil (fun σ => passAt tk σ) (pa_cons (pe_tup pa_nil) (pa_cons (pe_tup pa_nil) pa_nil))) (pe_tup pa_nil) (nomark _)) (pe_one (pe_cmpR (op_eqP hr.units) (pe_callSD C_read_patch.ok (hr.mono (by decide)) rfl C_read_patch.g C_read_patch.kp C_read_patch.b .nil (fun σ => passAt tk σ) (pa_cons (pe_tup pa_nil) pa_nil)) (pe_tup pa_nil) (nomark _)))))))),
    (se_call (sa_cons (se_var (i := 0) rfl) (sa_cons (se_c fun _ => .int _) sa_nil)) (ln_cons (ln_cons ln_nil))),
    (ss_seq (ss_asg (se_tup (sa_cons (se_callP (j := 1) sa_nil (Ln_pin ln_nil)) (sa_cons (se_callP (j := 1) sa_nil (Ln_pin ln_nil)) (sa_cons (se_callP (j := 1) sa_nil (Ln_pin ln_nil)) sa_nil)))) (sg_tup (n := 3) (sgs_cons (sg_name (i := 2) rfl) (sgs_cons (sg_name (i := 3) rfl) (sgs_cons (sg_name (i := 4) rfl) sgs_nil)))))
    (ss_seq (ss_asg (se_call (sa_cons (se_var (i := 2) rfl) (sa_cons (se_var (i := 3) rfl) sa_nil)) (ln_cons (ln_cons ln_nil))) (sg_name (i := 5) rfl))
    (ss_seq (ss_if (st_or (st_test (se_op rop_ne (se_cb rca_list (sa_cons (se_call (sa_cons (se_var (i := 2) rfl) (sa_cons (se_var (i := 3) rfl) sa_nil)) (ln_cons (ln_cons ln_nil))) sa_nil)) (se_var (i := 5) rfl))) (st_test (se_op rop_ne (se_op rop_ix (se_op rop_ix (se_call (sa_cons (se_var (i := 2) rfl) (sa_cons (se_var (i := 3) rfl) sa_nil)) (ln_cons (ln_cons ln_nil))) (se_c fun _ => .int _)) (se_c fun _ => .int _)) (se_cb rca_len (sa_cons (se_var (i := 5) rfl) sa_nil)))))
    (ss_ret (se_c fun _ => .bl _))
    ss_next)
    (ss_seq (ss_asg (se_call (sa_cons (se_var (i := 2) rfl) (sa_cons (se_var (i := 3) rfl) sa_nil)) (ln_cons (ln_cons ln_nil))) (sg_name (i := 6) rfl))
    (ss_seq (ss_if (st_or (st_test (se_op rop_ne (se_call (sa_cons (se_var (i := 2) rfl) (sa_cons (se_var (i := 6) rfl) sa_nil)) (ln_cons (ln_cons ln_nil))) (se_var (i := 3) rfl))) (st_or (st_test (se_op rop_ne (se_call (sa_cons (se_var (i := 3) rfl) (sa_cons (se_call (sa_cons (se_var (i := 6) rfl) sa_nil) (ln_cons ln_nil)) sa_nil)) (ln_cons (ln_cons ln_nil))) (se_var (i := 2) rfl))) (st_test (se_op rop_ne (se_call (sa_cons (se_call (sa_cons (se_var (i := 6) rfl) sa_nil) (ln_cons ln_nil)) sa_nil) (ln_cons ln_nil)) (se_var (i := 6) rfl)))))
    (ss_ret (se_c fun _ => .bl _))
    ss_next)
    (ss_seq (ss_asg (se_cb rca_sum (sa_cons (se_lcS (vs := [8, 9]) ⟨(by decide : ([8, 9] : List Nat).Nodup), (by decide : ∀ v ∈ ([8, 9] : List Nat), noPin v = false)⟩ (se_var (i := 6) rfl) (sg_tup (n := 2) (sgs_cons (sg_name (i := 8) rfl) (sgs_cons (sg_name (i := 9) rfl) sgs_nil))) (gw_tup (gw_cons (by decide) (gw_cons (by decide) gw_nil))) (st_test (se_op rop_eq (se_var (i := 8) rfl) (se_c fun _ => .str _))) (se_var (i := 9) rfl)) sa_nil)) (sg_name (i := 7) rfl))
    (ss_seq (ss_if (st_or (st_test (se_op rop_ne (se_call (sa_cons (se_var (i := 6) rfl) sa_nil) (ln_cons ln_nil)) (se_tup (sa_cons (se_op rop_sub (se_cb rca_len (sa_cons (se_var (i := 3) rfl) sa_nil)) (se_cb rca_len (sa_cons (se_var (i := 5) rfl) sa_nil))) (sa_cons (se_op rop_sub (se_cb rca_len (sa_cons (se_var (i := 2) rfl) sa_nil)) (se_cb rca_len (sa_cons (se_var (i := 5) rfl) sa_nil))) sa_nil))))) (st_test (se_op rop_ne (se_var (i := 7) rfl) (se_cb rca_len (sa_cons (se_var (i := 5) rfl) sa_nil)))))
    (ss_ret (se_c fun _ => .bl _))
    ss_next)
    (ss_seq (ss_if (st_test (se_op rop_ne (se_lcZ (vs := [10, 11]) ⟨(by decide : ([10, 11] : List Nat).Nodup), (by decide : ∀ v ∈ ([10, 11] : List Nat), noPin v = false)⟩ (sa_cons (se_var (i := 6) rfl) (sa_cons (se_sl (se_var (i := 6) rfl) (so_some (se_c fun _ => .int _)) so_none) sa_nil)) (sg_tup (n := 2) (sgs_cons (sg_name (i := 10) rfl) (sgs_cons (sg_name (i := 11) rfl) sgs_nil))) (gw_tup (gw_cons (by decide) (gw_cons (by decide) gw_nil))) (st_or (st_test (se_op rop_eq (se_op rop_ix (se_var (i := 10) rfl) (se_c fun _ => .int _)) (se_op rop_ix (se_var (i := 11) rfl) (se_c fun _ => .int _)))) (st_and (st_test (se_op rop_eq (se_op rop_ix (se_var (i := 10) rfl) (se_c fun _ => .int _)) (se_c fun _ => .str _))) (st_test (se_op rop_eq (se_op rop_ix (se_var (i := 11) rfl) (se_c fun _ => .int _)) (se_c fun _ => .str _))))) (se_c fun _ => .int _)) (se_lst sa_nil)))
    (ss_ret (se_c fun _ => .bl _))
    ss_next)
    (ss_seq (ss_asg (se_lcS (vs := [13]) ⟨(by decide : ([13] : List Nat).Nodup), (by decide : ∀ v ∈ ([13] : List Nat), noPin v = false)⟩ (se_var (i := 6) rfl) (sg_name (i := 13) rfl) (gw_name (by decide)) (st_test (se_op rop_eq (se_op rop_ix (se_var (i := 13) rfl) (se_c fun _ => .int _)) (se_c fun _ => .str _))) (se_var (i := 13) rfl)) (sg_name (i := 12) rfl))
    (ss_seq (ss_asg (se_told hPL hUL hGL (X_PatchError).xm fun _ => (se_call (sa_cons (se_var (i := 4) rfl) (sa_cons (se_var (i := 6) rfl) sa_nil)) (ln_cons (ln_cons ln_nil)))) (sg_name (i := 14) rfl))
    (ss_seq (ss_asg (se_call (sa_cons (se_var (i := 4) rfl) (sa_cons (se_var (i := 6) rfl) sa_nil)) (ln_cons (ln_cons ln_nil))) (sg_name (i := 15) rfl))
    (ss_seq (ss_if (st_or (st_test (se_op rop_ne (se_var (i := 14) rfl) (se_if (st_isN (se_var (i := 15) rfl)) (se_c fun _ => .str _) (se_var (i := 15) rfl)))) (st_test (se_op rop_gt (se_cb rca_len (sa_cons (se_var (i := 12) rfl) sa_nil)) (se_cb rca_len (sa_cons (se_var (i := 6) rfl) sa_nil)))))
    (ss_ret (se_c fun _ => .bl _))
    ss_next)
    (ss_seq (ss_asg (se_call (sa_cons (se_var (i := 6) rfl) sa_nil) (ln_cons ln_nil)) (sg_name (i := 16) rfl))
    (ss_seq (ss_if (st_or (st_test (se_op rop_ne (se_call (sa_cons (se_var (i := 16) rfl) sa_nil) (ln_cons ln_nil)) (se_var (i := 6) rfl))) (st_test (se_op rop_ne (se_var (i := 16) rfl) (se_call (sa_cons (se_var (i := 6) rfl) sa_nil) (ln_cons ln_nil)))))
    (ss_ret (se_c fun _ => .bl _))
    ss_next)
    (ss_seq (ss_asg (se_op rop_ix (se_lst (sa_cons (se_lst (sa_cons (se_c fun _ => .str _) sa_nil)) (sa_cons (se_lst (sa_cons (se_c fun _ => .str _) sa_nil)) (sa_cons (se_lst (sa_cons (se_c fun _ => .str _) sa_nil)) (sa_cons (se_lst (sa_cons (se_c fun _ => .str _) sa_nil)) (sa_cons (se_lst (sa_cons (se_c fun _ => .str _) sa_nil)) (sa_cons (se_lst (sa_cons (se_c fun _ => .str _) (sa_cons (se_c fun _ => .str _) sa_nil))) (sa_cons (se_lst (sa_cons (se_c fun _ => .str _) (sa_cons (se_c fun _ => .str _) sa_nil))) (sa_cons (se_lst (sa_cons (se_c fun _ => .str _) sa_nil)) (sa_cons (se_lst (sa_cons (se_c fun _ => .str _) sa_nil)) (sa_cons (se_lst (sa_cons (se_c fun _ => .str _) sa_nil)) sa_nil))))))))))) (se_callP (j := 1) (sa_cons (se_c fun _ => .int _) sa_nil) (Ln_pin (ln_cons ln_nil)))) (sg_name (i := 17) rfl))
    (ss_if (st_or (st_test (se_op rop_ne (se_told hPL hUL hGL (X_PatchError).xm fun _ => (se_call (sa_cons (se_var (i := 17) rfl) sa_nil) (ln_cons ln_nil))) (se_c fun _ => .str _))) (st_test (se_op rop_ne (se_told hPL hUL hGL (X_PatchError).xm fun _ => (se_call (sa_cons (se_op rop_add (se_cb rca_list (sa_cons (se_var (i := 16) rfl) sa_nil)) (se_lst (sa_cons (se_c fun _ => .str _) (sa_cons (se_c fun _ => .str _) sa_nil)))) sa_nil) (ln_cons ln_nil))) (se_c fun _ => .str _))))
    (ss_ret (se_c fun _ => .bl _))
    ss_next)))))))))))))))),
    (ss_ret (se_and (se_op rop_eq (se_call (sa_cons (se_tup sa_nil) (sa_cons (se_tup sa_nil) sa_nil)) (ln_cons (ln_cons ln_nil))) (se_tup sa_nil)) (se_and (se_op rop_eq (se_call (sa_cons (se_tup sa_nil) (sa_cons (se_tup sa_nil) sa_nil)) (ln_cons (ln_cons ln_nil))) (se_tup sa_nil)) (se_op rop_eq (se_call (sa_cons (se_tup sa_nil) sa_nil) (ln_cons ln_nil)) (se_tup sa_nil)))))⟩
end
end K02
end
section
set_option maxHeartbeats 0
namespace K02
open PySem PySem.Spec PyProof.Rows L2 PD
def d_common_rows : He.DefD := ⟨("common_rows", none), "common_rows", "common_rows", defArgs (top 9), defBody (top 9), defScope (top 9), [], []⟩
def d_same_start : He.DefD := ⟨("same_start", none), "same_start", "same_start", defArgs (top 10), defBody (top 10), defScope (top 10), [], []⟩
def d_matches : He.DefD := ⟨("matches", none), "matches", "matches", defArgs (top 11), defBody (top 11), defScope (top 11), [], []⟩
def d_patch_between : He.DefD := ⟨("patch_between", none), "patch_between", "patch_between", defArgs (top 12), defBody (top 12), defScope (top 12), [], []⟩
def d_apply_patch : He.DefD := ⟨("apply_patch", none), "apply_patch", "apply_patch", defArgs (top 13), defBody (top 13), defScope (top 13), [], []⟩
def d_turned : He.DefD := ⟨("turned", none), "turned", "turned", defArgs (top 14), defBody (top 14), defScope (top 14), [], []⟩
def d_patch_text : He.DefD := ⟨("patch_text", none), "patch_text", "patch_text", defArgs (top 15), defBody (top 15), defScope (top 15), [], []⟩
def d_number_kept : He.DefD := ⟨("number_kept", none), "number_kept", "number_kept", defArgs (top 16), defBody (top 16), defScope (top 16), [], []⟩
def d_read_patch : He.DefD := ⟨("read_patch", none), "read_patch", "read_patch", defArgs (top 17), defBody (top 17), defScope (top 17), [], []⟩
def d_counts : He.DefD := ⟨("counts", none), "counts", "counts", defArgs (top 18), defBody (top 18), defScope (top 18), [], []⟩
def d__law_dice : He.DefD := ⟨("_law_dice", none), "_law_dice", "_law_dice", defArgs (top 20), defBody (top 20), defScope (top 20), [], []⟩
def d__law_roll : He.DefD := ⟨("_law_roll", none), "_law_roll", "_law_roll", defArgs (top 21), defBody (top 21), defScope (top 21), [], []⟩
def d__law_rounds : He.DefD := ⟨("_law_rounds", none), "_law_rounds", "_law_rounds", defArgs (top 22), defBody (top 22), defScope (top 22), [], []⟩
def d__law_told : He.DefD := ⟨("_law_told", none), "_law_told", "_law_told", defArgs (top 23), defBody (top 23), defScope (top 23), [], []⟩
def d__law_pairs : He.DefD := ⟨("_law_pairs", none), "_law_pairs", "_law_pairs", defArgs (top 24), defBody (top 24), defScope (top 24), [], []⟩
def d__law_text : He.DefD := ⟨("_law_text", none), "_law_text", "_law_text", defArgs (top 25), defBody (top 25), defScope (top 25), [], []⟩
def d__law_fitted : He.DefD := ⟨("_law_fitted", none), "_law_fitted", "_law_fitted", defArgs (top 26), defBody (top 26), defScope (top 26), [], []⟩
def d__law_rows : He.DefD := ⟨("_law_rows", none), "_law_rows", "_law_rows", defArgs (top 27), defBody (top 27), defScope (top 27), [], []⟩
def d__law_all : He.DefD := ⟨("_law_all", none), "_law_all", "_law_all", defArgs (top 28), defBody (top 28), defScope (top 28), [], []⟩
def d_law : He.DefD := ⟨("law", none), "law", "law", defArgs (top 29), defBody (top 29), defScope (top 29), [], []⟩
def fn : List He.DefD := [d_common_rows, d_same_start, d_matches, d_patch_between, d_apply_patch, d_turned, d_patch_text, d_number_kept, d_read_patch, d_counts, d__law_dice, d__law_roll, d__law_rounds, d__law_told, d__law_pairs, d__law_text, d__law_fitted, d__law_rows, d__law_all, d_law]
def fa : List He.Fa := [.glo "common_rows", .glo "same_start", .glo "matches", .glo "patch_between", .glo "apply_patch", .glo "turned", .glo "patch_text", .glo "number_kept", .glo "read_patch", .glo "counts", .glo "_law_dice", .glo "_law_roll", .glo "_law_rounds", .glo "_law_told", .glo "_law_pairs", .glo "_law_text", .glo "_law_fitted", .glo "_law_rows", .glo "_law_all", .glo "law", .free "abs", .free "any", .free "int", .free "len", .free "list", .free "max", .free "range", .free "reversed", .free "str", .free "sum", .free "tuple", .free "zip", .str "DIGITS" "0123456789", .int "MOST_DIGITS" 6, .glo "SIGNS_OF_WORDS", .glo "WORDS_OF_SIGNS", .glo "WORDS_BACK", .glo "PatchError", .exc "PatchError", .exm "PatchError" "PatchError" true]
def ts : List He.Tab := [(fun K => He.ga K "SIGNS_OF_WORDS", kv_SIGNS_OF_WORDS.map (·.1)), (fun K => He.ga K "WORDS_OF_SIGNS", kv_WORDS_OF_SIGNS.map (·.1)), (fun K => He.ga K "WORDS_BACK", kv_WORDS_BACK.map (·.1))]
def tf : List He.Defn := [("number_kept", none), ("law", none)]
def ex (K : PySem.W.Frag) : Bool := He.valsB K (He.ga K "SIGNS_OF_WORDS") (kv_SIGNS_OF_WORDS.map fun q => (q.1, He.Dv.str q.2)) && He.valsB K (He.ga K "WORDS_OF_SIGNS") (kv_WORDS_OF_SIGNS.map fun q => (q.1, He.Dv.str q.2)) && He.valsB K (He.ga K "WORDS_BACK") (kv_WORDS_BACK.map fun q => (q.1, He.Dv.str q.2)) && !((He.cT K ("number_kept", none)).2 == (He.cT K ("law", none)).2)
abbrev R : PySem.W.OpenRow := PySem.W.OpenLaw.row PySem.Challenge.rw_landstack_k02_patches_between_texts
abbrev hk : PySem.W.Hook := He.hookX 4 fa fn ts tf ex
def ob (s : PySem.W.SharedT) : He.AlX := He.obsX 4 fa fn ts tf ex (HandSHeadRun.getT s)
theorem ob_eq (s : PySem.W.SharedT) : ob s = hk.obs s.abs := He.obsX_eq (HandSHeadRun.getT_eq s)
def loose : List Str := ["HostError", "PatchError", "DIGITS", "MOST_DIGITS", "SIGNS_OF_WORDS", "WORDS_OF_SIGNS", "WORDS_BACK", "common_rows", "same_start", "matches", "patch_between", "apply_patch", "turned", "patch_text", "number_kept", "read_patch", "counts", "_law_dice", "_law_roll", "_law_rounds", "_law_told", "_law_pairs", "_law_text", "_law_fitted", "_law_rows", "_law_all"]
theorem run (w : World) : HandSHeadRun.RunEq R (PySem.W.view R.prog [29]) hk ob 2000 loose w := by
  refine PySem.W.byRow2 "special-get-raises" (P := fun w => HandSHeadRun.RunEq R (PySem.W.view R.prog [29]) hk ob 2000 loose w) ?_ ?_ w
  · intro w os; kernel_rfl
  · intro w os; kernel_rfl
end K02
end
section
set_option maxHeartbeats 0
namespace K02
open PySem L2 PD
theorem fmod_range (a m : Int) (h : 0 < m) : 0 ≤ a.fmod m ∧ a.fmod m < m := ⟨Int.fmod_nonneg_of_pos a h, Int.fmod_lt_of_pos a h⟩
def dice3 (a b c : Int) : Own := .lst [.int a, .int b, .int c]
theorem roll_ok (d0 d1 d2 many : Int) (h : 0 < many) (h2 : many ≤ 100000000) :
    ∃ r e0 e1 e2, 0 ≤ r ∧ r < many ∧ F__law_roll [.pin (dice3 d0 d1 d2), .dat (.int many)] = some (.ok (.int r) [.pin (dice3 e0 e1 e2), .non]) := by
  have hm : (many != 0) = true := by simp; omega
  have hm2 : (decide (0 < many) && decide (many < 1073741824)) = true := by simp; omega
  by_cases c : d2 = 2 ∨ (d2 = 1 ∧ 0 < d0)
  · refine ⟨d0.fmod many, d0 / many, d1, d2, (fmod_range _ _ h).1, (fmod_range _ _ h).2, ?_⟩
    unfold F__law_roll m__law_roll dice3
    rcases c with rfl | ⟨rfl, c⟩
    · simp [mSeq, mE, mIf, mRet, mAsg, mDrop, mAug, mPar, mPar3, mNext, mBreak, mCont, setD, setCons, setTup, setNil, mOp, mUn, mCb, mArg, mTest, mTru, mAnd, mOr, mNot, mIfE, mChain, mTupD, mLstD, mLstO, mSetO, mPart, mSl, mAndV, mOrV, mNotV, bnd, PD.ret, lft, rd, rdD, asB, asI, mIxO, ixOwn, ownAt, ownSet, mSetAtO, mSetAt, mMeth, mLenO, mTruO, mCall, mCallP, locsP, runF, okEnd, isPin, clean, cleanL, noPin, pin0, mTup, mLst, mCbO, mOpO, asL, asO, mLc, inB, mFor, mForE, mForR, mRaiseE, mRaise, mTold, Own.d, dInt, dInt2, dSub, dDiv, dMod, dLt, dLe, dGt, dGe, dNeg, dIpAdd, dLen, dIntOf, dAbs, dMax2, dTuple, dList, dIsN, elems, dFmt, dStrI, List.getElem?_cons_zero, List.getElem?_cons_succ, List.set_cons_zero, List.set_cons_succ, List.length_cons, List.length_nil, List.cons_append, List.nil_append, List.map_cons, List.map_nil, List.replicate_succ, List.replicate_zero, List.take_succ_cons, List.take_zero, if_true, if_false, ite_true, ite_false, Bool.and_true, Bool.true_and, Bool.false_eq_true, reduceIte, Option.map_some, Option.bind_some, Nat.reduceAdd, Nat.reduceSub, Nat.reduceLT, Nat.reduceLeDiff, decide_true, decide_false, Bool.not_true, Bool.not_false, Bool.or_true, Bool.or_false, Bool.false_or, Bool.true_or, eqD_int, eqD_str, dEq, dNe, Option.map_none, atI_0, atI_1, atI_2, mulOk_a, mulOk_b, cap, restE, wipeE, dMul, dAdd, ixN30, ixN31, ixN32, List.range_succ_eq_map, hm, h, show many < 1073741824 by omega]
    · simp [mSeq, mE, mIf, mRet, mAsg, mDrop, mAug, mPar, mPar3, mNext, mBreak, mCont, setD, setCons, setTup, setNil, mOp, mUn, mCb, mArg, mTest, mTru, mAnd, mOr, mNot, mIfE, mChain, mTupD, mLstD, mLstO, mSetO, mPart, mSl, mAndV, mOrV, mNotV, bnd, PD.ret, lft, rd, rdD, asB, asI, mIxO, ixOwn, ownAt, ownSet, mSetAtO, mSetAt, mMeth, mLenO, mTruO, mCall, mCallP, locsP, runF, okEnd, isPin, clean, cleanL, noPin, pin0, mTup, mLst, mCbO, mOpO, asL, asO, mLc, inB, mFor, mForE, mForR, mRaiseE, mRaise, mTold, Own.d, dInt, dInt2, dSub, dDiv, dMod, dLt, dLe, dGt, dGe, dNeg, dIpAdd, dLen, dIntOf, dAbs, dMax2, dTuple, dList, dIsN, elems, dFmt, dStrI, List.getElem?_cons_zero, List.getElem?_cons_succ, List.set_cons_zero, List.set_cons_succ, List.length_cons, List.length_nil, List.cons_append, List.nil_append, List.map_cons, List.map_nil, List.replicate_succ, List.replicate_zero, List.take_succ_cons, List.take_zero, if_true, if_false, ite_true, ite_false, Bool.and_true, Bool.true_and, Bool.false_eq_true, reduceIte, Option.map_some, Option.bind_some, Nat.reduceAdd, Nat.reduceSub, Nat.reduceLT, Nat.reduceLeDiff, decide_true, decide_false, Bool.not_true, Bool.not_false, Bool.or_true, Bool.or_false, Bool.false_or, Bool.true_or, eqD_int, eqD_str, dEq, dNe, Option.map_none, atI_0, atI_1, atI_2, mulOk_a, mulOk_b, cap, restE, wipeE, dMul, dAdd, ixN30, ixN31, ixN32, List.range_succ_eq_map, hm, h, c, show many < 1073741824 by omega]
  · unfold F__law_roll m__law_roll dice3
    have c1 : ¬ d2 = 2 := fun z => c (.inl z)
    by_cases c2 : d2 = 1
    · have c3 : ¬ 0 < d0 := fun z => c (.inr ⟨c2, z⟩)
      refine ⟨((d0 * 48271 + d1 * 69621 + 11).fmod 2147483647 / 7).fmod many, (d0 * 48271 + d1 * 69621 + 11).fmod 2147483647, d1 + 1, 0, (fmod_range _ _ h).1, (fmod_range _ _ h).2, ?_⟩
      simp [mSeq, mE, mIf, mRet, mAsg, mDrop, mAug, mPar, mPar3, mNext, mBreak, mCont, setD, setCons, setTup, setNil, mOp, mUn, mCb, mArg, mTest, mTru, mAnd, mOr, mNot, mIfE, mChain, mTupD, mLstD, mLstO, mSetO, mPart, mSl, mAndV, mOrV, mNotV, bnd, PD.ret, lft, rd, rdD, asB, asI, mIxO, ixOwn, ownAt, ownSet, mSetAtO, mSetAt, mMeth, mLenO, mTruO, mCall, mCallP, locsP, runF, okEnd, isPin, clean, cleanL, noPin, pin0, mTup, mLst, mCbO, mOpO, asL, asO, mLc, inB, mFor, mForE, mForR, mRaiseE, mRaise, mTold, Own.d, dInt, dInt2, dSub, dDiv, dMod, dLt, dLe, dGt, dGe, dNeg, dIpAdd, dLen, dIntOf, dAbs, dMax2, dTuple, dList, dIsN, elems, dFmt, dStrI, List.getElem?_cons_zero, List.getElem?_cons_succ, List.set_cons_zero, List.set_cons_succ, List.length_cons, List.length_nil, List.cons_append, List.nil_append, List.map_cons, List.map_nil, List.replicate_succ, List.replicate_zero, List.take_succ_cons, List.take_zero, if_true, if_false, ite_true, ite_false, Bool.and_true, Bool.true_and, Bool.false_eq_true, reduceIte, Option.map_some, Option.bind_some, Nat.reduceAdd, Nat.reduceSub, Nat.reduceLT, Nat.reduceLeDiff, decide_true, decide_false, Bool.not_true, Bool.not_false, Bool.or_true, Bool.or_false, Bool.false_or, Bool.true_or, eqD_int, eqD_str, dEq, dNe, Option.map_none, atI_0, atI_1, atI_2, mulOk_a, mulOk_b, cap, restE, wipeE, dMul, dAdd, ixN30, ixN31, ixN32, List.range_succ_eq_map, hm, h, c1, c2, c3, show many < 1073741824 by omega, show ¬ 100000000 < many by omega]
    · refine ⟨((d0 * 48271 + d1 * 69621 + 11).fmod 2147483647 / 7).fmod many, (d0 * 48271 + d1 * 69621 + 11).fmod 2147483647, d1 + 1, 0, (fmod_range _ _ h).1, (fmod_range _ _ h).2, ?_⟩
      simp [mSeq, mE, mIf, mRet, mAsg, mDrop, mAug, mPar, mPar3, mNext, mBreak, mCont, setD, setCons, setTup, setNil, mOp, mUn, mCb, mArg, mTest, mTru, mAnd, mOr, mNot, mIfE, mChain, mTupD, mLstD, mLstO, mSetO, mPart, mSl, mAndV, mOrV, mNotV, bnd, PD.ret, lft, rd, rdD, asB, asI, mIxO, ixOwn, ownAt, ownSet, mSetAtO, mSetAt, mMeth, mLenO, mTruO, mCall, mCallP, locsP, runF, okEnd, isPin, clean, cleanL, noPin, pin0, mTup, mLst, mCbO, mOpO, asL, asO, mLc, inB, mFor, mForE, mForR, mRaiseE, mRaise, mTold, Own.d, dInt, dInt2, dSub, dDiv, dMod, dLt, dLe, dGt, dGe, dNeg, dIpAdd, dLen, dIntOf, dAbs, dMax2, dTuple, dList, dIsN, elems, dFmt, dStrI, List.getElem?_cons_zero, List.getElem?_cons_succ, List.set_cons_zero, List.set_cons_succ, List.length_cons, List.length_nil, List.cons_append, List.nil_append, List.map_cons, List.map_nil, List.replicate_succ, List.replicate_zero, List.take_succ_cons, List.take_zero, if_true, if_false, ite_true, ite_false, Bool.and_true, Bool.true_and, Bool.false_eq_true, reduceIte, Option.map_some, Option.bind_some, Nat.reduceAdd, Nat.reduceSub, Nat.reduceLT, Nat.reduceLeDiff, decide_true, decide_false, Bool.not_true, Bool.not_false, Bool.or_true, Bool.or_false, Bool.false_or, Bool.true_or, eqD_int, eqD_str, dEq, dNe, Option.map_none, atI_0, atI_1, atI_2, mulOk_a, mulOk_b, cap, restE, wipeE, dMul, dAdd, ixN30, ixN31, ixN32, List.range_succ_eq_map, hm, h, c1, c2, show many < 1073741824 by omega, show ¬ 100000000 < many by omega]
theorem abc (r : Int) (h : 0 ≤ r) (h2 : r < 5) : ∃ c, atI ("abcde" : Str).cps.toList r = some c := by
  have : r = 0 ∨ r = 1 ∨ r = 2 ∨ r = 3 ∨ r = 4 := by omega
  rcases this with rfl | rfl | rfl | rfl | rfl <;> exact ⟨_, rfl⟩
def Short (z : Str) : Prop := z.length ≤ 2
theorem mul_1 (c : Nat) : (Txt.mul ⟨#[c]⟩ 1).length = 1 := rfl
theorem mul_2 (c : Nat) : (Txt.mul ⟨#[c]⟩ 2).length = 2 := rfl
theorem abcLen : ("abcde" : Str).length ≤ 100000 := by decide
theorem text_el (d0 d1 d2 : Int) (x : PD.Loc) : ∃ (z : Str) (e0 e1 e2 : Int), Short z ∧ m__law_text_e1 [.pin (dice3 d0 d1 d2), x] = some (.ok (.str z) [.pin (dice3 e0 e1 e2), x]) := by
  obtain ⟨r, a0, a1, a2, h1, h2, e1⟩ := roll_ok d0 d1 d2 5 (by omega) (by omega)
  obtain ⟨q, b0, b1, b2, h3, h4, e2⟩ := roll_ok a0 a1 a2 9 (by omega) (by omega)
  obtain ⟨c, hc⟩ := abc r h1 h2
  unfold dice3 at e1 e2
  by_cases hq : q = 0
  · refine ⟨Txt.mul ⟨#[c]⟩ 2, b0, b1, b2, by unfold Short; rw [mul_2]; omega, ?_⟩
    unfold m__law_text_e1 dice3
    simp [mSeq, mE, mIf, mRet, mAsg, mDrop, mAug, mPar, mPar3, mNext, mBreak, mCont, setD, setCons, setTup, setNil, mOp, mUn, mCb, mArg, mTest, mTru, mAnd, mOr, mNot, mIfE, mChain, mTupD, mLstD, mLstO, mSetO, mPart, mSl, mAndV, mOrV, mNotV, bnd, PD.ret, lft, rd, rdD, asB, asI, mIxO, ixOwn, ownAt, ownSet, mSetAtO, mSetAt, mMeth, mLenO, mTruO, mCall, mCallP, locsP, runF, okEnd, isPin, clean, cleanL, noPin, pin0, mTup, mLst, mCbO, mOpO, asL, asO, mLc, inB, mFor, mForE, mForR, mRaiseE, mRaise, mTold, Own.d, dInt, dInt2, dSub, dDiv, dMod, dLt, dLe, dGt, dGe, dNeg, dIpAdd, dLen, dIntOf, dAbs, dMax2, dTuple, dList, dIsN, elems, dFmt, dStrI, List.getElem?_cons_zero, List.getElem?_cons_succ, List.set_cons_zero, List.set_cons_succ, List.length_cons, List.length_nil, List.cons_append, List.nil_append, List.map_cons, List.map_nil, List.replicate_succ, List.replicate_zero, List.take_succ_cons, List.take_zero, if_true, if_false, ite_true, ite_false, Bool.and_true, Bool.true_and, Bool.false_eq_true, reduceIte, Option.map_some, Option.bind_some, Nat.reduceAdd, Nat.reduceSub, Nat.reduceLT, Nat.reduceLeDiff, decide_true, decide_false, Bool.not_true, Bool.not_false, Bool.or_true, Bool.or_false, Bool.false_or, Bool.true_or, eqD_int, eqD_str, dEq, dNe, Option.map_none, atI_0, atI_1, atI_2, mulOk_a, mulOk_b, cap, restE, wipeE, dMul, dAdd, ixN30, ixN31, ixN32, List.range_succ_eq_map, dIx, abcLen, hc, e1, e2, hq]
    rfl
  · refine ⟨Txt.mul ⟨#[c]⟩ 1, b0, b1, b2, by unfold Short; rw [mul_1]; omega, ?_⟩
    unfold m__law_text_e1 dice3
    simp [mSeq, mE, mIf, mRet, mAsg, mDrop, mAug, mPar, mPar3, mNext, mBreak, mCont, setD, setCons, setTup, setNil, mOp, mUn, mCb, mArg, mTest, mTru, mAnd, mOr, mNot, mIfE, mChain, mTupD, mLstD, mLstO, mSetO, mPart, mSl, mAndV, mOrV, mNotV, bnd, PD.ret, lft, rd, rdD, asB, asI, mIxO, ixOwn, ownAt, ownSet, mSetAtO, mSetAt, mMeth, mLenO, mTruO, mCall, mCallP, locsP, runF, okEnd, isPin, clean, cleanL, noPin, pin0, mTup, mLst, mCbO, mOpO, asL, asO, mLc, inB, mFor, mForE, mForR, mRaiseE, mRaise, mTold, Own.d, dInt, dInt2, dSub, dDiv, dMod, dLt, dLe, dGt, dGe, dNeg, dIpAdd, dLen, dIntOf, dAbs, dMax2, dTuple, dList, dIsN, elems, dFmt, dStrI, List.getElem?_cons_zero, List.getElem?_cons_succ, List.set_cons_zero, List.set_cons_succ, List.length_cons, List.length_nil, List.cons_append, List.nil_append, List.map_cons, List.map_nil, List.replicate_succ, List.replicate_zero, List.take_succ_cons, List.take_zero, if_true, if_false, ite_true, ite_false, Bool.and_true, Bool.true_and, Bool.false_eq_true, reduceIte, Option.map_some, Option.bind_some, Nat.reduceAdd, Nat.reduceSub, Nat.reduceLT, Nat.reduceLeDiff, decide_true, decide_false, Bool.not_true, Bool.not_false, Bool.or_true, Bool.or_false, Bool.false_or, Bool.true_or, eqD_int, eqD_str, dEq, dNe, Option.map_none, atI_0, atI_1, atI_2, mulOk_a, mulOk_b, cap, restE, wipeE, dMul, dAdd, ixN30, ixN31, ixN32, List.range_succ_eq_map, dIx, abcLen, hc, e1, e2, hq]
    rfl
theorem text_comp : ∀ (ds acc : List D) (d0 d1 d2 : Int), acc.length + ds.length ≤ 1000 → ∃ (zs : List Str) (e0 e1 e2 : Int), zs.length = ds.length ∧ (∀ z ∈ zs, Short z) ∧ compL (setD 1) (PD.ret true) m__law_text_e1 [1] ds acc [.pin (dice3 d0 d1 d2), .non] = some (acc ++ zs.map .str, [.pin (dice3 e0 e1 e2), .non])
  | [], acc, d0, d1, d2, _ => ⟨[], d0, d1, d2, rfl, (fun _ h => nomatch h), by rw [compL_nil]; simp⟩
  | d :: ds, acc, d0, d1, d2, hl => by
    obtain ⟨z, a0, a1, a2, hz, e⟩ := text_el d0 d1 d2 (.dat d)
    rw [List.length_cons] at hl
    obtain ⟨zs, b0, b1, b2, k1, k2, k3⟩ := text_comp ds (acc ++ [.str z]) a0 a1 a2 (by rw [List.length_append, List.length_singleton]; omega)
    refine ⟨z :: zs, b0, b1, b2, by rw [List.length_cons, List.length_cons, k1], fun y hy => ?_, ?_⟩
    · rcases List.mem_cons.mp hy with rfl | h
      · exact hz
      · exact k2 y h
    · rw [compL_yes (ρ1 := [.pin (dice3 d0 d1 d2), .dat d]) (ρ2 := [.pin (dice3 d0 d1 d2), .dat d]) rfl rfl e (by unfold cap; omega)]
      show compL _ _ _ _ ds (acc ++ [.str z]) [.pin (dice3 a0 a1 a2), .non] = _
      rw [k3]
      simp
theorem text_ok (d0 d1 d2 : Int) : ∃ (zs : List Str) (e0 e1 e2 : Int), zs.length ≤ 12 ∧ (∀ z ∈ zs, Short z) ∧ F__law_text [.pin (dice3 d0 d1 d2)] = some (.ok (linesT zs) [.pin (dice3 e0 e1 e2)]) := by
  obtain ⟨r, a0, a1, a2, h1, h2, e1⟩ := roll_ok d0 d1 d2 13 (by omega) (by omega)
  obtain ⟨zs, b0, b1, b2, k1, k2, k3⟩ := text_comp (rangeD 0 r.toNat) [] a0 a1 a2 (by rw [rangeD_len]; simp; omega)
  rw [rangeD_len] at k1
  refine ⟨zs, b0, b1, b2, by omega, k2, ?_⟩
  have hr : rgOk r = true := by
    unfold rgOk
    simp; omega
  unfold dice3 at e1 k3
  unfold F__law_text m__law_text dice3
  simp [mSeq, mE, mIf, mRet, mAsg, mDrop, mAug, mPar, mPar3, mNext, mBreak, mCont, setD, setCons, setTup, setNil, mOp, mUn, mCb, mArg, mTest, mTru, mAnd, mOr, mNot, mIfE, mChain, mTupD, mLstD, mLstO, mSetO, mPart, mSl, mAndV, mOrV, mNotV, bnd, PD.ret, lft, rd, rdD, asB, asI, mIxO, ixOwn, ownAt, ownSet, mSetAtO, mSetAt, mMeth, mLenO, mTruO, mCall, mCallP, locsP, runF, okEnd, isPin, clean, cleanL, noPin, pin0, mTup, mLst, mCbO, mOpO, asL, asO, mLc, inB, mFor, mForE, mForR, mRaiseE, mRaise, mTold, Own.d, dInt, dInt2, dSub, dDiv, dMod, dLt, dLe, dGt, dGe, dNeg, dIpAdd, dLen, dIntOf, dAbs, dMax2, dTuple, dList, dIsN, elems, dFmt, dStrI, List.getElem?_cons_zero, List.getElem?_cons_succ, List.set_cons_zero, List.set_cons_succ, List.length_cons, List.length_nil, List.cons_append, List.nil_append, List.map_cons, List.map_nil, List.replicate_succ, List.replicate_zero, List.take_succ_cons, List.take_zero, if_true, if_false, ite_true, ite_false, Bool.and_true, Bool.true_and, Bool.false_eq_true, reduceIte, Option.map_some, Option.bind_some, Nat.reduceAdd, Nat.reduceSub, Nat.reduceLT, Nat.reduceLeDiff, decide_true, decide_false, Bool.not_true, Bool.not_false, Bool.or_true, Bool.or_false, Bool.false_or, Bool.true_or, eqD_int, eqD_str, dEq, dNe, Option.map_none, atI_0, atI_1, atI_2, mulOk_a, mulOk_b, cap, restE, wipeE, dMul, dAdd, ixN30, ixN31, ixN32, List.range_succ_eq_map, e1, rg1, hr, wipeE, k3, restE, linesT]
theorem dice_ok (n : Int) : ∃ a b c : Int, F__law_dice [.dat (.int n)] = some (.ok (.lst [.int a, .int b, .int c]) [.non]) := by
  unfold F__law_dice m__law_dice
  by_cases h : -10 < n
  · by_cases h2 : n < 10
    · refine ⟨if n < 0 then -n else n, 0, 2, ?_⟩
      simp [mSeq, mE, mIf, mRet, mAsg, mDrop, mAug, mPar, mPar3, mNext, mBreak, mCont, setD, setCons, setTup, setNil, mOp, mUn, mCb, mArg, mTest, mTru, mAnd, mOr, mNot, mIfE, mChain, mTupD, mLstD, mLstO, mSetO, mPart, mSl, mAndV, mOrV, mNotV, bnd, PD.ret, lft, rd, rdD, asB, asI, mIxO, ixOwn, ownAt, ownSet, mSetAtO, mSetAt, mMeth, mLenO, mTruO, mCall, mCallP, locsP, runF, okEnd, isPin, clean, cleanL, noPin, pin0, mTup, mLst, mCbO, mOpO, asL, asO, mLc, inB, mFor, mForE, mForR, mRaiseE, mRaise, mTold, Own.d, dInt, dInt2, dSub, dDiv, dMod, dLt, dLe, dGt, dGe, dNeg, dIpAdd, dLen, dIntOf, dAbs, dMax2, dTuple, dList, dIsN, elems, dFmt, dStrI, List.getElem?_cons_zero, List.getElem?_cons_succ, List.set_cons_zero, List.set_cons_succ, List.length_cons, List.length_nil, List.cons_append, List.nil_append, List.map_cons, List.map_nil, List.replicate_succ, List.replicate_zero, List.take_succ_cons, List.take_zero, if_true, if_false, ite_true, ite_false, Bool.and_true, Bool.true_and, Bool.false_eq_true, reduceIte, Option.map_some, Option.bind_some, Nat.reduceAdd, Nat.reduceSub, Nat.reduceLT, Nat.reduceLeDiff, decide_true, decide_false, Bool.not_true, Bool.not_false, Bool.or_true, Bool.or_false, Bool.false_or, Bool.true_or, eqD_int, eqD_str, dEq, dNe, Option.map_none, atI_0, atI_1, atI_2, mulOk_a, mulOk_b, cap, restE, wipeE, dMul, dAdd, ixN30, ixN31, ixN32, List.range_succ_eq_map, h, h2]
    · refine ⟨n, 1 + n.fmod 1009, if (10 : Int) ^ (18 : Int).toNat ≤ n then 1 else 0, ?_⟩
      simp [mSeq, mE, mIf, mRet, mAsg, mDrop, mAug, mPar, mPar3, mNext, mBreak, mCont, setD, setCons, setTup, setNil, mOp, mUn, mCb, mArg, mTest, mTru, mAnd, mOr, mNot, mIfE, mChain, mTupD, mLstD, mLstO, mSetO, mPart, mSl, mAndV, mOrV, mNotV, bnd, PD.ret, lft, rd, rdD, asB, asI, mIxO, ixOwn, ownAt, ownSet, mSetAtO, mSetAt, mMeth, mLenO, mTruO, mCall, mCallP, locsP, runF, okEnd, isPin, clean, cleanL, noPin, pin0, mTup, mLst, mCbO, mOpO, asL, asO, mLc, inB, mFor, mForE, mForR, mRaiseE, mRaise, mTold, Own.d, dInt, dInt2, dSub, dDiv, dMod, dLt, dLe, dGt, dGe, dNeg, dIpAdd, dLen, dIntOf, dAbs, dMax2, dTuple, dList, dIsN, elems, dFmt, dStrI, List.getElem?_cons_zero, List.getElem?_cons_succ, List.set_cons_zero, List.set_cons_succ, List.length_cons, List.length_nil, List.cons_append, List.nil_append, List.map_cons, List.map_nil, List.replicate_succ, List.replicate_zero, List.take_succ_cons, List.take_zero, if_true, if_false, ite_true, ite_false, Bool.and_true, Bool.true_and, Bool.false_eq_true, reduceIte, Option.map_some, Option.bind_some, Nat.reduceAdd, Nat.reduceSub, Nat.reduceLT, Nat.reduceLeDiff, decide_true, decide_false, Bool.not_true, Bool.not_false, Bool.or_true, Bool.or_false, Bool.false_or, Bool.true_or, eqD_int, eqD_str, dEq, dNe, Option.map_none, atI_0, atI_1, atI_2, mulOk_a, mulOk_b, cap, restE, wipeE, dMul, dAdd, ixN30, ixN31, ixN32, List.range_succ_eq_map, h, h2, dPow]
  · refine ⟨n, 1 + n.fmod 1009, if (10 : Int) ^ (18 : Int).toNat ≤ n then 1 else 0, ?_⟩
    simp [mSeq, mE, mIf, mRet, mAsg, mDrop, mAug, mPar, mPar3, mNext, mBreak, mCont, setD, setCons, setTup, setNil, mOp, mUn, mCb, mArg, mTest, mTru, mAnd, mOr, mNot, mIfE, mChain, mTupD, mLstD, mLstO, mSetO, mPart, mSl, mAndV, mOrV, mNotV, bnd, PD.ret, lft, rd, rdD, asB, asI, mIxO, ixOwn, ownAt, ownSet, mSetAtO, mSetAt, mMeth, mLenO, mTruO, mCall, mCallP, locsP, runF, okEnd, isPin, clean, cleanL, noPin, pin0, mTup, mLst, mCbO, mOpO, asL, asO, mLc, inB, mFor, mForE, mForR, mRaiseE, mRaise, mTold, Own.d, dInt, dInt2, dSub, dDiv, dMod, dLt, dLe, dGt, dGe, dNeg, dIpAdd, dLen, dIntOf, dAbs, dMax2, dTuple, dList, dIsN, elems, dFmt, dStrI, List.getElem?_cons_zero, List.getElem?_cons_succ, List.set_cons_zero, List.set_cons_succ, List.length_cons, List.length_nil, List.cons_append, List.nil_append, List.map_cons, List.map_nil, List.replicate_succ, List.replicate_zero, List.take_succ_cons, List.take_zero, if_true, if_false, ite_true, ite_false, Bool.and_true, Bool.true_and, Bool.false_eq_true, reduceIte, Option.map_some, Option.bind_some, Nat.reduceAdd, Nat.reduceSub, Nat.reduceLT, Nat.reduceLeDiff, decide_true, decide_false, Bool.not_true, Bool.not_false, Bool.or_true, Bool.or_false, Bool.false_or, Bool.true_or, eqD_int, eqD_str, dEq, dNe, Option.map_none, atI_0, atI_1, atI_2, mulOk_a, mulOk_b, cap, restE, wipeE, dMul, dAdd, ixN30, ixN31, ixN32, List.range_succ_eq_map, h, dPow]
theorem eqD_l0 : eqD (.lst []) (.lst []) = some true := eqD_refl (n := 0) (by simp [flat]) (by omega)
theorem eqD_l1 (n : Int) : eqD (.lst [.int n]) (.lst []) = some false := by
  unfold eqD
  rw [if_pos ⟨by simp [toP, toPs, PyData.plain, PyData.plainAll], by simp [toP, toPs, PyData.plain, PyData.plainAll], by simp [toP, toPs, PyData.depth, PyData.depthAll]⟩]
  simp [toP, toPs, PyData.eqv, PyData.eqvAll]
theorem rounds_el (n : Int) (x y z : PD.Loc) : ∃ a b c : Int, m__law_rounds_e1 [x, y, z, .dat (.int n)] = some (.ok (.lst [.int a, .int b, .int c]) [x, y, z, .dat (.int n)]) := by
  obtain ⟨a, b, c, h⟩ := dice_ok n
  refine ⟨a, b, c, ?_⟩
  unfold m__law_rounds_e1
  simp [mSeq, mE, mIf, mRet, mAsg, mDrop, mAug, mPar, mPar3, mNext, mBreak, mCont, setD, setCons, setTup, setNil, mOp, mUn, mCb, mArg, mTest, mTru, mAnd, mOr, mNot, mIfE, mChain, mTupD, mLstD, mLstO, mSetO, mPart, mSl, mAndV, mOrV, mNotV, bnd, PD.ret, lft, rd, rdD, asB, asI, mIxO, ixOwn, ownAt, ownSet, mSetAtO, mSetAt, mMeth, mLenO, mTruO, mCall, mCallP, locsP, runF, okEnd, isPin, clean, cleanL, noPin, pin0, mTup, mLst, mCbO, mOpO, asL, asO, mLc, inB, mFor, mForE, mForR, mRaiseE, mRaise, mTold, Own.d, dInt, dInt2, dSub, dDiv, dMod, dLt, dLe, dGt, dGe, dNeg, dIpAdd, dLen, dIntOf, dAbs, dMax2, dTuple, dList, dIsN, elems, dFmt, dStrI, List.getElem?_cons_zero, List.getElem?_cons_succ, List.set_cons_zero, List.set_cons_succ, List.length_cons, List.length_nil, List.cons_append, List.nil_append, List.map_cons, List.map_nil, List.replicate_succ, List.replicate_zero, List.take_succ_cons, List.take_zero, if_true, if_false, ite_true, ite_false, Bool.and_true, Bool.true_and, Bool.false_eq_true, reduceIte, Option.map_some, Option.bind_some, Nat.reduceAdd, Nat.reduceSub, Nat.reduceLT, Nat.reduceLeDiff, decide_true, decide_false, Bool.not_true, Bool.not_false, Bool.or_true, Bool.or_false, Bool.false_or, Bool.true_or, eqD_int, eqD_str, dEq, dNe, Option.map_none, atI_0, atI_1, atI_2, mulOk_a, mulOk_b, cap, restE, wipeE, dMul, dAdd, ixN30, ixN31, ixN32, List.range_succ_eq_map, h]
theorem rounds_ok (ns : List Int) : ∃ (a b c : Int) (ρ : PD.Env), F__law_rounds [.dat (.frz (intsD' ns)), .dat (.int 1)] = some (.ok (.lst [.lst [.int a, .int b, .int c]]) ρ) := by
  have cutE : ∀ ds : List D, cutD ds none (some 1) = ds.take 1 := fun ds => by
    unfold cutD
    rw [HT.sIx_none, show (some (1 : Int)) = some ((1 : Nat) : Int) from rfl, HT.sIx_nat, List.drop_zero, Nat.sub_zero]
    cases ds with
    | nil => rfl
    | cons d ds => rw [show min 1 (d :: ds).length = 1 by simp]
  cases ns with
  | nil =>
    obtain ⟨a, b, c, h⟩ := rounds_el 0 (.dat (.frz [])) (.dat (.int 1)) (.dat (.lst [.int 0]))
    refine ⟨a, b, c, [.non, .non], ?_⟩
    unfold F__law_rounds m__law_rounds intsD'
    simp [mSeq, mE, mIf, mRet, mAsg, mDrop, mAug, mPar, mPar3, mNext, mBreak, mCont, setD, setCons, setTup, setNil, mOp, mUn, mCb, mArg, mTest, mTru, mAnd, mOr, mNot, mIfE, mChain, mTupD, mLstD, mLstO, mSetO, mPart, mSl, mAndV, mOrV, mNotV, bnd, PD.ret, lft, rd, rdD, asB, asI, mIxO, ixOwn, ownAt, ownSet, mSetAtO, mSetAt, mMeth, mLenO, mTruO, mCall, mCallP, locsP, runF, okEnd, isPin, clean, cleanL, noPin, pin0, mTup, mLst, mCbO, mOpO, asL, asO, mLc, inB, mFor, mForE, mForR, mRaiseE, mRaise, mTold, Own.d, dInt, dInt2, dSub, dDiv, dMod, dLt, dLe, dGt, dGe, dNeg, dIpAdd, dLen, dIntOf, dAbs, dMax2, dTuple, dList, dIsN, elems, dFmt, dStrI, List.getElem?_cons_zero, List.getElem?_cons_succ, List.set_cons_zero, List.set_cons_succ, List.length_cons, List.length_nil, List.cons_append, List.nil_append, List.map_cons, List.map_nil, List.replicate_succ, List.replicate_zero, List.take_succ_cons, List.take_zero, if_true, if_false, ite_true, ite_false, Bool.and_true, Bool.true_and, Bool.false_eq_true, reduceIte, Option.map_some, Option.bind_some, Nat.reduceAdd, Nat.reduceSub, Nat.reduceLT, Nat.reduceLeDiff, decide_true, decide_false, Bool.not_true, Bool.not_false, Bool.or_true, Bool.or_false, Bool.false_or, Bool.true_or, eqD_int, eqD_str, dEq, dNe, Option.map_none, atI_0, atI_1, atI_2, mulOk_a, mulOk_b, cap, restE, wipeE, dMul, dAdd, ixN30, ixN31, ixN32, List.range_succ_eq_map, dSl, cutE, eqD_l0, wipeE, compL, h]
  | cons n ns =>
    obtain ⟨a, b, c, h⟩ := rounds_el n (.dat (.frz (intsD' (n :: ns)))) (.dat (.int 1)) (.dat (.lst [.int n]))
    unfold intsD' at h
    refine ⟨a, b, c, [.non, .non], ?_⟩
    unfold F__law_rounds m__law_rounds intsD'
    simp only [List.map_cons] at h
    simp [mSeq, mE, mIf, mRet, mAsg, mDrop, mAug, mPar, mPar3, mNext, mBreak, mCont, setD, setCons, setTup, setNil, mOp, mUn, mCb, mArg, mTest, mTru, mAnd, mOr, mNot, mIfE, mChain, mTupD, mLstD, mLstO, mSetO, mPart, mSl, mAndV, mOrV, mNotV, bnd, PD.ret, lft, rd, rdD, asB, asI, mIxO, ixOwn, ownAt, ownSet, mSetAtO, mSetAt, mMeth, mLenO, mTruO, mCall, mCallP, locsP, runF, okEnd, isPin, clean, cleanL, noPin, pin0, mTup, mLst, mCbO, mOpO, asL, asO, mLc, inB, mFor, mForE, mForR, mRaiseE, mRaise, mTold, Own.d, dInt, dInt2, dSub, dDiv, dMod, dLt, dLe, dGt, dGe, dNeg, dIpAdd, dLen, dIntOf, dAbs, dMax2, dTuple, dList, dIsN, elems, dFmt, dStrI, List.getElem?_cons_zero, List.getElem?_cons_succ, List.set_cons_zero, List.set_cons_succ, List.length_cons, List.length_nil, List.cons_append, List.nil_append, List.map_cons, List.map_nil, List.replicate_succ, List.replicate_zero, List.take_succ_cons, List.take_zero, if_true, if_false, ite_true, ite_false, Bool.and_true, Bool.true_and, Bool.false_eq_true, reduceIte, Option.map_some, Option.bind_some, Nat.reduceAdd, Nat.reduceSub, Nat.reduceLT, Nat.reduceLeDiff, decide_true, decide_false, Bool.not_true, Bool.not_false, Bool.or_true, Bool.or_false, Bool.false_or, Bool.true_or, eqD_int, eqD_str, dEq, dNe, Option.map_none, atI_0, atI_1, atI_2, mulOk_a, mulOk_b, cap, restE, wipeE, dMul, dAdd, ixN30, ixN31, ixN32, List.range_succ_eq_map, dSl, cutE, eqD_l1, wipeE, compL, h]
theorem call_ok (ns : List Int) : ∃ (a b c : Int) (ρ : PD.Env), m_law_call (env0 18 ns) = some (.ok (.lst [.lst (intsD' [a, b, c])]) ρ) := by
  obtain ⟨a, b, c, ρ, h⟩ := rounds_ok ns
  refine ⟨a, b, c, env0 18 ns, ?_⟩
  unfold m_law_call env0
  simp [mSeq, mE, mIf, mRet, mAsg, mDrop, mAug, mPar, mPar3, mNext, mBreak, mCont, setD, setCons, setTup, setNil, mOp, mUn, mCb, mArg, mTest, mTru, mAnd, mOr, mNot, mIfE, mChain, mTupD, mLstD, mLstO, mSetO, mPart, mSl, mAndV, mOrV, mNotV, bnd, PD.ret, lft, rd, rdD, asB, asI, mIxO, ixOwn, ownAt, ownSet, mSetAtO, mSetAt, mMeth, mLenO, mTruO, mCall, mCallP, locsP, runF, okEnd, isPin, clean, cleanL, noPin, pin0, mTup, mLst, mCbO, mOpO, asL, asO, mLc, inB, mFor, mForE, mForR, mRaiseE, mRaise, mTold, Own.d, dInt, dInt2, dSub, dDiv, dMod, dLt, dLe, dGt, dGe, dNeg, dIpAdd, dLen, dIntOf, dAbs, dMax2, dTuple, dList, dIsN, elems, dFmt, dStrI, List.getElem?_cons_zero, List.getElem?_cons_succ, List.set_cons_zero, List.set_cons_succ, List.length_cons, List.length_nil, List.cons_append, List.nil_append, List.map_cons, List.map_nil, List.replicate_succ, List.replicate_zero, List.take_succ_cons, List.take_zero, if_true, if_false, ite_true, ite_false, Bool.and_true, Bool.true_and, Bool.false_eq_true, reduceIte, Option.map_some, Option.bind_some, Nat.reduceAdd, Nat.reduceSub, Nat.reduceLT, Nat.reduceLeDiff, decide_true, decide_false, Bool.not_true, Bool.not_false, Bool.or_true, Bool.or_false, Bool.false_or, Bool.true_or, eqD_int, eqD_str, dEq, dNe, Option.map_none, atI_0, atI_1, atI_2, mulOk_a, mulOk_b, cap, restE, wipeE, dMul, dAdd, ixN30, ixN31, ixN32, List.range_succ_eq_map, h]
  rfl
end K02
end
section
set_option maxHeartbeats 0
namespace K02
open PySem L2 PD
theorem lcs_nil (xs : List Str) : lcs xs [] = 0 := by cases xs <;> simp [lcs]
theorem lcs_cons (x : Str) (xs : List Str) (y : Str) (ys : List Str) : lcs (x :: xs) (y :: ys) = if x = y then lcs xs ys + 1 else max (lcs xs (y :: ys)) (lcs (x :: xs) ys) := by rw [lcs]
def rowF (n : Nat) (f : Nat → Int) : List D := (List.range (n + 1)).map fun j => .int (f j)
theorem rowF_len {n : Nat} {f : Nat → Int} : (rowF n f).length = n + 1 := by simp [rowF]
theorem rowF_get {n j : Nat} {f : Nat → Int} (h : j ≤ n) : (rowF n f)[j]? = some (.int (f j)) := by
  unfold rowF
  rw [List.getElem?_map, List.getElem?_range (by omega)]
  rfl
theorem rowF_set {n i : Nat} {f : Nat → Int} {a : Int} : (rowF n f).set i (.int a) = rowF n fun j => if j = i then a else f j := by
  apply List.ext_getElem?
  intro j
  by_cases h : j ≤ n
  · rw [List.getElem?_set, rowF_len, rowF_get h, rowF_get h]
    by_cases e : i = j
    · subst e
      have h' : i < n + 1 := Nat.lt_succ_of_le h
      rw [if_pos rfl, if_pos h', if_pos rfl]
    · rw [if_neg e, if_neg (fun z => e z.symm)]
  · rw [List.getElem?_eq_none (by rw [List.length_set, rowF_len]; omega), List.getElem?_eq_none (by rw [rowF_len]; omega)]
theorem rowF_congr {n : Nat} {f g : Nat → Int} (h : ∀ j, j ≤ n → f j = g j) : rowF n f = rowF n g := by
  unfold rowF
  apply List.map_congr_left
  intro j hj
  rw [h j (by have := List.mem_range.mp hj; omega)]
theorem line_at {ys : List Str} {p : Nat} {y : Str} (h : ys[p]? = some y) : (ys.map D.str)[p]? = some (.str y) := by rw [List.getElem?_map, h]; rfl
def stepF (x y : Str) (g f : Nat → Int) (p : Nat) : Nat → Int := fun j => if j = p then (if x = y then g (p + 1) + 1 else (if f (p + 1) > g p then f (p + 1) else g p)) else f j
theorem inner_step (X rows : PD.Loc) (ys : List Str) (x y : Str) (g f : Nat → Int) (p : Nat) (hp : ys[p]? = some y) (s6 : PD.Loc) :
    m_common_rows_b1 [X, .dat (linesT ys), rows, .dat (.str x), .dat (.lst (rowF ys.length g)), .own (.lst (rowF ys.length f)), .dat (.int p)] =
      some (.nx [X, .dat (linesT ys), rows, .dat (.str x), .dat (.lst (rowF ys.length g)), .own (.lst (rowF ys.length (stepF x y g f p))), .dat (.int p)]) := by
  have hlt := (List.getElem?_eq_some_iff.mp hp).1
  have i1 : ixN (ys.length + 1) (p : Int) = some p := ixN_k (by omega)
  unfold m_common_rows_b1 linesT
  by_cases h : x = y
  · simp [mSeq, mE, mIf, mRet, mAsg, mDrop, mAug, mPar, mPar3, mNext, mBreak, mCont, setD, setCons, setTup, setNil, mOp, mUn, mCb, mArg, mTest, mTru, mAnd, mOr, mNot, mIfE, mChain, mTupD, mLstD, mLstO, mSetO, mPart, mSl, mAndV, mOrV, mNotV, bnd, PD.ret, lft, rd, rdD, asB, asI, mIxO, ixOwn, ownAt, ownSet, mSetAtO, mSetAt, mMeth, mLenO, mTruO, mCall, mCallP, locsP, runF, okEnd, isPin, clean, cleanL, noPin, pin0, mTup, mLst, mCbO, mOpO, asL, asO, mLc, inB, mFor, mForE, mForR, mRaiseE, mRaise, mTold, Own.d, dInt, dInt2, dSub, dDiv, dMod, dLt, dLe, dGt, dGe, dNeg, dIpAdd, dLen, dIntOf, dAbs, dMax2, dTuple, dList, dIsN, elems, dFmt, dStrI, List.getElem?_cons_zero, List.getElem?_cons_succ, List.set_cons_zero, List.set_cons_succ, List.length_cons, List.length_nil, List.cons_append, List.nil_append, List.map_cons, List.map_nil, List.replicate_succ, List.replicate_zero, List.take_succ_cons, List.take_zero, if_true, if_false, ite_true, ite_false, Bool.and_true, Bool.true_and, Bool.false_eq_true, reduceIte, Option.map_some, Option.bind_some, Nat.reduceAdd, Nat.reduceSub, Nat.reduceLT, Nat.reduceLeDiff, decide_true, decide_false, Bool.not_true, Bool.not_false, Bool.or_true, Bool.or_false, Bool.false_or, Bool.true_or, eqD_int, eqD_str, dEq, dNe, Option.map_none, atI_0, atI_1, atI_2, mulOk_a, mulOk_b, cap, restE, wipeE, dMul, dAdd, ixN30, ixN31, ixN32, List.range_succ_eq_map, dIx, atI_n, atI_succ, line_at hp, h, rowF_get (show p + 1 ≤ ys.length by omega), rowF_len, i1, rowF_set]
    congr 1; funext j; simp [stepF]
  · simp [mSeq, mE, mIf, mRet, mAsg, mDrop, mAug, mPar, mPar3, mNext, mBreak, mCont, setD, setCons, setTup, setNil, mOp, mUn, mCb, mArg, mTest, mTru, mAnd, mOr, mNot, mIfE, mChain, mTupD, mLstD, mLstO, mSetO, mPart, mSl, mAndV, mOrV, mNotV, bnd, PD.ret, lft, rd, rdD, asB, asI, mIxO, ixOwn, ownAt, ownSet, mSetAtO, mSetAt, mMeth, mLenO, mTruO, mCall, mCallP, locsP, runF, okEnd, isPin, clean, cleanL, noPin, pin0, mTup, mLst, mCbO, mOpO, asL, asO, mLc, inB, mFor, mForE, mForR, mRaiseE, mRaise, mTold, Own.d, dInt, dInt2, dSub, dDiv, dMod, dLt, dLe, dGt, dGe, dNeg, dIpAdd, dLen, dIntOf, dAbs, dMax2, dTuple, dList, dIsN, elems, dFmt, dStrI, List.getElem?_cons_zero, List.getElem?_cons_succ, List.set_cons_zero, List.set_cons_succ, List.length_cons, List.length_nil, List.cons_append, List.nil_append, List.map_cons, List.map_nil, List.replicate_succ, List.replicate_zero, List.take_succ_cons, List.take_zero, if_true, if_false, ite_true, ite_false, Bool.and_true, Bool.true_and, Bool.false_eq_true, reduceIte, Option.map_some, Option.bind_some, Nat.reduceAdd, Nat.reduceSub, Nat.reduceLT, Nat.reduceLeDiff, decide_true, decide_false, Bool.not_true, Bool.not_false, Bool.or_true, Bool.or_false, Bool.false_or, Bool.true_or, eqD_int, eqD_str, dEq, dNe, Option.map_none, atI_0, atI_1, atI_2, mulOk_a, mulOk_b, cap, restE, wipeE, dMul, dAdd, ixN30, ixN31, ixN32, List.range_succ_eq_map, dIx, atI_n, atI_succ, line_at hp, h, rowF_get (show p + 1 ≤ ys.length by omega), rowF_get (show p ≤ ys.length by omega), rowF_len, i1, rowF_set]
    congr 1; funext j; simp [stepF, h]
/-- the row of x and what stands behind it -/
def rowL (xs ys : List Str) : Nat → Int := fun j => (lcs xs (ys.drop j) : Int)
theorem rowL_end (xs ys : List Str) {j : Nat} (h : ys.length ≤ j) : rowL xs ys j = 0 := by
  unfold rowL
  rw [List.drop_eq_nil_of_le h, lcs_nil]
  rfl
theorem stepF_ok {x : Str} {xs ys : List Str} {y : Str} {f : Nat → Int} {p : Nat} (hp : ys[p]? = some y) (hf : ∀ j, p + 1 ≤ j → j ≤ ys.length → f j = rowL (x :: xs) ys j) :
    ∀ j, p ≤ j → j ≤ ys.length → stepF x y (rowL xs ys) f p j = rowL (x :: xs) ys j := by
  intro j h1 h2
  have hlt := (List.getElem?_eq_some_iff.mp hp).1
  unfold stepF
  by_cases e : j = p
  · subst e
    rw [if_pos rfl]
    have hd : ys.drop j = y :: ys.drop (j + 1) := by
      rw [List.drop_eq_getElem_cons hlt, (List.getElem?_eq_some_iff.mp hp).2]
    rw [hf (j + 1) (by omega) (by omega)]
    unfold rowL
    rw [hd, lcs_cons]
    by_cases h : x = y
    · rw [if_pos h, if_pos h]
      rfl
    · rw [if_neg h, if_neg h]
      split <;> omega
  · rw [if_neg e, hf j (by omega) h2]
theorem rangeN_down (p : Nat) : rangeN ((p : Int)) (p + 1) = .int p :: rangeN ((p : Int) - 1) p := by
  unfold rangeN
  rw [List.range_succ_eq_map, List.map_cons, List.map_map]
  have e0 : (p : Int) + ((0 : Nat) : Int) * -1 = p := by omega
  rw [e0]
  congr 1
  apply List.map_congr_left
  intro i _
  show D.int ((p : Int) + ((i + 1 : Nat) : Int) * -1) = D.int ((p : Int) - 1 + (i : Int) * -1)
  congr 1
  omega
theorem inner_loop (X rows : PD.Loc) (x : Str) (xs ys : List Str) : ∀ (p : Nat) (f : Nat → Int) (s6 : PD.Loc), p ≤ ys.length → (∀ j, p ≤ j → j ≤ ys.length → f j = rowL (x :: xs) ys j) →
    ∃ s6', loopL (setD 6) m_common_rows_b1 (rangeN ((p : Int) - 1) p) [X, .dat (linesT ys), rows, .dat (.str x), .dat (.lst (rowF ys.length (rowL xs ys))), .own (.lst (rowF ys.length f)), s6] =
      some (.nx [X, .dat (linesT ys), rows, .dat (.str x), .dat (.lst (rowF ys.length (rowL xs ys))), .own (.lst (rowF ys.length (rowL (x :: xs) ys))), s6'])
  | 0, f, s6, _, hf => ⟨s6, by
      rw [show rangeN (((0 : Nat) : Int) - 1) 0 = [] from rfl, loopL_nil, rowF_congr fun j hj => hf j (by omega) hj]⟩
  | p + 1, f, s6, hp, hf => by
    have hy : ys[p]? = some ys[p] := List.getElem?_eq_getElem (by omega)
    obtain ⟨s6', h⟩ := inner_loop X rows x xs ys p (stepF x ys[p] (rowL xs ys) f p) (.dat (.int p)) (by omega) (stepF_ok hy hf)
    refine ⟨s6', ?_⟩
    rw [show (((p + 1 : Nat) : Int) - 1) = (p : Int) by omega, rangeN_down, loopL_nx (ρ1 := [X, .dat (linesT ys), rows, .dat (.str x), .dat (.lst (rowF ys.length (rowL xs ys))), .own (.lst (rowF ys.length f)), .dat (.int p)]) rfl (inner_step X rows ys x ys[p] _ f p hy s6)]
    exact h
/-- the table, from its last row on -/
def tabUp (xs ys : List Str) (k : Nat) : List D := (List.range (k + 1)).map fun i => .lst (rowF ys.length (rowL (xs.drop (xs.length - i)) ys))
theorem tabUp_succ (xs ys : List Str) (k : Nat) : tabUp xs ys (k + 1) = tabUp xs ys k ++ [.lst (rowF ys.length (rowL (xs.drop (xs.length - (k + 1))) ys))] := by
  unfold tabUp
  rw [List.range_succ, List.map_append]
  rfl
theorem tabUp_len (xs ys : List Str) (k : Nat) : (tabUp xs ys k).length = k + 1 := by simp [tabUp]
theorem tabUp_last (xs ys : List Str) (k : Nat) : atI (tabUp xs ys k) (-1) = some (.lst (rowF ys.length (rowL (xs.drop (xs.length - k)) ys))) := by
  cases k with
  | zero => rfl
  | succ k => rw [tabUp_succ, atI_neg1]
theorem zeros (n : Nat) : (rowF n fun _ => 0) = .int 0 :: List.replicate n (.int 0) := by
  unfold rowF
  rw [List.map_const', List.length_range, List.replicate_succ]
theorem dRepL_eq (x : List D) (k : Int) : dRepL (.lst x) (.int k) = if repOk x.length k = true then some (List.replicate k.toNat x).flatten else none := rfl
theorem repOk_row (n : Nat) (h : n ≤ 1000) : repOk [D.int 0].length ((n : Int) + 1) = true := by
  unfold repOk cap
  simp
  omega
theorem rep_row (n : Nat) : (List.replicate ((n : Int) + 1).toNat [D.int 0]).flatten = .int 0 :: List.replicate n (.int 0) := by
  rw [show ((n : Int) + 1).toNat = n + 1 by omega, List.flatten_replicate_singleton, List.replicate_succ]
theorem dRepL_row (n : Nat) (h : n ≤ 1000) : dRepL (.lst [.int 0]) (.int ((n : Int) + 1)) = some (.int 0 :: List.replicate n (.int 0)) := by
  rw [dRepL_eq, if_pos (repOk_row n h), rep_row]
theorem dMulL_eq (x : List D) (k : Int) : dMul (.lst x) (.int k) = if repOk x.length k = true then some (.lst (List.replicate k.toNat x).flatten) else none := rfl
theorem dMul_row (n : Nat) (h : n ≤ 1000) : dMul (.lst [.int 0]) (.int ((n : Int) + 1)) = some (.lst (.int 0 :: List.replicate n (.int 0))) := by
  rw [dMulL_eq, if_pos (repOk_row n h), rep_row]
theorem rg3_eq (i j k : Int) : rg3 [.int i, .int j, .int k] = if rgOk i = true ∧ rgOk j = true ∧ k = -1 then some (rangeN i (i - j).toNat) else none := rfl
theorem cr_1 (X s3 s4 s5 s6 : PD.Loc) (T : List D) (d : D) (ys : List Str) (h : atI T (-1) = some d) : mAsg (mIxO 2 (mUn dNeg (PD.ret (.int 1)))) (setD 4) [X, .dat (linesT ys), .own (.lst T), s3, s4, s5, s6] = some (.nx [X, .dat (linesT ys), .own (.lst T), s3, .dat d, s5, s6]) := by
  simp [mSeq, mE, mIf, mRet, mAsg, mDrop, mAug, mPar, mPar3, mNext, mBreak, mCont, setD, setCons, setTup, setNil, mOp, mUn, mCb, mArg, mTest, mTru, mAnd, mOr, mNot, mIfE, mChain, mTupD, mLstD, mLstO, mSetO, mPart, mSl, mAndV, mOrV, mNotV, bnd, PD.ret, lft, rd, rdD, asB, asI, mIxO, ixOwn, ownAt, ownSet, mSetAtO, mSetAt, mMeth, mLenO, mTruO, mCall, mCallP, locsP, runF, okEnd, isPin, clean, cleanL, noPin, pin0, mTup, mLst, mCbO, mOpO, asL, asO, mLc, inB, mFor, mForE, mForR, mRaiseE, mRaise, mTold, Own.d, dInt, dInt2, dSub, dDiv, dMod, dLt, dLe, dGt, dGe, dNeg, dIpAdd, dLen, dIntOf, dAbs, dMax2, dTuple, dList, dIsN, elems, dFmt, dStrI, List.getElem?_cons_zero, List.getElem?_cons_succ, List.set_cons_zero, List.set_cons_succ, List.length_cons, List.length_nil, List.cons_append, List.nil_append, List.map_cons, List.map_nil, List.replicate_succ, List.replicate_zero, List.take_succ_cons, List.take_zero, if_true, if_false, ite_true, ite_false, Bool.and_true, Bool.true_and, Bool.false_eq_true, reduceIte, Option.map_some, Option.bind_some, Nat.reduceAdd, Nat.reduceSub, Nat.reduceLT, Nat.reduceLeDiff, decide_true, decide_false, Bool.not_true, Bool.not_false, Bool.or_true, Bool.or_false, Bool.false_or, Bool.true_or, eqD_int, eqD_str, dEq, dNe, Option.map_none, atI_0, atI_1, atI_2, mulOk_a, mulOk_b, cap, restE, wipeE, dMul, dAdd, ixN30, ixN31, ixN32, List.range_succ_eq_map, h]
theorem cr_2 (op : D → D → Option (List D)) (r : List D) (X s2 s3 s4 s5 s6 : PD.Loc) (ys : List Str) (h : op (.lst [.int 0]) (.int ((ys.length : Int) + 1)) = some r) : mSetO 5 (mOpO op (mLstD (mArg (PD.ret (.int 0)) (PD.ret []))) (mOp dAdd (mCb dLen (mArg (rd 1) (PD.ret []))) (PD.ret (.int 1)))) [X, .dat (linesT ys), s2, s3, s4, s5, s6] = some (.nx [X, .dat (linesT ys), s2, s3, s4, .own (.lst r), s6]) := by
  unfold linesT
  simp [mSeq, mE, mIf, mRet, mAsg, mDrop, mAug, mPar, mPar3, mNext, mBreak, mCont, setD, setCons, setTup, setNil, mOp, mUn, mCb, mArg, mTest, mTru, mAnd, mOr, mNot, mIfE, mChain, mTupD, mLstD, mLstO, mSetO, mPart, mSl, mAndV, mOrV, mNotV, bnd, PD.ret, lft, rd, rdD, asB, asI, mIxO, ixOwn, ownAt, ownSet, mSetAtO, mSetAt, mMeth, mLenO, mTruO, mCall, mCallP, locsP, runF, okEnd, isPin, clean, cleanL, noPin, pin0, mTup, mLst, mCbO, mOpO, asL, asO, mLc, inB, mFor, mForE, mForR, mRaiseE, mRaise, mTold, Own.d, dInt, dInt2, dSub, dDiv, dMod, dLt, dLe, dGt, dGe, dNeg, dIpAdd, dLen, dIntOf, dAbs, dMax2, dTuple, dList, dIsN, elems, dFmt, dStrI, List.getElem?_cons_zero, List.getElem?_cons_succ, List.set_cons_zero, List.set_cons_succ, List.length_cons, List.length_nil, List.cons_append, List.nil_append, List.map_cons, List.map_nil, List.replicate_succ, List.replicate_zero, List.take_succ_cons, List.take_zero, if_true, if_false, ite_true, ite_false, Bool.and_true, Bool.true_and, Bool.false_eq_true, reduceIte, Option.map_some, Option.bind_some, Nat.reduceAdd, Nat.reduceSub, Nat.reduceLT, Nat.reduceLeDiff, decide_true, decide_false, Bool.not_true, Bool.not_false, Bool.or_true, Bool.or_false, Bool.false_or, Bool.true_or, eqD_int, eqD_str, dEq, dNe, Option.map_none, atI_0, atI_1, atI_2, mulOk_a, mulOk_b, cap, restE, wipeE, dMul, dAdd, ixN30, ixN31, ixN32, List.range_succ_eq_map, h]
theorem cr_3 (X s2 s3 s4 s5 s6 : PD.Loc) (ys : List Str) (hy : ys.length ≤ 1000) : mForE rg3 (mArg (mOp dSub (mCb dLen (mArg (rd 1) (PD.ret []))) (PD.ret (.int 1))) (mArg (mUn dNeg (PD.ret (.int 1))) (mArg (mUn dNeg (PD.ret (.int 1))) (PD.ret [])))) (setD 6)
    m_common_rows_b1 [X, .dat (linesT ys), s2, s3, s4, s5, s6] = loopL (setD 6) m_common_rows_b1 (rangeN ((ys.length : Int) - 1) ys.length) [X, .dat (linesT ys), s2, s3, s4, s5, s6] := by
  have hr : rgOk ((ys.length : Int) - 1) = true := by unfold rgOk; simp; omega
  have hr2 : rgOk (-1) = true := by decide
  have e : rg3 [.int ((ys.length : Int) - 1), .int (-1), .int (-1)] = some (rangeN ((ys.length : Int) - 1) ys.length) := by
    have e1 : ((ys.length : Int) - 1 - -1).toNat = ys.length := by omega
    rw [rg3_eq, if_pos ⟨hr, hr2, rfl⟩, e1]
  unfold linesT
  simp [mSeq, mE, mIf, mRet, mAsg, mDrop, mAug, mPar, mPar3, mNext, mBreak, mCont, setD, setCons, setTup, setNil, mOp, mUn, mCb, mArg, mTest, mTru, mAnd, mOr, mNot, mIfE, mChain, mTupD, mLstD, mLstO, mSetO, mPart, mSl, mAndV, mOrV, mNotV, bnd, PD.ret, lft, rd, rdD, asB, asI, mIxO, ixOwn, ownAt, ownSet, mSetAtO, mSetAt, mMeth, mLenO, mTruO, mCall, mCallP, locsP, runF, okEnd, isPin, clean, cleanL, noPin, pin0, mTup, mLst, mCbO, mOpO, asL, asO, mLc, inB, mFor, mForE, mForR, mRaiseE, mRaise, mTold, Own.d, dInt, dInt2, dSub, dDiv, dMod, dLt, dLe, dGt, dGe, dNeg, dIpAdd, dLen, dIntOf, dAbs, dMax2, dTuple, dList, dIsN, elems, dFmt, dStrI, List.getElem?_cons_zero, List.getElem?_cons_succ, List.set_cons_zero, List.set_cons_succ, List.length_cons, List.length_nil, List.cons_append, List.nil_append, List.map_cons, List.map_nil, List.replicate_succ, List.replicate_zero, List.take_succ_cons, List.take_zero, if_true, if_false, ite_true, ite_false, Bool.and_true, Bool.true_and, Bool.false_eq_true, reduceIte, Option.map_some, Option.bind_some, Nat.reduceAdd, Nat.reduceSub, Nat.reduceLT, Nat.reduceLeDiff, decide_true, decide_false, Bool.not_true, Bool.not_false, Bool.or_true, Bool.or_false, Bool.false_or, Bool.true_or, eqD_int, eqD_str, dEq, dNe, Option.map_none, atI_0, atI_1, atI_2, mulOk_a, mulOk_b, cap, restE, wipeE, dMul, dAdd, ixN30, ixN31, ixN32, List.range_succ_eq_map, e]
theorem cr_4 (X s3 s4 s6 : PD.Loc) (T : List D) (row : List D) (ys : List Str) (hl : T.length < 100000) : mDrop (mMeth 2 mdAppend (mArg (rd 5) (PD.ret []))) [X, .dat (linesT ys), .own (.lst T), s3, s4, .own (.lst row), s6] = some (.nx [X, .dat (linesT ys), .own (.lst (T ++ [.lst row])), s3, s4, .dat (.lst row), s6]) := by
  simp [mSeq, mE, mIf, mRet, mAsg, mDrop, mAug, mPar, mPar3, mNext, mBreak, mCont, setD, setCons, setTup, setNil, mOp, mUn, mCb, mArg, mTest, mTru, mAnd, mOr, mNot, mIfE, mChain, mTupD, mLstD, mLstO, mSetO, mPart, mSl, mAndV, mOrV, mNotV, bnd, PD.ret, lft, rd, rdD, asB, asI, mIxO, ixOwn, ownAt, ownSet, mSetAtO, mSetAt, mMeth, mLenO, mTruO, mCall, mCallP, locsP, runF, okEnd, isPin, clean, cleanL, noPin, pin0, mTup, mLst, mCbO, mOpO, asL, asO, mLc, inB, mFor, mForE, mForR, mRaiseE, mRaise, mTold, Own.d, dInt, dInt2, dSub, dDiv, dMod, dLt, dLe, dGt, dGe, dNeg, dIpAdd, dLen, dIntOf, dAbs, dMax2, dTuple, dList, dIsN, elems, dFmt, dStrI, List.getElem?_cons_zero, List.getElem?_cons_succ, List.set_cons_zero, List.set_cons_succ, List.length_cons, List.length_nil, List.cons_append, List.nil_append, List.map_cons, List.map_nil, List.replicate_succ, List.replicate_zero, List.take_succ_cons, List.take_zero, if_true, if_false, ite_true, ite_false, Bool.and_true, Bool.true_and, Bool.false_eq_true, reduceIte, Option.map_some, Option.bind_some, Nat.reduceAdd, Nat.reduceSub, Nat.reduceLT, Nat.reduceLeDiff, decide_true, decide_false, Bool.not_true, Bool.not_false, Bool.or_true, Bool.or_false, Bool.false_or, Bool.true_or, eqD_int, eqD_str, dEq, dNe, Option.map_none, atI_0, atI_1, atI_2, mulOk_a, mulOk_b, cap, restE, wipeE, dMul, dAdd, ixN30, ixN31, ixN32, List.range_succ_eq_map, mdAppend, hl]
theorem outer_step (X : PD.Loc) (xs ys : List Str) (hy : ys.length ≤ 1000) (k : Nat) (hk : k < xs.length) (s4 s5 s6 : PD.Loc) (hxl : xs.length ≤ 1000) :
    ∃ t4 t5 t6, m_common_rows_b2 [X, .dat (linesT ys), .own (.lst (tabUp xs ys k)), .dat (.str (xs[xs.length - (k + 1)])), s4, s5, s6] =
      some (.nx [X, .dat (linesT ys), .own (.lst (tabUp xs ys (k + 1))), .dat (.str (xs[xs.length - (k + 1)])), t4, t5, t6]) := by
  have hd : xs.drop (xs.length - (k + 1)) = xs[xs.length - (k + 1)] :: xs.drop (xs.length - k) := by
    rw [List.drop_eq_getElem_cons (by omega)]
    congr 2
    omega
  obtain ⟨s6', h⟩ := inner_loop X (.own (.lst (tabUp xs ys k))) xs[xs.length - (k + 1)] (xs.drop (xs.length - k)) ys ys.length (fun _ => 0) s6 (Nat.le_refl _) (fun j h1 h2 => (rowL_end _ _ h1).symm)
  refine ⟨.dat (.lst (rowF ys.length (rowL (xs.drop (xs.length - k)) ys))), .dat (.lst (rowF ys.length (rowL (xs[xs.length - (k + 1)] :: xs.drop (xs.length - k)) ys))), s6', ?_⟩
  rw [tabUp_succ, hd]
  rw [zeros] at h
  unfold m_common_rows_b2
  rw [mSeq_nx (cr_1 _ _ _ _ _ _ _ _ (tabUp_last xs ys k)), mSeq_nx (cr_2 dRepL _ _ _ _ _ _ _ _ (dRepL_row _ hy)), mSeq_nx ((cr_3 _ _ _ _ _ _ _ hy).trans h)]
  exact cr_4 _ _ _ _ _ _ _ (by rw [tabUp_len]; omega)
theorem outer_loop (X : PD.Loc) (xs ys : List Str) (hx : xs.length ≤ 1000) (hy : ys.length ≤ 1000) : ∀ (r k : Nat) (s3 s4 s5 s6 : PD.Loc), r + k = xs.length →
    ∃ t3 t4 t5 t6, loopL (setD 3) m_common_rows_b2 ((xs.map D.str).reverse.drop k) [X, .dat (linesT ys), .own (.lst (tabUp xs ys k)), s3, s4, s5, s6] =
      some (.nx [X, .dat (linesT ys), .own (.lst (tabUp xs ys xs.length)), t3, t4, t5, t6])
  | 0, k, s3, s4, s5, s6, h => ⟨s3, s4, s5, s6, by
      have e : k = xs.length := by omega
      subst e
      rw [List.drop_eq_nil_of_le (by simp), loopL_nil]⟩
  | r + 1, k, s3, s4, s5, s6, h => by
    obtain ⟨t4, t5, t6, e⟩ := outer_step X xs ys hy k (by omega) s4 s5 s6 hx
    obtain ⟨u3, u4, u5, u6, e2⟩ := outer_loop X xs ys hx hy r (k + 1) (.dat (.str (xs[xs.length - (k + 1)]))) t4 t5 t6 (by omega)
    refine ⟨u3, u4, u5, u6, ?_⟩
    have hd : (xs.map D.str).reverse.drop k = .str (xs[xs.length - (k + 1)]) :: (xs.map D.str).reverse.drop (k + 1) := by
      rw [List.drop_eq_getElem_cons (by simp; omega)]
      congr 1
      rw [List.getElem_reverse, List.getElem_map]
      congr 2
      simp
      omega
    rw [hd, loopL_nx (ρ1 := [X, .dat (linesT ys), .own (.lst (tabUp xs ys k)), .dat (.str (xs[xs.length - (k + 1)])), s4, s5, s6]) rfl e]
    exact e2
/-- the table of two rows of lines -/
def tabD (xs ys : List Str) : D := .lst ((List.range (xs.length + 1)).map fun i => .lst (rowF ys.length (rowL (xs.drop i) ys)))
theorem tabUp_rev (xs ys : List Str) : D.lst (tabUp xs ys xs.length).reverse = tabD xs ys := by
  unfold tabUp tabD
  congr 1
  apply List.ext_getElem?
  intro i
  by_cases h : i < xs.length + 1
  · have h2 : xs.length + 1 - 1 - i < xs.length + 1 := by omega
    rw [List.getElem?_reverse (by simp; exact h), List.getElem?_map, List.getElem?_map, List.getElem?_range h, List.length_map, List.length_range, List.getElem?_range h2]
    simp only [Option.map_some]
    rw [show xs.length - (xs.length + 1 - 1 - i) = i by omega]
  · rw [List.getElem?_eq_none (by simp; omega), List.getElem?_eq_none (by simp; omega)]
theorem cr_0 (op : D → D → Option D) (r : D) (X s2 s3 s4 s5 s6 : PD.Loc) (ys : List Str) (h : op (.lst [.int 0]) (.int ((ys.length : Int) + 1)) = some r) : mSetO 2 (mLstO (mArg (mOp op (mLstD (mArg (PD.ret (.int 0)) (PD.ret []))) (mOp dAdd (mCb dLen (mArg (rd 1) (PD.ret []))) (PD.ret (.int 1)))) (PD.ret []))) [X, .dat (linesT ys), s2, s3, s4, s5, s6] = some (.nx [X, .dat (linesT ys), .own (.lst [r]), s3, s4, s5, s6]) := by
  unfold linesT
  simp [mSeq, mE, mIf, mRet, mAsg, mDrop, mAug, mPar, mPar3, mNext, mBreak, mCont, setD, setCons, setTup, setNil, mOp, mUn, mCb, mArg, mTest, mTru, mAnd, mOr, mNot, mIfE, mChain, mTupD, mLstD, mLstO, mSetO, mPart, mSl, mAndV, mOrV, mNotV, bnd, PD.ret, lft, rd, rdD, asB, asI, mIxO, ixOwn, ownAt, ownSet, mSetAtO, mSetAt, mMeth, mLenO, mTruO, mCall, mCallP, locsP, runF, okEnd, isPin, clean, cleanL, noPin, pin0, mTup, mLst, mCbO, mOpO, asL, asO, mLc, inB, mFor, mForE, mForR, mRaiseE, mRaise, mTold, Own.d, dInt, dInt2, dSub, dDiv, dMod, dLt, dLe, dGt, dGe, dNeg, dIpAdd, dLen, dIntOf, dAbs, dMax2, dTuple, dList, dIsN, elems, dFmt, dStrI, List.getElem?_cons_zero, List.getElem?_cons_succ, List.set_cons_zero, List.set_cons_succ, List.length_cons, List.length_nil, List.cons_append, List.nil_append, List.map_cons, List.map_nil, List.replicate_succ, List.replicate_zero, List.take_succ_cons, List.take_zero, if_true, if_false, ite_true, ite_false, Bool.and_true, Bool.true_and, Bool.false_eq_true, reduceIte, Option.map_some, Option.bind_some, Nat.reduceAdd, Nat.reduceSub, Nat.reduceLT, Nat.reduceLeDiff, decide_true, decide_false, Bool.not_true, Bool.not_false, Bool.or_true, Bool.or_false, Bool.false_or, Bool.true_or, eqD_int, eqD_str, dEq, dNe, Option.map_none, atI_0, atI_1, atI_2, mulOk_a, mulOk_b, cap, restE, wipeE, dMul, dAdd, ixN30, ixN31, ixN32, List.range_succ_eq_map, h]
theorem cr_5 (xs : List Str) (Y s2 s3 s4 s5 s6 : PD.Loc) : mForE elemsRev (rd 0) (setD 3) m_common_rows_b2 [.dat (linesT xs), Y, s2, s3, s4, s5, s6] = loopL (setD 3) m_common_rows_b2 (xs.map D.str).reverse [.dat (linesT xs), Y, s2, s3, s4, s5, s6] := rfl
theorem cr_6 (X Y s3 s4 s5 s6 : PD.Loc) (T : List D) : mDrop (mMeth 2 mdReverse (PD.ret [])) [X, Y, .own (.lst T), s3, s4, s5, s6] = some (.nx [X, Y, .own (.lst T.reverse), s3, s4, s5, s6]) := rfl
theorem common_rows_ok (xs ys : List Str) (hx : xs.length ≤ 1000) (hy : ys.length ≤ 1000) : F_common_rows [.dat (linesT xs), .dat (linesT ys)] = some (.ok (tabD xs ys) [.non, .non]) := by
  obtain ⟨t3, t4, t5, t6, h⟩ := outer_loop (.dat (linesT xs)) xs ys hx hy xs.length 0 .non .non .non .non (by omega)
  have h0 : tabUp xs ys 0 = [.lst (.int 0 :: List.replicate ys.length (.int 0))] := by
    unfold tabUp
    rw [← zeros]
    show [D.lst (rowF ys.length (rowL (xs.drop xs.length) ys))] = _
    rw [List.drop_length, rowF_congr (g := fun _ => 0) (fun j _ => by simp [rowL, lcs])]
  rw [h0, List.drop_zero] at h
  have body : m_common_rows [.dat (linesT xs), .dat (linesT ys), .non, .non, .non, .non, .non] = some (.rt (tabD xs ys) [.dat (linesT xs), .dat (linesT ys), .dat (tabD xs ys), t3, t4, t5, t6]) := by
    have e0 := cr_0 dMul (.lst (.int 0 :: List.replicate ys.length (.int 0))) (.dat (linesT xs)) .non .non .non .non .non ys (dMul_row _ hy)
    have e1 := (cr_5 xs (.dat (linesT ys)) (.own (.lst [.lst (.int 0 :: List.replicate ys.length (.int 0))])) .non .non .non .non).trans h
    have e2 := cr_6 (.dat (linesT xs)) (.dat (linesT ys)) t3 t4 t5 t6 (tabUp xs ys xs.length)
    unfold m_common_rows
    rw [mSeq_nx e0, mSeq_nx e1, mSeq_nx e2, ← tabUp_rev]
    rfl
  exact runF_rt (n := 2) (N := 7) (ρ0 := [.dat (linesT xs), .dat (linesT ys), .non, .non, .non, .non, .non]) rfl body rfl
end K02
end
section
set_option maxHeartbeats 0
namespace K02
open PySem L2 PD
def sp : List Str → List Str → Nat
  | x :: xs, y :: ys => if x = y then sp xs ys + 1 else 0
  | _, _ => 0
theorem drop_at {α : Type} {xs : List α} {k : Nat} (h : k < xs.length) : xs.drop k = xs[k] :: xs.drop (k + 1) := List.drop_eq_getElem_cons h
theorem str_at (xs : List Str) {k : Nat} (h : k < xs.length) : atI (xs.map D.str) (k : Int) = some (.str xs[k]) := by rw [atI_n, List.getElem?_map, List.getElem?_eq_getElem h]; rfl
theorem ss_t (xs ys : List Str) (k : Nat) : m_same_start_t1 [.dat (linesT xs), .dat (linesT ys), .dat (.int k)] = some (.ok (decide (∃ (h1 : k < xs.length) (h2 : k < ys.length), xs[k] = ys[k])) [.dat (linesT xs), .dat (linesT ys), .dat (.int k)]) := by
  unfold m_same_start_t1 linesT
  by_cases h1 : k < xs.length
  · by_cases h2 : k < ys.length
    · simp [mSeq, mE, mIf, mRet, mAsg, mDrop, mAug, mPar, mPar3, mNext, mBreak, mCont, setD, setCons, setTup, setNil, mOp, mUn, mCb, mArg, mTest, mTru, mAnd, mOr, mNot, mIfE, mChain, mTupD, mLstD, mLstO, mSetO, mPart, mSl, mAndV, mOrV, mNotV, bnd, PD.ret, lft, rd, rdD, asB, asI, mIxO, ixOwn, ownAt, ownSet, mSetAtO, mSetAt, mMeth, mLenO, mTruO, mCall, mCallP, locsP, runF, okEnd, isPin, clean, cleanL, noPin, pin0, mTup, mLst, mCbO, mOpO, asL, asO, mLc, inB, mFor, mForE, mForR, mRaiseE, mRaise, mTold, Own.d, dInt, dInt2, dSub, dDiv, dMod, dLt, dLe, dGt, dGe, dNeg, dIpAdd, dLen, dIntOf, dAbs, dMax2, dTuple, dList, dIsN, elems, dFmt, dStrI, List.getElem?_cons_zero, List.getElem?_cons_succ, List.set_cons_zero, List.set_cons_succ, List.length_cons, List.length_nil, List.cons_append, List.nil_append, List.map_cons, List.map_nil, List.replicate_succ, List.replicate_zero, List.take_succ_cons, List.take_zero, if_true, if_false, ite_true, ite_false, Bool.and_true, Bool.true_and, Bool.false_eq_true, reduceIte, Option.map_some, Option.bind_some, Nat.reduceAdd, Nat.reduceSub, Nat.reduceLT, Nat.reduceLeDiff, decide_true, decide_false, Bool.not_true, Bool.not_false, Bool.or_true, Bool.or_false, Bool.false_or, Bool.true_or, eqD_int, eqD_str, dEq, dNe, Option.map_none, atI_0, atI_1, atI_2, mulOk_a, mulOk_b, cap, restE, wipeE, dMul, dAdd, ixN30, ixN31, ixN32, List.range_succ_eq_map, dIx, str_at xs h1, str_at ys h2, h1, h2]
    · simp [mSeq, mE, mIf, mRet, mAsg, mDrop, mAug, mPar, mPar3, mNext, mBreak, mCont, setD, setCons, setTup, setNil, mOp, mUn, mCb, mArg, mTest, mTru, mAnd, mOr, mNot, mIfE, mChain, mTupD, mLstD, mLstO, mSetO, mPart, mSl, mAndV, mOrV, mNotV, bnd, PD.ret, lft, rd, rdD, asB, asI, mIxO, ixOwn, ownAt, ownSet, mSetAtO, mSetAt, mMeth, mLenO, mTruO, mCall, mCallP, locsP, runF, okEnd, isPin, clean, cleanL, noPin, pin0, mTup, mLst, mCbO, mOpO, asL, asO, mLc, inB, mFor, mForE, mForR, mRaiseE, mRaise, mTold, Own.d, dInt, dInt2, dSub, dDiv, dMod, dLt, dLe, dGt, dGe, dNeg, dIpAdd, dLen, dIntOf, dAbs, dMax2, dTuple, dList, dIsN, elems, dFmt, dStrI, List.getElem?_cons_zero, List.getElem?_cons_succ, List.set_cons_zero, List.set_cons_succ, List.length_cons, List.length_nil, List.cons_append, List.nil_append, List.map_cons, List.map_nil, List.replicate_succ, List.replicate_zero, List.take_succ_cons, List.take_zero, if_true, if_false, ite_true, ite_false, Bool.and_true, Bool.true_and, Bool.false_eq_true, reduceIte, Option.map_some, Option.bind_some, Nat.reduceAdd, Nat.reduceSub, Nat.reduceLT, Nat.reduceLeDiff, decide_true, decide_false, Bool.not_true, Bool.not_false, Bool.or_true, Bool.or_false, Bool.false_or, Bool.true_or, eqD_int, eqD_str, dEq, dNe, Option.map_none, atI_0, atI_1, atI_2, mulOk_a, mulOk_b, cap, restE, wipeE, dMul, dAdd, ixN30, ixN31, ixN32, List.range_succ_eq_map, h1, h2]
  · simp [mSeq, mE, mIf, mRet, mAsg, mDrop, mAug, mPar, mPar3, mNext, mBreak, mCont, setD, setCons, setTup, setNil, mOp, mUn, mCb, mArg, mTest, mTru, mAnd, mOr, mNot, mIfE, mChain, mTupD, mLstD, mLstO, mSetO, mPart, mSl, mAndV, mOrV, mNotV, bnd, PD.ret, lft, rd, rdD, asB, asI, mIxO, ixOwn, ownAt, ownSet, mSetAtO, mSetAt, mMeth, mLenO, mTruO, mCall, mCallP, locsP, runF, okEnd, isPin, clean, cleanL, noPin, pin0, mTup, mLst, mCbO, mOpO, asL, asO, mLc, inB, mFor, mForE, mForR, mRaiseE, mRaise, mTold, Own.d, dInt, dInt2, dSub, dDiv, dMod, dLt, dLe, dGt, dGe, dNeg, dIpAdd, dLen, dIntOf, dAbs, dMax2, dTuple, dList, dIsN, elems, dFmt, dStrI, List.getElem?_cons_zero, List.getElem?_cons_succ, List.set_cons_zero, List.set_cons_succ, List.length_cons, List.length_nil, List.cons_append, List.nil_append, List.map_cons, List.map_nil, List.replicate_succ, List.replicate_zero, List.take_succ_cons, List.take_zero, if_true, if_false, ite_true, ite_false, Bool.and_true, Bool.true_and, Bool.false_eq_true, reduceIte, Option.map_some, Option.bind_some, Nat.reduceAdd, Nat.reduceSub, Nat.reduceLT, Nat.reduceLeDiff, decide_true, decide_false, Bool.not_true, Bool.not_false, Bool.or_true, Bool.or_false, Bool.false_or, Bool.true_or, eqD_int, eqD_str, dEq, dNe, Option.map_none, atI_0, atI_1, atI_2, mulOk_a, mulOk_b, cap, restE, wipeE, dMul, dAdd, ixN30, ixN31, ixN32, List.range_succ_eq_map, h1]
theorem ss_b (X Y : PD.Loc) (k : Nat) : m_same_start_b1 [X, Y, .dat (.int k)] = some (.nx [X, Y, .dat (.int ((k + 1 : Nat) : Int))]) := by
  unfold m_same_start_b1
  simp [mSeq, mE, mIf, mRet, mAsg, mDrop, mAug, mPar, mPar3, mNext, mBreak, mCont, setD, setCons, setTup, setNil, mOp, mUn, mCb, mArg, mTest, mTru, mAnd, mOr, mNot, mIfE, mChain, mTupD, mLstD, mLstO, mSetO, mPart, mSl, mAndV, mOrV, mNotV, bnd, PD.ret, lft, rd, rdD, asB, asI, mIxO, ixOwn, ownAt, ownSet, mSetAtO, mSetAt, mMeth, mLenO, mTruO, mCall, mCallP, locsP, runF, okEnd, isPin, clean, cleanL, noPin, pin0, mTup, mLst, mCbO, mOpO, asL, asO, mLc, inB, mFor, mForE, mForR, mRaiseE, mRaise, mTold, Own.d, dInt, dInt2, dSub, dDiv, dMod, dLt, dLe, dGt, dGe, dNeg, dIpAdd, dLen, dIntOf, dAbs, dMax2, dTuple, dList, dIsN, elems, dFmt, dStrI, List.getElem?_cons_zero, List.getElem?_cons_succ, List.set_cons_zero, List.set_cons_succ, List.length_cons, List.length_nil, List.cons_append, List.nil_append, List.map_cons, List.map_nil, List.replicate_succ, List.replicate_zero, List.take_succ_cons, List.take_zero, if_true, if_false, ite_true, ite_false, Bool.and_true, Bool.true_and, Bool.false_eq_true, reduceIte, Option.map_some, Option.bind_some, Nat.reduceAdd, Nat.reduceSub, Nat.reduceLT, Nat.reduceLeDiff, decide_true, decide_false, Bool.not_true, Bool.not_false, Bool.or_true, Bool.or_false, Bool.false_or, Bool.true_or, eqD_int, eqD_str, dEq, dNe, Option.map_none, atI_0, atI_1, atI_2, mulOk_a, mulOk_b, cap, restE, wipeE, dMul, dAdd, ixN30, ixN31, ixN32, List.range_succ_eq_map]
theorem ss_loop (xs ys : List Str) : ∀ (n k : Nat), xs.length < n + k → loopW m_same_start_t1 m_same_start_b1 (n + 1) [.dat (linesT xs), .dat (linesT ys), .dat (.int k)] =
    some (.nx [.dat (linesT xs), .dat (linesT ys), .dat (.int ((k + sp (xs.drop k) (ys.drop k) : Nat) : Int))])
  | n, k, hn => by
    have ht := ss_t xs ys k
    by_cases h : ∃ (h1 : k < xs.length) (h2 : k < ys.length), xs[k] = ys[k]
    · rw [decide_eq_true h] at ht
      obtain ⟨h1, h2, h3⟩ := h
      cases n with
      | zero => omega
      | succ n =>
        rw [loopW_go ht (ss_b _ _ k), ss_loop xs ys n (k + 1) (by omega), drop_at h1, drop_at h2]
        simp only [sp, h3, if_true]
        rw [show k + 1 + sp (xs.drop (k + 1)) (ys.drop (k + 1)) = k + (sp (xs.drop (k + 1)) (ys.drop (k + 1)) + 1) by omega]
    · rw [decide_eq_false h] at ht
      rw [loopW_no ht]
      have : sp (xs.drop k) (ys.drop k) = 0 := by
        by_cases h1 : k < xs.length
        · by_cases h2 : k < ys.length
          · rw [drop_at h1, drop_at h2]
            have : xs[k] ≠ ys[k] := fun z => h ⟨h1, h2, z⟩
            simp [sp, this]
          · rw [List.drop_eq_nil_of_le (by omega : ys.length ≤ k)]
            cases xs.drop k <;> rfl
        · rw [List.drop_eq_nil_of_le (by omega : xs.length ≤ k)]
          rfl
      rw [this]
      rfl
theorem same_start_ok (xs ys : List Str) (hx : xs.length ≤ 1000) : F_same_start [.dat (linesT xs), .dat (linesT ys)] = some (.ok (.int (sp xs ys)) [.non, .non]) := by
  have h := ss_loop xs ys 99999 0 (by omega)
  have body : m_same_start [.dat (linesT xs), .dat (linesT ys), .non] = some (.rt (.int (sp xs ys)) [.dat (linesT xs), .dat (linesT ys), .dat (.int (sp xs ys))]) := by
    have e0 : mAsg (PD.ret (.int 0)) (setD 2) [.dat (linesT xs), .dat (linesT ys), .non] = some (.nx [.dat (linesT xs), .dat (linesT ys), .dat (.int ((0 : Nat) : Int))]) := rfl
    have e1 : mWhile (fun _ => 100000) m_same_start_t1 m_same_start_b1 [.dat (linesT xs), .dat (linesT ys), .dat (.int ((0 : Nat) : Int))] = some (.nx [.dat (linesT xs), .dat (linesT ys), .dat (.int (sp xs ys))]) := by
      unfold mWhile
      rw [show (100000 : Nat) = 99999 + 1 from rfl, h, Nat.zero_add, List.drop_zero, List.drop_zero]
    unfold m_same_start
    rw [mSeq_nx e0, mSeq_nx e1]
    rfl
  exact runF_rt (n := 2) (N := 3) (ρ0 := [.dat (linesT xs), .dat (linesT ys), .non]) rfl body rfl
end K02
end
section
set_option maxHeartbeats 0
namespace K02
open PySem L2 PD
theorem gw_cons (x : Str) (xs : List Str) (y : Str) (ys : List Str) (a b : Nat) : gw (x :: xs) (y :: ys) a b = if x = y then (a, b) :: gw xs ys (a + 1) (b + 1) else if lcs xs (y :: ys) ≥ lcs (x :: xs) ys then gw xs (y :: ys) (a + 1) b else gw (x :: xs) ys a (b + 1) := by rw [gw]
theorem gw_nil (xs : List Str) (a b : Nat) : gw xs [] a b = [] := by cases xs <;> simp [gw]
theorem gw_nil' (ys : List Str) (a b : Nat) : gw [] ys a b = [] := by simp [gw]
theorem atI_sub {α : Type} (l : List α) {a s : Nat} (h : s ≤ a) : atI l ((a : Int) - s) = l[a - s]? := by
  rw [show (a : Int) - s = ((a - s : Nat) : Int) by omega, PD.atI_n]
theorem atI_sub1 {α : Type} (l : List α) {a s : Nat} (h : s ≤ a) : atI l ((a : Int) - s + 1) = l[a - s + 1]? := by
  rw [show (a : Int) - s + 1 = ((a - s + 1 : Nat) : Int) by omega, PD.atI_n]
def tabL (us vs : List Str) : List D := (List.range (us.length + 1)).map fun i => .lst (rowF vs.length (rowL (us.drop i) vs))
theorem tabD_eq (us vs : List Str) : tabD us vs = .lst (tabL us vs) := rfl
theorem tab_get (us vs : List Str) {i : Nat} (h : i ≤ us.length) : (tabL us vs)[i]? = some (.lst (rowF vs.length (rowL (us.drop i) vs))) := by
  unfold tabL
  rw [List.getElem?_map, List.getElem?_range (by omega)]
  rfl
abbrev mEnv (xs ys : List Str) (s : Nat) (acc : List D) (P : PD.Loc) (a b : Nat) : PD.Env := [.dat (linesT xs), .dat (linesT ys), .dat (.int s), .own (.lst acc), P, .dat (tabD (xs.drop s) (ys.drop s)), .dat (.int a), .dat (.int b)]
theorem mt_t (xs ys : List Str) (s : Nat) (acc : List D) (P : PD.Loc) (a b : Nat) : m_matches_t1 (mEnv xs ys s acc P a b) = some (.ok (decide (a < xs.length ∧ b < ys.length)) (mEnv xs ys s acc P a b)) := by
  unfold m_matches_t1 mEnv linesT
  by_cases h1 : a < xs.length
  · simp [mSeq, mE, mIf, mRet, mAsg, mDrop, mAug, mPar, mPar3, mNext, mBreak, mCont, setD, setCons, setTup, setNil, mOp, mUn, mCb, mArg, mTest, mTru, mAnd, mOr, mNot, mIfE, mChain, mTupD, mLstD, mLstO, mSetO, mPart, mSl, mAndV, mOrV, mNotV, bnd, PD.ret, lft, rd, rdD, asB, asI, mIxO, ixOwn, ownAt, ownSet, mSetAtO, mSetAt, mMeth, mLenO, mTruO, mCall, mCallP, locsP, runF, okEnd, isPin, clean, cleanL, noPin, pin0, mTup, mLst, mCbO, mOpO, asL, asO, mLc, inB, mFor, mForE, mForR, mRaiseE, mRaise, mTold, Own.d, dInt, dInt2, dSub, dDiv, dMod, dLt, dLe, dGt, dGe, dNeg, dIpAdd, dLen, dIntOf, dAbs, dMax2, dTuple, dList, dIsN, elems, dFmt, dStrI, List.getElem?_cons_zero, List.getElem?_cons_succ, List.set_cons_zero, List.set_cons_succ, List.length_cons, List.length_nil, List.cons_append, List.nil_append, List.map_cons, List.map_nil, List.replicate_succ, List.replicate_zero, List.take_succ_cons, List.take_zero, if_true, if_false, ite_true, ite_false, Bool.and_true, Bool.true_and, Bool.false_eq_true, reduceIte, Option.map_some, Option.bind_some, Nat.reduceAdd, Nat.reduceSub, Nat.reduceLT, Nat.reduceLeDiff, decide_true, decide_false, Bool.not_true, Bool.not_false, Bool.or_true, Bool.or_false, Bool.false_or, Bool.true_or, eqD_int, eqD_str, dEq, dNe, Option.map_none, atI_0, atI_1, atI_2, mulOk_a, mulOk_b, cap, restE, wipeE, dMul, dAdd, ixN30, ixN31, ixN32, List.range_succ_eq_map, h1]
  · simp [mSeq, mE, mIf, mRet, mAsg, mDrop, mAug, mPar, mPar3, mNext, mBreak, mCont, setD, setCons, setTup, setNil, mOp, mUn, mCb, mArg, mTest, mTru, mAnd, mOr, mNot, mIfE, mChain, mTupD, mLstD, mLstO, mSetO, mPart, mSl, mAndV, mOrV, mNotV, bnd, PD.ret, lft, rd, rdD, asB, asI, mIxO, ixOwn, ownAt, ownSet, mSetAtO, mSetAt, mMeth, mLenO, mTruO, mCall, mCallP, locsP, runF, okEnd, isPin, clean, cleanL, noPin, pin0, mTup, mLst, mCbO, mOpO, asL, asO, mLc, inB, mFor, mForE, mForR, mRaiseE, mRaise, mTold, Own.d, dInt, dInt2, dSub, dDiv, dMod, dLt, dLe, dGt, dGe, dNeg, dIpAdd, dLen, dIntOf, dAbs, dMax2, dTuple, dList, dIsN, elems, dFmt, dStrI, List.getElem?_cons_zero, List.getElem?_cons_succ, List.set_cons_zero, List.set_cons_succ, List.length_cons, List.length_nil, List.cons_append, List.nil_append, List.map_cons, List.map_nil, List.replicate_succ, List.replicate_zero, List.take_succ_cons, List.take_zero, if_true, if_false, ite_true, ite_false, Bool.and_true, Bool.true_and, Bool.false_eq_true, reduceIte, Option.map_some, Option.bind_some, Nat.reduceAdd, Nat.reduceSub, Nat.reduceLT, Nat.reduceLeDiff, decide_true, decide_false, Bool.not_true, Bool.not_false, Bool.or_true, Bool.or_false, Bool.false_or, Bool.true_or, eqD_int, eqD_str, dEq, dNe, Option.map_none, atI_0, atI_1, atI_2, mulOk_a, mulOk_b, cap, restE, wipeE, dMul, dAdd, ixN30, ixN31, ixN32, List.range_succ_eq_map, h1]
theorem mt_b (xs ys : List Str) (s : Nat) (acc : List D) (P : PD.Loc) (a b : Nat) (ha : a < xs.length) (hb : b < ys.length) (hs : s ≤ a) (hs2 : s ≤ b) (hacc : acc.length < 100000) :
    m_matches_b1 (mEnv xs ys s acc P a b) = some (.nx (if xs[a] = ys[b] then mEnv xs ys s (acc ++ [pairD (a, b)]) P (a + 1) (b + 1) else if lcs (xs.drop (a + 1)) (ys.drop b) ≥ lcs (xs.drop a) (ys.drop (b + 1)) then mEnv xs ys s acc P (a + 1) b else mEnv xs ys s acc P a (b + 1))) := by
  unfold m_matches_b1 mEnv linesT
  by_cases h : xs[a] = ys[b]
  · rw [if_pos h]
    simp [mSeq, mE, mIf, mRet, mAsg, mDrop, mAug, mPar, mPar3, mNext, mBreak, mCont, setD, setCons, setTup, setNil, mOp, mUn, mCb, mArg, mTest, mTru, mAnd, mOr, mNot, mIfE, mChain, mTupD, mLstD, mLstO, mSetO, mPart, mSl, mAndV, mOrV, mNotV, bnd, PD.ret, lft, rd, rdD, asB, asI, mIxO, ixOwn, ownAt, ownSet, mSetAtO, mSetAt, mMeth, mLenO, mTruO, mCall, mCallP, locsP, runF, okEnd, isPin, clean, cleanL, noPin, pin0, mTup, mLst, mCbO, mOpO, asL, asO, mLc, inB, mFor, mForE, mForR, mRaiseE, mRaise, mTold, Own.d, dInt, dInt2, dSub, dDiv, dMod, dLt, dLe, dGt, dGe, dNeg, dIpAdd, dLen, dIntOf, dAbs, dMax2, dTuple, dList, dIsN, elems, dFmt, dStrI, List.getElem?_cons_zero, List.getElem?_cons_succ, List.set_cons_zero, List.set_cons_succ, List.length_cons, List.length_nil, List.cons_append, List.nil_append, List.map_cons, List.map_nil, List.replicate_succ, List.replicate_zero, List.take_succ_cons, List.take_zero, if_true, if_false, ite_true, ite_false, Bool.and_true, Bool.true_and, Bool.false_eq_true, reduceIte, Option.map_some, Option.bind_some, Nat.reduceAdd, Nat.reduceSub, Nat.reduceLT, Nat.reduceLeDiff, decide_true, decide_false, Bool.not_true, Bool.not_false, Bool.or_true, Bool.or_false, Bool.false_or, Bool.true_or, eqD_int, eqD_str, dEq, dNe, Option.map_none, atI_0, atI_1, atI_2, mulOk_a, mulOk_b, cap, restE, wipeE, dMul, dAdd, ixN30, ixN31, ixN32, List.range_succ_eq_map, dIx, str_at xs ha, str_at ys hb, h, mdAppend, hacc, pairD]
  · rw [if_neg h]
    have l1 : (xs.drop s).length = xs.length - s := List.length_drop
    have l2 : (ys.drop s).length = ys.length - s := List.length_drop
    have g1 := tab_get (xs.drop s) (ys.drop s) (i := a - s + 1) (by rw [l1]; omega)
    have g2 := tab_get (xs.drop s) (ys.drop s) (i := a - s) (by rw [l1]; omega)
    have r1 : ∀ f : Nat → Int, (rowF (ys.drop s).length f)[b - s]? = some (.int (f (b - s))) := fun f => rowF_get (by rw [l2]; omega)
    have v1 : rowL ((xs.drop s).drop (a - s + 1)) (ys.drop s) (b - s) = (lcs (xs.drop (a + 1)) (ys.drop b) : Int) := by
      unfold rowL
      rw [List.drop_drop, List.drop_drop, show s + (a - s + 1) = a + 1 by omega, show s + (b - s) = b by omega]
    have v2 : rowL ((xs.drop s).drop (a - s)) (ys.drop s) (b - s) = (lcs (xs.drop a) (ys.drop b) : Int) := by
      unfold rowL
      rw [List.drop_drop, List.drop_drop, show s + (a - s) = a by omega, show s + (b - s) = b by omega]
    have key : (lcs (xs.drop (a + 1)) (ys.drop b) = lcs (xs.drop a) (ys.drop b)) ↔ lcs (xs.drop (a + 1)) (ys.drop b) ≥ lcs (xs.drop a) (ys.drop (b + 1)) := by
      rw [drop_at ha, drop_at hb, lcs_cons, if_neg h]
      constructor <;> intro z <;> omega
    rw [tabD_eq]
    have c : mTest (mOp dEq (mOp dIx (mOp dIx (rd 5) (mOp dAdd (mOp dSub (rd 6) (rd 2)) (PD.ret (.int 1)))) (mOp dSub (rd 7) (rd 2))) (mOp dIx (mOp dIx (rd 5) (mOp dSub (rd 6) (rd 2))) (mOp dSub (rd 7) (rd 2)))) [.dat (.tup (xs.map .str)), .dat (.tup (ys.map .str)), .dat (.int s), .own (.lst acc), P, .dat (.lst (tabL (xs.drop s) (ys.drop s))), .dat (.int a), .dat (.int b)] =
        some (.ok (decide (lcs (xs.drop (a + 1)) (ys.drop b) ≥ lcs (xs.drop a) (ys.drop (b + 1)))) [.dat (.tup (xs.map .str)), .dat (.tup (ys.map .str)), .dat (.int s), .own (.lst acc), P, .dat (.lst (tabL (xs.drop s) (ys.drop s))), .dat (.int a), .dat (.int b)]) := by
      simp only [mSeq, mE, mIf, mRet, mAsg, mDrop, mAug, mPar, mPar3, mNext, mBreak, mCont, setD, setCons, setTup, setNil, mOp, mUn, mCb, mArg, mTest, mTru, mAnd, mOr, mNot, mIfE, mChain, mTupD, mLstD, mLstO, mSetO, mPart, mSl, mAndV, mOrV, mNotV, bnd, PD.ret, lft, rd, rdD, asB, asI, mIxO, ixOwn, ownAt, ownSet, mSetAtO, mSetAt, mMeth, mLenO, mTruO, mCall, mCallP, locsP, runF, okEnd, isPin, clean, cleanL, noPin, pin0, mTup, mLst, mCbO, mOpO, asL, asO, mLc, inB, mFor, mForE, mForR, mRaiseE, mRaise, mTold, Own.d, dInt, dInt2, dSub, dDiv, dMod, dLt, dLe, dGt, dGe, dNeg, dIpAdd, dLen, dIntOf, dAbs, dMax2, dTuple, dList, dIsN, elems, dFmt, dStrI, List.getElem?_cons_zero, List.getElem?_cons_succ, List.set_cons_zero, List.set_cons_succ, List.length_cons, List.length_nil, List.cons_append, List.nil_append, List.map_cons, List.map_nil, List.replicate_succ, List.replicate_zero, List.take_succ_cons, List.take_zero, if_true, if_false, ite_true, ite_false, Bool.and_true, Bool.true_and, Bool.false_eq_true, reduceIte, Option.map_some, Option.bind_some, Nat.reduceAdd, Nat.reduceSub, Nat.reduceLT, Nat.reduceLeDiff, decide_true, decide_false, Bool.not_true, Bool.not_false, Bool.or_true, Bool.or_false, Bool.false_or, Bool.true_or, eqD_int, eqD_str, dEq, dNe, Option.map_none, atI_0, atI_1, atI_2, mulOk_a, mulOk_b, cap, restE, wipeE, dMul, dAdd, ixN30, ixN31, ixN32, List.range_succ_eq_map, dIx, atI_sub1 _ hs, atI_sub _ hs, g1, g2, atI_sub _ hs2, r1, v1, v2]
      congr 2
      rw [decide_eq_decide]
      exact Iff.trans (by omega) key
    have c0 : mTest (mOp dEq (mOp dIx (rd 0) (rd 6)) (mOp dIx (rd 1) (rd 7))) [.dat (.tup (xs.map .str)), .dat (.tup (ys.map .str)), .dat (.int s), .own (.lst acc), P, .dat (.lst (tabL (xs.drop s) (ys.drop s))), .dat (.int a), .dat (.int b)] = some (.ok false [.dat (.tup (xs.map .str)), .dat (.tup (ys.map .str)), .dat (.int s), .own (.lst acc), P, .dat (.lst (tabL (xs.drop s) (ys.drop s))), .dat (.int a), .dat (.int b)]) := by
      simp [mSeq, mE, mIf, mRet, mAsg, mDrop, mAug, mPar, mPar3, mNext, mBreak, mCont, setD, setCons, setTup, setNil, mOp, mUn, mCb, mArg, mTest, mTru, mAnd, mOr, mNot, mIfE, mChain, mTupD, mLstD, mLstO, mSetO, mPart, mSl, mAndV, mOrV, mNotV, bnd, PD.ret, lft, rd, rdD, asB, asI, mIxO, ixOwn, ownAt, ownSet, mSetAtO, mSetAt, mMeth, mLenO, mTruO, mCall, mCallP, locsP, runF, okEnd, isPin, clean, cleanL, noPin, pin0, mTup, mLst, mCbO, mOpO, asL, asO, mLc, inB, mFor, mForE, mForR, mRaiseE, mRaise, mTold, Own.d, dInt, dInt2, dSub, dDiv, dMod, dLt, dLe, dGt, dGe, dNeg, dIpAdd, dLen, dIntOf, dAbs, dMax2, dTuple, dList, dIsN, elems, dFmt, dStrI, List.getElem?_cons_zero, List.getElem?_cons_succ, List.set_cons_zero, List.set_cons_succ, List.length_cons, List.length_nil, List.cons_append, List.nil_append, List.map_cons, List.map_nil, List.replicate_succ, List.replicate_zero, List.take_succ_cons, List.take_zero, if_true, if_false, ite_true, ite_false, Bool.and_true, Bool.true_and, Bool.false_eq_true, reduceIte, Option.map_some, Option.bind_some, Nat.reduceAdd, Nat.reduceSub, Nat.reduceLT, Nat.reduceLeDiff, decide_true, decide_false, Bool.not_true, Bool.not_false, Bool.or_true, Bool.or_false, Bool.false_or, Bool.true_or, eqD_int, eqD_str, dEq, dNe, Option.map_none, atI_0, atI_1, atI_2, mulOk_a, mulOk_b, cap, restE, wipeE, dMul, dAdd, ixN30, ixN31, ixN32, List.range_succ_eq_map, dIx, str_at xs ha, str_at ys hb, h]
    rw [mIf_f c0]
    by_cases k : lcs (xs.drop (a + 1)) (ys.drop b) ≥ lcs (xs.drop a) (ys.drop (b + 1))
    · rw [if_pos k]
      rw [decide_eq_true k] at c
      rw [mIf_t c]
      simp [mSeq, mE, mIf, mRet, mAsg, mDrop, mAug, mPar, mPar3, mNext, mBreak, mCont, setD, setCons, setTup, setNil, mOp, mUn, mCb, mArg, mTest, mTru, mAnd, mOr, mNot, mIfE, mChain, mTupD, mLstD, mLstO, mSetO, mPart, mSl, mAndV, mOrV, mNotV, bnd, PD.ret, lft, rd, rdD, asB, asI, mIxO, ixOwn, ownAt, ownSet, mSetAtO, mSetAt, mMeth, mLenO, mTruO, mCall, mCallP, locsP, runF, okEnd, isPin, clean, cleanL, noPin, pin0, mTup, mLst, mCbO, mOpO, asL, asO, mLc, inB, mFor, mForE, mForR, mRaiseE, mRaise, mTold, Own.d, dInt, dInt2, dSub, dDiv, dMod, dLt, dLe, dGt, dGe, dNeg, dIpAdd, dLen, dIntOf, dAbs, dMax2, dTuple, dList, dIsN, elems, dFmt, dStrI, List.getElem?_cons_zero, List.getElem?_cons_succ, List.set_cons_zero, List.set_cons_succ, List.length_cons, List.length_nil, List.cons_append, List.nil_append, List.map_cons, List.map_nil, List.replicate_succ, List.replicate_zero, List.take_succ_cons, List.take_zero, if_true, if_false, ite_true, ite_false, Bool.and_true, Bool.true_and, Bool.false_eq_true, reduceIte, Option.map_some, Option.bind_some, Nat.reduceAdd, Nat.reduceSub, Nat.reduceLT, Nat.reduceLeDiff, decide_true, decide_false, Bool.not_true, Bool.not_false, Bool.or_true, Bool.or_false, Bool.false_or, Bool.true_or, eqD_int, eqD_str, dEq, dNe, Option.map_none, atI_0, atI_1, atI_2, mulOk_a, mulOk_b, cap, restE, wipeE, dMul, dAdd, ixN30, ixN31, ixN32, List.range_succ_eq_map]
    · rw [if_neg k]
      rw [decide_eq_false k] at c
      rw [mIf_f c]
      simp [mSeq, mE, mIf, mRet, mAsg, mDrop, mAug, mPar, mPar3, mNext, mBreak, mCont, setD, setCons, setTup, setNil, mOp, mUn, mCb, mArg, mTest, mTru, mAnd, mOr, mNot, mIfE, mChain, mTupD, mLstD, mLstO, mSetO, mPart, mSl, mAndV, mOrV, mNotV, bnd, PD.ret, lft, rd, rdD, asB, asI, mIxO, ixOwn, ownAt, ownSet, mSetAtO, mSetAt, mMeth, mLenO, mTruO, mCall, mCallP, locsP, runF, okEnd, isPin, clean, cleanL, noPin, pin0, mTup, mLst, mCbO, mOpO, asL, asO, mLc, inB, mFor, mForE, mForR, mRaiseE, mRaise, mTold, Own.d, dInt, dInt2, dSub, dDiv, dMod, dLt, dLe, dGt, dGe, dNeg, dIpAdd, dLen, dIntOf, dAbs, dMax2, dTuple, dList, dIsN, elems, dFmt, dStrI, List.getElem?_cons_zero, List.getElem?_cons_succ, List.set_cons_zero, List.set_cons_succ, List.length_cons, List.length_nil, List.cons_append, List.nil_append, List.map_cons, List.map_nil, List.replicate_succ, List.replicate_zero, List.take_succ_cons, List.take_zero, if_true, if_false, ite_true, ite_false, Bool.and_true, Bool.true_and, Bool.false_eq_true, reduceIte, Option.map_some, Option.bind_some, Nat.reduceAdd, Nat.reduceSub, Nat.reduceLT, Nat.reduceLeDiff, decide_true, decide_false, Bool.not_true, Bool.not_false, Bool.or_true, Bool.or_false, Bool.false_or, Bool.true_or, eqD_int, eqD_str, dEq, dNe, Option.map_none, atI_0, atI_1, atI_2, mulOk_a, mulOk_b, cap, restE, wipeE, dMul, dAdd, ixN30, ixN31, ixN32, List.range_succ_eq_map]
theorem mt_loop (xs ys : List Str) (s : Nat) (P : PD.Loc) (hx : xs.length ≤ 1000) : ∀ (n a b : Nat) (acc : List D), s ≤ a → s ≤ b → a ≤ xs.length → b ≤ ys.length → xs.length + ys.length < n + 1 + a + b → acc.length ≤ a →
    ∃ a' b', loopW m_matches_t1 m_matches_b1 (n + 1) (mEnv xs ys s acc P a b) = some (.nx (mEnv xs ys s (acc ++ (gw (xs.drop a) (ys.drop b) a b).map pairD) P a' b'))
  | n, a, b, acc, h1, h2, h3, h4, h5, h6 => by
    have ht := mt_t xs ys s acc P a b
    by_cases c : a < xs.length ∧ b < ys.length
    · rw [decide_eq_true c] at ht
      obtain ⟨ha, hb⟩ := c
      have hbd := mt_b xs ys s acc P a b ha hb h1 h2 (by omega)
      cases n with
      | zero => omega
      | succ n =>
        rw [loopW_go ht hbd, drop_at ha, drop_at hb, gw_cons, ← drop_at ha, ← drop_at hb]
        by_cases e : xs[a] = ys[b]
        · rw [if_pos e, if_pos e]
          obtain ⟨a', b', h⟩ := mt_loop xs ys s P hx n (a + 1) (b + 1) (acc ++ [pairD (a, b)]) (by omega) (by omega) (by omega) (by omega) (by omega) (by rw [List.length_append, List.length_singleton]; omega)
          exact ⟨a', b', by rw [h]; simp⟩
        · rw [if_neg e, if_neg e]
          by_cases k : lcs (xs.drop (a + 1)) (ys.drop b) ≥ lcs (xs.drop a) (ys.drop (b + 1))
          · rw [if_pos k, if_pos k]
            exact mt_loop xs ys s P hx n (a + 1) b acc (by omega) (by omega) (by omega) (by omega) (by omega) (by omega)
          · rw [if_neg k, if_neg k]
            exact mt_loop xs ys s P hx n a (b + 1) acc (by omega) (by omega) (by omega) (by omega) (by omega) (by omega)
    · rw [decide_eq_false c] at ht
      refine ⟨a, b, ?_⟩
      rw [loopW_no ht]
      have : gw (xs.drop a) (ys.drop b) a b = [] := by
        by_cases z : a < xs.length
        · rw [List.drop_eq_nil_of_le (by omega : ys.length ≤ b), gw_nil]
        · rw [List.drop_eq_nil_of_le (by omega : xs.length ≤ a), gw_nil']
      rw [this]
      simp
end K02
end
section
set_option maxHeartbeats 0
namespace K02
open PySem PySem.Spec PyProof.Rows L2 PD
section
variable {P : Program} {w : World} {K : PySem.W.Frag} {mg : Str → Option Value} {base : Heap} {tb : TBs} {ca : Str → Addr}
abbrev s__law_pairs : Stmt := top 24
abbrev N__law_pairs : List Str := ["one", "other", "table", "k", "a", "row", "below", "b", "found"]
theorem sc__law_pairs : FnScope N__law_pairs ["one", "other"] (defScope s__law_pairs) := ⟨rfl, rfl, rfl, by decide +kernel, rfl, by decide +kernel, by decide +kernel⟩
def lpE0 : MM Own := (mOpO dRepL (mLstD (mArg (PD.ret (.int 0)) (PD.ret []))) (mOp dAdd (mCb dLen (mArg (rd 1) (PD.ret []))) (PD.ret (.int 1))))
def lpA : MM (List D) := (mArg (mOp dAdd (mCb dLen (mArg (rd 0) (PD.ret []))) (PD.ret (.int 1))) (PD.ret []))
def lpN : MM D := mCb dLen (mArg (rd 0) (PD.ret []))
def lpM : MM D := mCb dLen (mArg (rd 1) (PD.ret []))
def lpC : MM Bool := (mTest (mOp dEq (mOp dIx (rd 0) (rd 4)) (mOp dIx (rd 1) (rd 7))))
def lpT : MM D := (mOp dAdd (mOp dIx (rd 6) (mOp dAdd (rd 7) (PD.ret (.int 1)))) (PD.ret (.int 1)))
def lpF : MM D := (mCb dMax2 (mArg (mOp dIx (rd 6) (rd 7)) (mArg (mIxO 5 (mOp dAdd (rd 7) (PD.ret (.int 1)))) (PD.ret []))))
def lpE : MM D := mIfE lpC lpT lpF
def lpPre : PD.Env → Option PD.Env
  | [.dat (.tup as), .dat (.tup bs), .non, .non, .non, .non, .non, .non, .non] => match asStrs as, asStrs bs with
    | some xs, some ys => if xs.length ≤ 1000 ∧ ys.length ≤ 1000 then some (envT (.tup as) (.tup bs) (.dat (tabD xs ys)) .non .non .non .non) else none
    | _, _ => none
  | _ => none
def m__law_pairs_t1 : MM Bool :=
  (mAnd (mTest (mOp dLt (rd 4) (mCb dLen (mArg (rd 0) (PD.ret []))))) (mTest (mOp dLt (rd 7) (mCb dLen (mArg (rd 1) (PD.ret []))))))
def m__law_pairs_b3 : MS :=
  (mIf (mTest (mOp dEq (mOp dIx (rd 0) (rd 4)) (mOp dIx (rd 1) (rd 7))))
    (mPar3 8 4 7 (mArg (mOp dAdd (rd 8) (mLstD (mArg (mTupD (mArg (rd 4) (mArg (rd 7) (PD.ret [])))) (PD.ret [])))) (mArg (mOp dAdd (rd 4) (PD.ret (.int 1))) (mArg (mOp dAdd (rd 7) (PD.ret (.int 1))) (PD.ret [])))))
    (mIf (mTest (mOp dGe (mOp dIx (mOp dIx (rd 2) (mOp dAdd (rd 4) (PD.ret (.int 1)))) (rd 7)) (mOp dIx (mOp dIx (rd 2) (rd 4)) (mOp dAdd (rd 7) (PD.ret (.int 1))))))
    (mAsg (mOp dAdd (rd 4) (PD.ret (.int 1))) (setD 4))
    (mAsg (mOp dAdd (rd 7) (PD.ret (.int 1))) (setD 7))))
def m__law_pairs_r : MS :=
  (mSeq (mPar3 8 4 7 (mArg (mLstD (PD.ret [])) (mArg (PD.ret (.int 0)) (mArg (PD.ret (.int 0)) (PD.ret [])))))
    (mSeq (mWhile (fun _ => 100000) m__law_pairs_t1 m__law_pairs_b3)
    (mRet (rd 8))))
def m__law_pairs : MS := fun ρ => match lpPre ρ with
  | some ρ2 => m__law_pairs_r ρ2
  | none => none
theorem asStrs_eq : ∀ {as : List D} {xs : List Str}, asStrs as = some xs → as = xs.map .str
  | [], xs, h => by cases h; rfl
  | .str z :: as, xs, h => by
    obtain ⟨ys, h1, rfl⟩ := Option.map_eq_some_iff.mp h
    rw [asStrs_eq h1]; rfl
  | .non :: _, _, h => by cases h
  | .bl _ :: _, _, h => by cases h
  | .int _ :: _, _, h => by cases h
  | .tup _ :: _, _, h => by cases h
  | .lst _ :: _, _, h => by cases h
  | .dct _ :: _, _, h => by cases h
  | .frz _ :: _, _, h => by cases h
theorem lpPre_some {ρ ρ2 : PD.Env} (h : lpPre ρ = some ρ2) : ∃ xs ys, xs.length ≤ 1000 ∧ ys.length ≤ 1000 ∧ ρ = envT (linesT xs) (linesT ys) .non .non .non .non .non ∧ ρ2 = envT (linesT xs) (linesT ys) (.dat (tabD xs ys)) .non .non .non .non := by
  unfold lpPre at h
  split at h
  · split at h
    · rename_i as bs xs ys h1 h2
      split at h
      · rename_i hl
        cases h
        rw [asStrs_eq h1, asStrs_eq h2]
        exact ⟨xs, ys, hl.1, hl.2, rfl, rfl⟩
      · cases h
    · cases h
  · cases h
def lpX (xs ys : List Str) (a p : Nat) (f : Nat → Int) : Int := stepF ((xs[a]?).getD Str.empty) ((ys[p]?).getD Str.empty) (rowL (xs.drop (a + 1)) ys) f p p
theorem lp_a (xs ys : List Str) : lpA (envT (linesT xs) (linesT ys) .non .non .non .non .non) = some (.ok [.int ((xs.length + 1 : Nat) : Int)] (envT (linesT xs) (linesT ys) .non .non .non .non .non)) := by
  unfold lpA envT linesT
  simp [mSeq, mE, mIf, mRet, mAsg, mDrop, mAug, mPar, mPar3, mNext, mBreak, mCont, setD, setCons, setTup, setNil, mOp, mUn, mCb, mArg, mTest, mTru, mAnd, mOr, mNot, mIfE, mChain, mTupD, mLstD, mLstO, mSetO, mPart, mSl, mAndV, mOrV, mNotV, bnd, PD.ret, lft, rd, rdD, asB, asI, mIxO, ixOwn, ownAt, ownSet, mSetAtO, mSetAt, mMeth, mLenO, mTruO, mCall, mCallP, locsP, runF, okEnd, isPin, clean, cleanL, noPin, pin0, mTup, mLst, mCbO, mOpO, asL, asO, mLc, inB, mFor, mForE, mForR, mRaiseE, mRaise, mTold, Own.d, dInt, dInt2, dSub, dDiv, dMod, dLt, dLe, dGt, dGe, dNeg, dIpAdd, dLen, dIntOf, dAbs, dMax2, dTuple, dList, dIsN, elems, dFmt, dStrI, List.getElem?_cons_zero, List.getElem?_cons_succ, List.set_cons_zero, List.set_cons_succ, List.length_cons, List.length_nil, List.cons_append, List.nil_append, List.map_cons, List.map_nil, List.replicate_succ, List.replicate_zero, List.take_succ_cons, List.take_zero, if_true, if_false, ite_true, ite_false, Bool.and_true, Bool.true_and, Bool.false_eq_true, reduceIte, Option.map_some, Option.bind_some, Nat.reduceAdd, Nat.reduceSub, Nat.reduceLT, Nat.reduceLeDiff, decide_true, decide_false, Bool.not_true, Bool.not_false, Bool.or_true, Bool.or_false, Bool.false_or, Bool.true_or, eqD_int, eqD_str, dEq, dNe, Option.map_none, atI_0, atI_1, atI_2, mulOk_a, mulOk_b, cap, restE, wipeE, dMul, dAdd, ixN30, ixN31, ixN32, List.range_succ_eq_map]
theorem lp_n (xs ys : List Str) : lpN (envT (linesT xs) (linesT ys) .non .non .non .non .non) = some (.ok (.int xs.length) (envT (linesT xs) (linesT ys) .non .non .non .non .non)) := by
  unfold lpN envT linesT
  simp [mSeq, mE, mIf, mRet, mAsg, mDrop, mAug, mPar, mPar3, mNext, mBreak, mCont, setD, setCons, setTup, setNil, mOp, mUn, mCb, mArg, mTest, mTru, mAnd, mOr, mNot, mIfE, mChain, mTupD, mLstD, mLstO, mSetO, mPart, mSl, mAndV, mOrV, mNotV, bnd, PD.ret, lft, rd, rdD, asB, asI, mIxO, ixOwn, ownAt, ownSet, mSetAtO, mSetAt, mMeth, mLenO, mTruO, mCall, mCallP, locsP, runF, okEnd, isPin, clean, cleanL, noPin, pin0, mTup, mLst, mCbO, mOpO, asL, asO, mLc, inB, mFor, mForE, mForR, mRaiseE, mRaise, mTold, Own.d, dInt, dInt2, dSub, dDiv, dMod, dLt, dLe, dGt, dGe, dNeg, dIpAdd, dLen, dIntOf, dAbs, dMax2, dTuple, dList, dIsN, elems, dFmt, dStrI, List.getElem?_cons_zero, List.getElem?_cons_succ, List.set_cons_zero, List.set_cons_succ, List.length_cons, List.length_nil, List.cons_append, List.nil_append, List.map_cons, List.map_nil, List.replicate_succ, List.replicate_zero, List.take_succ_cons, List.take_zero, if_true, if_false, ite_true, ite_false, Bool.and_true, Bool.true_and, Bool.false_eq_true, reduceIte, Option.map_some, Option.bind_some, Nat.reduceAdd, Nat.reduceSub, Nat.reduceLT, Nat.reduceLeDiff, decide_true, decide_false, Bool.not_true, Bool.not_false, Bool.or_true, Bool.or_false, Bool.false_or, Bool.true_or, eqD_int, eqD_str, dEq, dNe, Option.map_none, atI_0, atI_1, atI_2, mulOk_a, mulOk_b, cap, restE, wipeE, dMul, dAdd, ixN30, ixN31, ixN32, List.range_succ_eq_map]
theorem lp_m (xs ys : List Str) (l4 l5 l6 : PD.Loc) : lpM (envT (linesT xs) (linesT ys) .non l4 l5 l6 .non) = some (.ok (.int ys.length) (envT (linesT xs) (linesT ys) .non l4 l5 l6 .non)) := by
  unfold lpM envT linesT
  simp [mSeq, mE, mIf, mRet, mAsg, mDrop, mAug, mPar, mPar3, mNext, mBreak, mCont, setD, setCons, setTup, setNil, mOp, mUn, mCb, mArg, mTest, mTru, mAnd, mOr, mNot, mIfE, mChain, mTupD, mLstD, mLstO, mSetO, mPart, mSl, mAndV, mOrV, mNotV, bnd, PD.ret, lft, rd, rdD, asB, asI, mIxO, ixOwn, ownAt, ownSet, mSetAtO, mSetAt, mMeth, mLenO, mTruO, mCall, mCallP, locsP, runF, okEnd, isPin, clean, cleanL, noPin, pin0, mTup, mLst, mCbO, mOpO, asL, asO, mLc, inB, mFor, mForE, mForR, mRaiseE, mRaise, mTold, Own.d, dInt, dInt2, dSub, dDiv, dMod, dLt, dLe, dGt, dGe, dNeg, dIpAdd, dLen, dIntOf, dAbs, dMax2, dTuple, dList, dIsN, elems, dFmt, dStrI, List.getElem?_cons_zero, List.getElem?_cons_succ, List.set_cons_zero, List.set_cons_succ, List.length_cons, List.length_nil, List.cons_append, List.nil_append, List.map_cons, List.map_nil, List.replicate_succ, List.replicate_zero, List.take_succ_cons, List.take_zero, if_true, if_false, ite_true, ite_false, Bool.and_true, Bool.true_and, Bool.false_eq_true, reduceIte, Option.map_some, Option.bind_some, Nat.reduceAdd, Nat.reduceSub, Nat.reduceLT, Nat.reduceLeDiff, decide_true, decide_false, Bool.not_true, Bool.not_false, Bool.or_true, Bool.or_false, Bool.false_or, Bool.true_or, eqD_int, eqD_str, dEq, dNe, Option.map_none, atI_0, atI_1, atI_2, mulOk_a, mulOk_b, cap, restE, wipeE, dMul, dAdd, ixN30, ixN31, ixN32, List.range_succ_eq_map]
theorem lp_0g (op : D → D → Option (List D)) (r : List D) (X l3 : PD.Loc) (ys : List Str) (h : op (.lst [.int 0]) (.int ((ys.length : Int) + 1)) = some r) : (mOpO op (mLstD (mArg (PD.ret (.int 0)) (PD.ret []))) (mOp dAdd (mCb dLen (mArg (rd 1) (PD.ret []))) (PD.ret (.int 1)))) [X, .dat (linesT ys), .non, l3, .non, .non, .non, .non, .non] = some (.ok (.lst r) [X, .dat (linesT ys), .non, l3, .non, .non, .non, .non, .non]) := by
  unfold linesT
  simp [mSeq, mE, mIf, mRet, mAsg, mDrop, mAug, mPar, mPar3, mNext, mBreak, mCont, setD, setCons, setTup, setNil, mOp, mUn, mCb, mArg, mTest, mTru, mAnd, mOr, mNot, mIfE, mChain, mTupD, mLstD, mLstO, mSetO, mPart, mSl, mAndV, mOrV, mNotV, bnd, PD.ret, lft, rd, rdD, asB, asI, mIxO, ixOwn, ownAt, ownSet, mSetAtO, mSetAt, mMeth, mLenO, mTruO, mCall, mCallP, locsP, runF, okEnd, isPin, clean, cleanL, noPin, pin0, mTup, mLst, mCbO, mOpO, asL, asO, mLc, inB, mFor, mForE, mForR, mRaiseE, mRaise, mTold, Own.d, dInt, dInt2, dSub, dDiv, dMod, dLt, dLe, dGt, dGe, dNeg, dIpAdd, dLen, dIntOf, dAbs, dMax2, dTuple, dList, dIsN, elems, dFmt, dStrI, List.getElem?_cons_zero, List.getElem?_cons_succ, List.set_cons_zero, List.set_cons_succ, List.length_cons, List.length_nil, List.cons_append, List.nil_append, List.map_cons, List.map_nil, List.replicate_succ, List.replicate_zero, List.take_succ_cons, List.take_zero, if_true, if_false, ite_true, ite_false, Bool.and_true, Bool.true_and, Bool.false_eq_true, reduceIte, Option.map_some, Option.bind_some, Nat.reduceAdd, Nat.reduceSub, Nat.reduceLT, Nat.reduceLeDiff, decide_true, decide_false, Bool.not_true, Bool.not_false, Bool.or_true, Bool.or_false, Bool.false_or, Bool.true_or, eqD_int, eqD_str, dEq, dNe, Option.map_none, atI_0, atI_1, atI_2, mulOk_a, mulOk_b, cap, restE, wipeE, dMul, dAdd, ixN30, ixN31, ixN32, List.range_succ_eq_map, h]
theorem lp_0 (xs ys : List Str) (hy : ys.length ≤ 1000) (d : D) : lpE0 ((envT (linesT xs) (linesT ys) .non .non .non .non .non).set 3 (.dat d)) = some (.ok (.lst (rowT ys.length fun _ => 0)) ((envT (linesT xs) (linesT ys) .non .non .non .non .non).set 3 (.dat d))) := by
  have z := lp_0g dRepL _ (.dat (linesT xs)) (.dat d) ys (dRepL_row ys.length hy)
  rw [← zeros] at z
  exact z
theorem lp_e (xs ys : List Str) (a p : Nat) (f : Nat → Int) (ha : a < xs.length) (hp : p < ys.length) (g : Nat → Int) (hg : g = rowL (xs.drop (a + 1)) ys) :
    lpE (envT (linesT xs) (linesT ys) .non (.dat (.int a)) (.own (.lst (rowT ys.length f))) (.dat (.lst (rowT ys.length g))) (.dat (.int p))) = some (.ok (.int (lpX xs ys a p f)) (envT (linesT xs) (linesT ys) .non (.dat (.int a)) (.own (.lst (rowT ys.length f))) (.dat (.lst (rowT ys.length g))) (.dat (.int p)))) := by
  have ex : (xs[a]?).getD Str.empty = xs[a] := by rw [List.getElem?_eq_getElem ha]; rfl
  have ey : (ys[p]?).getD Str.empty = ys[p] := by rw [List.getElem?_eq_getElem hp]; rfl
  have g1 : ∀ h : Nat → Int, (rowT ys.length h)[p + 1]? = some (.int (h (p + 1))) := fun h => rowT_get (by omega)
  have g2 : ∀ h : Nat → Int, (rowT ys.length h)[p]? = some (.int (h p)) := fun h => rowT_get (by omega)
  unfold lpX
  rw [ex, ey, ← hg]
  unfold stepF
  rw [if_pos rfl]
  by_cases h : xs[a] = ys[p]
  · rw [if_pos h]
    unfold lpE lpC lpT lpF envT linesT
    simp [mSeq, mE, mIf, mRet, mAsg, mDrop, mAug, mPar, mPar3, mNext, mBreak, mCont, setD, setCons, setTup, setNil, mOp, mUn, mCb, mArg, mTest, mTru, mAnd, mOr, mNot, mIfE, mChain, mTupD, mLstD, mLstO, mSetO, mPart, mSl, mAndV, mOrV, mNotV, bnd, PD.ret, lft, rd, rdD, asB, asI, mIxO, ixOwn, ownAt, ownSet, mSetAtO, mSetAt, mMeth, mLenO, mTruO, mCall, mCallP, locsP, runF, okEnd, isPin, clean, cleanL, noPin, pin0, mTup, mLst, mCbO, mOpO, asL, asO, mLc, inB, mFor, mForE, mForR, mRaiseE, mRaise, mTold, Own.d, dInt, dInt2, dSub, dDiv, dMod, dLt, dLe, dGt, dGe, dNeg, dIpAdd, dLen, dIntOf, dAbs, dMax2, dTuple, dList, dIsN, elems, dFmt, dStrI, List.getElem?_cons_zero, List.getElem?_cons_succ, List.set_cons_zero, List.set_cons_succ, List.length_cons, List.length_nil, List.cons_append, List.nil_append, List.map_cons, List.map_nil, List.replicate_succ, List.replicate_zero, List.take_succ_cons, List.take_zero, if_true, if_false, ite_true, ite_false, Bool.and_true, Bool.true_and, Bool.false_eq_true, reduceIte, Option.map_some, Option.bind_some, Nat.reduceAdd, Nat.reduceSub, Nat.reduceLT, Nat.reduceLeDiff, decide_true, decide_false, Bool.not_true, Bool.not_false, Bool.or_true, Bool.or_false, Bool.false_or, Bool.true_or, eqD_int, eqD_str, dEq, dNe, Option.map_none, atI_0, atI_1, atI_2, mulOk_a, mulOk_b, cap, restE, wipeE, dMul, dAdd, ixN30, ixN31, ixN32, List.range_succ_eq_map, dIx, atI_n, atI_succ, str_at xs ha, str_at ys hp, h, g1, g2]
  · rw [if_neg h]
    unfold lpE lpC lpT lpF envT linesT
    simp [mSeq, mE, mIf, mRet, mAsg, mDrop, mAug, mPar, mPar3, mNext, mBreak, mCont, setD, setCons, setTup, setNil, mOp, mUn, mCb, mArg, mTest, mTru, mAnd, mOr, mNot, mIfE, mChain, mTupD, mLstD, mLstO, mSetO, mPart, mSl, mAndV, mOrV, mNotV, bnd, PD.ret, lft, rd, rdD, asB, asI, mIxO, ixOwn, ownAt, ownSet, mSetAtO, mSetAt, mMeth, mLenO, mTruO, mCall, mCallP, locsP, runF, okEnd, isPin, clean, cleanL, noPin, pin0, mTup, mLst, mCbO, mOpO, asL, asO, mLc, inB, mFor, mForE, mForR, mRaiseE, mRaise, mTold, Own.d, dInt, dInt2, dSub, dDiv, dMod, dLt, dLe, dGt, dGe, dNeg, dIpAdd, dLen, dIntOf, dAbs, dMax2, dTuple, dList, dIsN, elems, dFmt, dStrI, List.getElem?_cons_zero, List.getElem?_cons_succ, List.set_cons_zero, List.set_cons_succ, List.length_cons, List.length_nil, List.cons_append, List.nil_append, List.map_cons, List.map_nil, List.replicate_succ, List.replicate_zero, List.take_succ_cons, List.take_zero, if_true, if_false, ite_true, ite_false, Bool.and_true, Bool.true_and, Bool.false_eq_true, reduceIte, Option.map_some, Option.bind_some, Nat.reduceAdd, Nat.reduceSub, Nat.reduceLT, Nat.reduceLeDiff, decide_true, decide_false, Bool.not_true, Bool.not_false, Bool.or_true, Bool.or_false, Bool.false_or, Bool.true_or, eqD_int, eqD_str, dEq, dNe, Option.map_none, atI_0, atI_1, atI_2, mulOk_a, mulOk_b, cap, restE, wipeE, dMul, dAdd, ixN30, ixN31, ixN32, List.range_succ_eq_map, dIx, atI_n, atI_succ, str_at xs ha, str_at ys hp, h, g1, g2]
theorem lp_step (xs ys : List Str) (a p : Nat) (f : Nat → Int) (ha : a < xs.length) (hp : p < ys.length) (hf : ∀ j, p + 1 ≤ j → j ≤ ys.length → f j = rowL (xs.drop a) ys j) : lpX xs ys a p f = rowL (xs.drop a) ys p := by
  have ex : (xs[a]?).getD Str.empty = xs[a] := by rw [List.getElem?_eq_getElem ha]; rfl
  have ey : ys[p]? = some ys[p] := List.getElem?_eq_getElem hp
  unfold lpX
  rw [ex, ey]
  rw [drop_at ha] at hf ⊢
  exact stepF_ok ey hf p (Nat.le_refl _) (by omega)
theorem seq_eq {t u : TS} {D : Ends} {σ : L2.St} {H : Hp} : tSeq t u D σ H = t { D with nx := u D } σ H := rfl
theorem seq_rows {c : Cc} {ρ : PD.Env} {i k n : Nat} {ta : TA} {te0 : TE} {ma : MM (List D)} {me0 : MM Own} {ds : List D} {T2 : TS} {E : Ends} (hP : c.P k = false) (hk : ρ[k]? = some .non)
    (ha : SA c ta ma) (ea : ma ρ = some (.ok [.int (n : Int)] ρ)) (h0 : SF c te0 me0) (e0 : ∀ i : Int, me0 (ρ.set k (.dat (.int i))) = some (.ok (.lst ds) (ρ.set k (.dat (.int i))))) (hn : n ≤ 100000) {s : Ws} {σ : L2.St} (hs : SR c.K c.tb ρ s σ)
    (hR : ∀ L ps s', SR c.K c.tb ρ s' σ → Tr c.P s s' → s.H L = none → s'.H L = some (.lst (ps.map V.ref)) → ps.length = n → Rows c s s' ps ds → s'.W L = none → ¬ OwnsA s' L → L ∉ ps → T2 E (σ.set i (some (.ref L))) s'.H) :
    tSeq (tAsg (tLc (iRng1 ta) (gName k) tYes te0 [k]) (gName i)) T2 E σ s.H :=
  rows_lc (R := fun x H1 => T2 E (σ.set i (some x)) H1) hP hk ha ea h0 e0 hn hs hR
theorem ss_tab {c : Cc} (hP : ∀ i, c.P i = false) {ta : TA} {te0 tn tm te1 : TE} (ha : SA c ta lpA) (h0 : SF c te0 lpE0) (hn : SE c tn lpN) (hm : SE c tm lpM) (h1 : SE c te1 lpE) {tR : TS} {mR : MS} (h : SS c tR mR) :
    SS c (tSeq (tAsg (tLc (iRng1 ta) (gName 3) tYes te0 [3]) (gName 2)) (tSeq (tFor (iSeq c.K (tRevL c.K (tLstRg (tRg1 tn)))) (gName 4) (tSeq (tPar 5 6 (tCons (tOp (rIx c.K) (tVar 2) (tVar 4)) (tCons (tOp (rIx c.K) (tVar 2) (tOp (rAddAll c.K) (tVar 4) (tC (.int 1)))) tNil))) (tFor (iSeq c.K (tRevL c.K (tLstRg (tRg1 tm)))) (gName 7) (tAsg te1 (gSub (tVar 5) (tVar 7) rSetL))))) tR)) (fun ρ => match lpPre ρ with
      | some ρ2 => mR ρ2
      | none => none) := by
  intro ρ o e s σ hs E q
  have e : (match lpPre ρ with
      | some ρ2 => mR ρ2
      | none => none) = some o := e
  cases hp : lpPre ρ with
  | none => rw [hp] at e; cases e
  | some ρ2 =>
    rw [hp] at e
    obtain ⟨xs, ys, hx, hy, rfl, rfl⟩ := lpPre_some hp
    refine seq_rows (n := xs.length + 1) (hP 3) rfl ha (lp_a xs ys) h0 (fun i => lp_0 xs ys hy _) (by omega) hs (fun L ps s2 hs2 t2 hL0 hL hl r wL nL nm => ?_)
    rw [seq_eq]
    have k3 := hs2.letgo (i := 2) (l := .non) (ov := some (.ref L)) (oa := none) (show (2 : Nat) < 9 by decide) rfl (fun _ z => nomatch z)
    have t3 : Tr c.P s2 ⟨s2.W, s2.H, updA s2.A 2 none⟩ := tr_letgo (oa := none) (hP 2) fun _ z => nomatch z
    have l2 : 2 < σ.length := by rw [hs.len]; exact (show (2 : Nat) < 9 by decide)
    obtain ⟨j1, j2, j3⟩ := own_tr t3 hL (fun _ z => nomatch z) wL nL
    refine tab_loop (X := linesT xs) (Y := linesT ys) (n := xs.length) (m := ys.length) (R := fun i => rowL (xs.drop i) ys) (nxt := lpX xs ys) hP hn (lp_n xs ys) (by omega) hm (fun a l5 l6 => lp_m xs ys _ l5 l6) (by omega) h1 (fun a p f ha hp => lp_e xs ys a p f ha hp _ rfl) (fun a p f ha hp hf => lp_step xs ys a p f ha hp hf) (fun a => rowL_end _ _ (Nat.le_refl _)) (fun j _ => ?_) (s0 := s) (s := ⟨s2.W, s2.H, updA s2.A 2 none⟩) (L := L) (ps := ps) k3 (t2.trans t3) hL0 (List.getElem?_set_self l2) hL hl (r.tr t3) j2 j3 nm (E := { E with nx := tR E }) (fun s' σ' k t => ?_)
    · show rowL (xs.drop xs.length) ys j = 0
      rw [List.drop_length]
      simp [rowL, lcs]
    · exact h _ _ e s' σ' k E (q.after t)
abbrev lEnv (xs ys : List Str) (acc : List D) (a b : Nat) : PD.Env := [.dat (linesT xs), .dat (linesT ys), .dat (tabD xs ys), .non, .dat (.int a), .non, .non, .dat (.int b), .dat (.lst acc)]
theorem lw_t (xs ys : List Str) (acc : List D) (a b : Nat) : m__law_pairs_t1 (lEnv xs ys acc a b) = some (.ok (decide (a < xs.length ∧ b < ys.length)) (lEnv xs ys acc a b)) := by
  unfold m__law_pairs_t1 lEnv linesT
  by_cases h1 : a < xs.length
  · simp [mSeq, mE, mIf, mRet, mAsg, mDrop, mAug, mPar, mPar3, mNext, mBreak, mCont, setD, setCons, setTup, setNil, mOp, mUn, mCb, mArg, mTest, mTru, mAnd, mOr, mNot, mIfE, mChain, mTupD, mLstD, mLstO, mSetO, mPart, mSl, mAndV, mOrV, mNotV, bnd, PD.ret, lft, rd, rdD, asB, asI, mIxO, ixOwn, ownAt, ownSet, mSetAtO, mSetAt, mMeth, mLenO, mTruO, mCall, mCallP, locsP, runF, okEnd, isPin, clean, cleanL, noPin, pin0, mTup, mLst, mCbO, mOpO, asL, asO, mLc, inB, mFor, mForE, mForR, mRaiseE, mRaise, mTold, Own.d, dInt, dInt2, dSub, dDiv, dMod, dLt, dLe, dGt, dGe, dNeg, dIpAdd, dLen, dIntOf, dAbs, dMax2, dTuple, dList, dIsN, elems, dFmt, dStrI, List.getElem?_cons_zero, List.getElem?_cons_succ, List.set_cons_zero, List.set_cons_succ, List.length_cons, List.length_nil, List.cons_append, List.nil_append, List.map_cons, List.map_nil, List.replicate_succ, List.replicate_zero, List.take_succ_cons, List.take_zero, if_true, if_false, ite_true, ite_false, Bool.and_true, Bool.true_and, Bool.false_eq_true, reduceIte, Option.map_some, Option.bind_some, Nat.reduceAdd, Nat.reduceSub, Nat.reduceLT, Nat.reduceLeDiff, decide_true, decide_false, Bool.not_true, Bool.not_false, Bool.or_true, Bool.or_false, Bool.false_or, Bool.true_or, eqD_int, eqD_str, dEq, dNe, Option.map_none, atI_0, atI_1, atI_2, mulOk_a, mulOk_b, cap, restE, wipeE, dMul, dAdd, ixN30, ixN31, ixN32, List.range_succ_eq_map, h1]
  · simp [mSeq, mE, mIf, mRet, mAsg, mDrop, mAug, mPar, mPar3, mNext, mBreak, mCont, setD, setCons, setTup, setNil, mOp, mUn, mCb, mArg, mTest, mTru, mAnd, mOr, mNot, mIfE, mChain, mTupD, mLstD, mLstO, mSetO, mPart, mSl, mAndV, mOrV, mNotV, bnd, PD.ret, lft, rd, rdD, asB, asI, mIxO, ixOwn, ownAt, ownSet, mSetAtO, mSetAt, mMeth, mLenO, mTruO, mCall, mCallP, locsP, runF, okEnd, isPin, clean, cleanL, noPin, pin0, mTup, mLst, mCbO, mOpO, asL, asO, mLc, inB, mFor, mForE, mForR, mRaiseE, mRaise, mTold, Own.d, dInt, dInt2, dSub, dDiv, dMod, dLt, dLe, dGt, dGe, dNeg, dIpAdd, dLen, dIntOf, dAbs, dMax2, dTuple, dList, dIsN, elems, dFmt, dStrI, List.getElem?_cons_zero, List.getElem?_cons_succ, List.set_cons_zero, List.set_cons_succ, List.length_cons, List.length_nil, List.cons_append, List.nil_append, List.map_cons, List.map_nil, List.replicate_succ, List.replicate_zero, List.take_succ_cons, List.take_zero, if_true, if_false, ite_true, ite_false, Bool.and_true, Bool.true_and, Bool.false_eq_true, reduceIte, Option.map_some, Option.bind_some, Nat.reduceAdd, Nat.reduceSub, Nat.reduceLT, Nat.reduceLeDiff, decide_true, decide_false, Bool.not_true, Bool.not_false, Bool.or_true, Bool.or_false, Bool.false_or, Bool.true_or, eqD_int, eqD_str, dEq, dNe, Option.map_none, atI_0, atI_1, atI_2, mulOk_a, mulOk_b, cap, restE, wipeE, dMul, dAdd, ixN30, ixN31, ixN32, List.range_succ_eq_map, h1]
theorem lw_b (xs ys : List Str) (acc : List D) (a b : Nat) (ha : a < xs.length) (hb : b < ys.length) (hacc : acc.length < 90000) :
    m__law_pairs_b3 (lEnv xs ys acc a b) = some (.nx (if xs[a] = ys[b] then lEnv xs ys (acc ++ [pairD (a, b)]) (a + 1) (b + 1) else if lcs (xs.drop (a + 1)) (ys.drop b) ≥ lcs (xs.drop a) (ys.drop (b + 1)) then lEnv xs ys acc (a + 1) b else lEnv xs ys acc a (b + 1))) := by
  unfold m__law_pairs_b3 lEnv linesT
  by_cases h : xs[a] = ys[b]
  · rw [if_pos h]
    have hl : acc.length + 1 ≤ 100000 := by omega
    simp [mSeq, mE, mIf, mRet, mAsg, mDrop, mAug, mPar, mPar3, mNext, mBreak, mCont, setD, setCons, setTup, setNil, mOp, mUn, mCb, mArg, mTest, mTru, mAnd, mOr, mNot, mIfE, mChain, mTupD, mLstD, mLstO, mSetO, mPart, mSl, mAndV, mOrV, mNotV, bnd, PD.ret, lft, rd, rdD, asB, asI, mIxO, ixOwn, ownAt, ownSet, mSetAtO, mSetAt, mMeth, mLenO, mTruO, mCall, mCallP, locsP, runF, okEnd, isPin, clean, cleanL, noPin, pin0, mTup, mLst, mCbO, mOpO, asL, asO, mLc, inB, mFor, mForE, mForR, mRaiseE, mRaise, mTold, Own.d, dInt, dInt2, dSub, dDiv, dMod, dLt, dLe, dGt, dGe, dNeg, dIpAdd, dLen, dIntOf, dAbs, dMax2, dTuple, dList, dIsN, elems, dFmt, dStrI, List.getElem?_cons_zero, List.getElem?_cons_succ, List.set_cons_zero, List.set_cons_succ, List.length_cons, List.length_nil, List.cons_append, List.nil_append, List.map_cons, List.map_nil, List.replicate_succ, List.replicate_zero, List.take_succ_cons, List.take_zero, if_true, if_false, ite_true, ite_false, Bool.and_true, Bool.true_and, Bool.false_eq_true, reduceIte, Option.map_some, Option.bind_some, Nat.reduceAdd, Nat.reduceSub, Nat.reduceLT, Nat.reduceLeDiff, decide_true, decide_false, Bool.not_true, Bool.not_false, Bool.or_true, Bool.or_false, Bool.false_or, Bool.true_or, eqD_int, eqD_str, dEq, dNe, Option.map_none, atI_0, atI_1, atI_2, mulOk_a, mulOk_b, cap, restE, wipeE, dMul, dAdd, ixN30, ixN31, ixN32, List.range_succ_eq_map, dIx, str_at xs ha, str_at ys hb, h, pairD, hl]
  · rw [if_neg h]
    have g1 := tab_get xs ys (i := a + 1) (by omega)
    have g2 := tab_get xs ys (i := a) (by omega)
    have r1 : ∀ f : Nat → Int, (rowF ys.length f)[b]? = some (.int (f b)) := fun f => rowF_get (by omega)
    have r2 : ∀ f : Nat → Int, (rowF ys.length f)[b + 1]? = some (.int (f (b + 1))) := fun f => rowF_get (by omega)
    have v1 : rowL (xs.drop (a + 1)) ys b = (lcs (xs.drop (a + 1)) (ys.drop b) : Int) := rfl
    have v2 : rowL (xs.drop a) ys (b + 1) = (lcs (xs.drop a) (ys.drop (b + 1)) : Int) := rfl
    rw [tabD_eq]
    have c0 : mTest (mOp dEq (mOp dIx (rd 0) (rd 4)) (mOp dIx (rd 1) (rd 7))) [.dat (.tup (xs.map .str)), .dat (.tup (ys.map .str)), .dat (.lst (tabL xs ys)), .non, .dat (.int a), .non, .non, .dat (.int b), .dat (.lst acc)] = some (.ok false [.dat (.tup (xs.map .str)), .dat (.tup (ys.map .str)), .dat (.lst (tabL xs ys)), .non, .dat (.int a), .non, .non, .dat (.int b), .dat (.lst acc)]) := by
      simp [mSeq, mE, mIf, mRet, mAsg, mDrop, mAug, mPar, mPar3, mNext, mBreak, mCont, setD, setCons, setTup, setNil, mOp, mUn, mCb, mArg, mTest, mTru, mAnd, mOr, mNot, mIfE, mChain, mTupD, mLstD, mLstO, mSetO, mPart, mSl, mAndV, mOrV, mNotV, bnd, PD.ret, lft, rd, rdD, asB, asI, mIxO, ixOwn, ownAt, ownSet, mSetAtO, mSetAt, mMeth, mLenO, mTruO, mCall, mCallP, locsP, runF, okEnd, isPin, clean, cleanL, noPin, pin0, mTup, mLst, mCbO, mOpO, asL, asO, mLc, inB, mFor, mForE, mForR, mRaiseE, mRaise, mTold, Own.d, dInt, dInt2, dSub, dDiv, dMod, dLt, dLe, dGt, dGe, dNeg, dIpAdd, dLen, dIntOf, dAbs, dMax2, dTuple, dList, dIsN, elems, dFmt, dStrI, List.getElem?_cons_zero, List.getElem?_cons_succ, List.set_cons_zero, List.set_cons_succ, List.length_cons, List.length_nil, List.cons_append, List.nil_append, List.map_cons, List.map_nil, List.replicate_succ, List.replicate_zero, List.take_succ_cons, List.take_zero, if_true, if_false, ite_true, ite_false, Bool.and_true, Bool.true_and, Bool.false_eq_true, reduceIte, Option.map_some, Option.bind_some, Nat.reduceAdd, Nat.reduceSub, Nat.reduceLT, Nat.reduceLeDiff, decide_true, decide_false, Bool.not_true, Bool.not_false, Bool.or_true, Bool.or_false, Bool.false_or, Bool.true_or, eqD_int, eqD_str, dEq, dNe, Option.map_none, atI_0, atI_1, atI_2, mulOk_a, mulOk_b, cap, restE, wipeE, dMul, dAdd, ixN30, ixN31, ixN32, List.range_succ_eq_map, dIx, str_at xs ha, str_at ys hb, h]
    have c : mTest (mOp dGe (mOp dIx (mOp dIx (rd 2) (mOp dAdd (rd 4) (PD.ret (.int 1)))) (rd 7)) (mOp dIx (mOp dIx (rd 2) (rd 4)) (mOp dAdd (rd 7) (PD.ret (.int 1))))) [.dat (.tup (xs.map .str)), .dat (.tup (ys.map .str)), .dat (.lst (tabL xs ys)), .non, .dat (.int a), .non, .non, .dat (.int b), .dat (.lst acc)] =
        some (.ok (decide (lcs (xs.drop (a + 1)) (ys.drop b) ≥ lcs (xs.drop a) (ys.drop (b + 1)))) [.dat (.tup (xs.map .str)), .dat (.tup (ys.map .str)), .dat (.lst (tabL xs ys)), .non, .dat (.int a), .non, .non, .dat (.int b), .dat (.lst acc)]) := by
      simp only [mSeq, mE, mIf, mRet, mAsg, mDrop, mAug, mPar, mPar3, mNext, mBreak, mCont, setD, setCons, setTup, setNil, mOp, mUn, mCb, mArg, mTest, mTru, mAnd, mOr, mNot, mIfE, mChain, mTupD, mLstD, mLstO, mSetO, mPart, mSl, mAndV, mOrV, mNotV, bnd, PD.ret, lft, rd, rdD, asB, asI, mIxO, ixOwn, ownAt, ownSet, mSetAtO, mSetAt, mMeth, mLenO, mTruO, mCall, mCallP, locsP, runF, okEnd, isPin, clean, cleanL, noPin, pin0, mTup, mLst, mCbO, mOpO, asL, asO, mLc, inB, mFor, mForE, mForR, mRaiseE, mRaise, mTold, Own.d, dInt, dInt2, dSub, dDiv, dMod, dLt, dLe, dGt, dGe, dNeg, dIpAdd, dLen, dIntOf, dAbs, dMax2, dTuple, dList, dIsN, elems, dFmt, dStrI, List.getElem?_cons_zero, List.getElem?_cons_succ, List.set_cons_zero, List.set_cons_succ, List.length_cons, List.length_nil, List.cons_append, List.nil_append, List.map_cons, List.map_nil, List.replicate_succ, List.replicate_zero, List.take_succ_cons, List.take_zero, if_true, if_false, ite_true, ite_false, Bool.and_true, Bool.true_and, Bool.false_eq_true, reduceIte, Option.map_some, Option.bind_some, Nat.reduceAdd, Nat.reduceSub, Nat.reduceLT, Nat.reduceLeDiff, decide_true, decide_false, Bool.not_true, Bool.not_false, Bool.or_true, Bool.or_false, Bool.false_or, Bool.true_or, eqD_int, eqD_str, dEq, dNe, Option.map_none, atI_0, atI_1, atI_2, mulOk_a, mulOk_b, cap, restE, wipeE, dMul, dAdd, ixN30, ixN31, ixN32, List.range_succ_eq_map, dIx, atI_succ, atI_n, g1, g2, r1, r2, v1, v2]
      congr 2
      rw [decide_eq_decide]
      omega
    rw [mIf_f c0]
    by_cases k : lcs (xs.drop (a + 1)) (ys.drop b) ≥ lcs (xs.drop a) (ys.drop (b + 1))
    · rw [if_pos k]
      rw [decide_eq_true k] at c
      rw [mIf_t c]
      simp [mSeq, mE, mIf, mRet, mAsg, mDrop, mAug, mPar, mPar3, mNext, mBreak, mCont, setD, setCons, setTup, setNil, mOp, mUn, mCb, mArg, mTest, mTru, mAnd, mOr, mNot, mIfE, mChain, mTupD, mLstD, mLstO, mSetO, mPart, mSl, mAndV, mOrV, mNotV, bnd, PD.ret, lft, rd, rdD, asB, asI, mIxO, ixOwn, ownAt, ownSet, mSetAtO, mSetAt, mMeth, mLenO, mTruO, mCall, mCallP, locsP, runF, okEnd, isPin, clean, cleanL, noPin, pin0, mTup, mLst, mCbO, mOpO, asL, asO, mLc, inB, mFor, mForE, mForR, mRaiseE, mRaise, mTold, Own.d, dInt, dInt2, dSub, dDiv, dMod, dLt, dLe, dGt, dGe, dNeg, dIpAdd, dLen, dIntOf, dAbs, dMax2, dTuple, dList, dIsN, elems, dFmt, dStrI, List.getElem?_cons_zero, List.getElem?_cons_succ, List.set_cons_zero, List.set_cons_succ, List.length_cons, List.length_nil, List.cons_append, List.nil_append, List.map_cons, List.map_nil, List.replicate_succ, List.replicate_zero, List.take_succ_cons, List.take_zero, if_true, if_false, ite_true, ite_false, Bool.and_true, Bool.true_and, Bool.false_eq_true, reduceIte, Option.map_some, Option.bind_some, Nat.reduceAdd, Nat.reduceSub, Nat.reduceLT, Nat.reduceLeDiff, decide_true, decide_false, Bool.not_true, Bool.not_false, Bool.or_true, Bool.or_false, Bool.false_or, Bool.true_or, eqD_int, eqD_str, dEq, dNe, Option.map_none, atI_0, atI_1, atI_2, mulOk_a, mulOk_b, cap, restE, wipeE, dMul, dAdd, ixN30, ixN31, ixN32, List.range_succ_eq_map]
    · rw [if_neg k]
      rw [decide_eq_false k] at c
      rw [mIf_f c]
      simp [mSeq, mE, mIf, mRet, mAsg, mDrop, mAug, mPar, mPar3, mNext, mBreak, mCont, setD, setCons, setTup, setNil, mOp, mUn, mCb, mArg, mTest, mTru, mAnd, mOr, mNot, mIfE, mChain, mTupD, mLstD, mLstO, mSetO, mPart, mSl, mAndV, mOrV, mNotV, bnd, PD.ret, lft, rd, rdD, asB, asI, mIxO, ixOwn, ownAt, ownSet, mSetAtO, mSetAt, mMeth, mLenO, mTruO, mCall, mCallP, locsP, runF, okEnd, isPin, clean, cleanL, noPin, pin0, mTup, mLst, mCbO, mOpO, asL, asO, mLc, inB, mFor, mForE, mForR, mRaiseE, mRaise, mTold, Own.d, dInt, dInt2, dSub, dDiv, dMod, dLt, dLe, dGt, dGe, dNeg, dIpAdd, dLen, dIntOf, dAbs, dMax2, dTuple, dList, dIsN, elems, dFmt, dStrI, List.getElem?_cons_zero, List.getElem?_cons_succ, List.set_cons_zero, List.set_cons_succ, List.length_cons, List.length_nil, List.cons_append, List.nil_append, List.map_cons, List.map_nil, List.replicate_succ, List.replicate_zero, List.take_succ_cons, List.take_zero, if_true, if_false, ite_true, ite_false, Bool.and_true, Bool.true_and, Bool.false_eq_true, reduceIte, Option.map_some, Option.bind_some, Nat.reduceAdd, Nat.reduceSub, Nat.reduceLT, Nat.reduceLeDiff, decide_true, decide_false, Bool.not_true, Bool.not_false, Bool.or_true, Bool.or_false, Bool.false_or, Bool.true_or, eqD_int, eqD_str, dEq, dNe, Option.map_none, atI_0, atI_1, atI_2, mulOk_a, mulOk_b, cap, restE, wipeE, dMul, dAdd, ixN30, ixN31, ixN32, List.range_succ_eq_map]
theorem lw_loop (xs ys : List Str) (hx : xs.length ≤ 1000) : ∀ (n a b : Nat) (acc : List D), a ≤ xs.length → b ≤ ys.length → xs.length + ys.length < n + 1 + a + b → acc.length ≤ a →
    ∃ a' b', loopW m__law_pairs_t1 m__law_pairs_b3 (n + 1) (lEnv xs ys acc a b) = some (.nx (lEnv xs ys (acc ++ (gw (xs.drop a) (ys.drop b) a b).map pairD) a' b'))
  | n, a, b, acc, h3, h4, h5, h6 => by
    have ht := lw_t xs ys acc a b
    by_cases c : a < xs.length ∧ b < ys.length
    · rw [decide_eq_true c] at ht
      obtain ⟨ha, hb⟩ := c
      have hbd := lw_b xs ys acc a b ha hb (by omega)
      cases n with
      | zero => omega
      | succ n =>
        rw [loopW_go ht hbd, drop_at ha, drop_at hb, gw_cons, ← drop_at ha, ← drop_at hb]
        by_cases e : xs[a] = ys[b]
        · rw [if_pos e, if_pos e]
          obtain ⟨a', b', h⟩ := lw_loop xs ys hx n (a + 1) (b + 1) (acc ++ [pairD (a, b)]) (by omega) (by omega) (by omega) (by rw [List.length_append, List.length_singleton]; omega)
          exact ⟨a', b', by rw [h]; simp⟩
        · rw [if_neg e, if_neg e]
          by_cases k : lcs (xs.drop (a + 1)) (ys.drop b) ≥ lcs (xs.drop a) (ys.drop (b + 1))
          · rw [if_pos k, if_pos k]
            exact lw_loop xs ys hx n (a + 1) b acc (by omega) (by omega) (by omega) (by omega)
          · rw [if_neg k, if_neg k]
            exact lw_loop xs ys hx n a (b + 1) acc (by omega) (by omega) (by omega) (by omega)
    · rw [decide_eq_false c] at ht
      refine ⟨a, b, ?_⟩
      rw [loopW_no ht]
      have : gw (xs.drop a) (ys.drop b) a b = [] := by
        by_cases z : a < xs.length
        · rw [List.drop_eq_nil_of_le (by omega : ys.length ≤ b), gw_nil]
        · rw [List.drop_eq_nil_of_le (by omega : xs.length ≤ a), gw_nil']
      rw [this]
      simp
theorem lw_par (X Y T a b c' d e f : PD.Loc) : mPar3 8 4 7 (mArg (mLstD (PD.ret [])) (mArg (PD.ret (.int 0)) (mArg (PD.ret (.int 0)) (PD.ret [])))) [X, Y, T, a, b, c', d, e, f] = some (.nx [X, Y, T, a, .dat (.int 0), c', d, .dat (.int 0), .dat (.lst [])]) := rfl
theorem lw_ret (X Y T a b c' d e : PD.Loc) (l : List D) : mRet (rd 8) [X, Y, T, a, b, c', d, e, .dat (.lst l)] = some (.rt (.lst l) [X, Y, T, a, b, c', d, e, .dat (.lst l)]) := rfl
theorem lw_r (xs ys : List Str) (hx : xs.length ≤ 1000) (hy : ys.length ≤ 1000) : ∃ a' b', m__law_pairs_r (envT (linesT xs) (linesT ys) (.dat (tabD xs ys)) .non .non .non .non) = some (.rt (.lst ((gw xs ys 0 0).map pairD)) (lEnv xs ys ((gw xs ys 0 0).map pairD) a' b')) := by
  obtain ⟨a', b', h⟩ := lw_loop xs ys hx 99999 0 0 [] (Nat.zero_le _) (Nat.zero_le _) (by omega) (Nat.le_refl _)
  rw [List.drop_zero, List.drop_zero, List.nil_append] at h
  refine ⟨a', b', ?_⟩
  have e1 : mWhile (fun _ => 100000) m__law_pairs_t1 m__law_pairs_b3 (lEnv xs ys [] 0 0) = some (.nx (lEnv xs ys ((gw xs ys 0 0).map pairD) a' b')) := by
    unfold mWhile
    rw [show (100000 : Nat) = 99999 + 1 from rfl]
    exact h
  unfold m__law_pairs_r envT
  rw [mSeq_nx (lw_par _ _ _ _ _ _ _ _ _)]
  refine (mSeq_nx e1).trans ?_
  exact lw_ret _ _ _ _ _ _ _ _ _
theorem lw_F {ρ : PD.Env} {r : Res D} (h : F__law_pairs ρ = some r) : runF noPin 9 2 m__law_pairs ρ = some r := by
  unfold F__law_pairs at h
  split at h
  · split at h
    · rename_i as bs xs ys h1 h2
      split at h
      · rename_i hl
        cases h
        obtain ⟨a', b', e⟩ := lw_r xs ys hl.1 hl.2
        rw [asStrs_eq h1, asStrs_eq h2]
        have h1' : asStrs (xs.map D.str) = some xs := by rw [← asStrs_eq h1]; exact h1
        have h2' : asStrs (ys.map D.str) = some ys := by rw [← asStrs_eq h2]; exact h2
        have hp : lpPre [.dat (linesT xs), .dat (linesT ys), .non, .non, .non, .non, .non, .non, .non] = some (envT (linesT xs) (linesT ys) (.dat (tabD xs ys)) .non .non .non .non) := by
          unfold lpPre linesT
          simp only [h1', h2']
          rw [if_pos hl]
        have body : m__law_pairs [.dat (linesT xs), .dat (linesT ys), .non, .non, .non, .non, .non, .non, .non] = some (.rt (.lst ((gw xs ys 0 0).map pairD)) (lEnv xs ys ((gw xs ys 0 0).map pairD) a' b')) := by
          unfold m__law_pairs
          simp only [hp]
          exact e
        exact runF_rt (n := 2) (N := 9) (ρ0 := [.dat (linesT xs), .dat (linesT ys), .non, .non, .non, .non, .non, .non, .non]) rfl body rfl
      · cases h
    · cases h
  · cases h

theorem ok__law_pairs0 {f : Addr} {fd : FuncData} (F : Fun K "_law_pairs" "_law_pairs" s__law_pairs f fd) (gF : mg "_law_pairs" = some (.ref f)) (bF : Binds K fd ["one", "other"] []) (z_len : mg "len" = none) (z_range : mg "range" = none) (z_list : mg "list" = none) (z_max : mg "max" = none) :
    Cal P w K mg base tb ca "_law_pairs" 2 ["one", "other"] noPin (runF noPin 9 2 m__law_pairs) f fd := by
  refine ⟨fn_pd (N := N__law_pairs) (k := 1) F sc__law_pairs fun cdv A outer s H E hr => ?_, gF, F.kp, bF⟩
  have nd : (N__law_pairs).Nodup := sc__law_pairs.nd
  have tk : Takes (cxOf (L2.CX P w) P w K mg base N__law_pairs "_law_pairs" (defScope s__law_pairs) f cdv A outer s H E) (wOf ca (ccOf K tb ca noPin E).xw) := takesB (L2.takes_of rfl rfl rfl rfl)
  skip
  exact ⟨_, (pss_cons (ps_setLc (i := 2) (own := [("k", 3)]) rfl nd rfl rfl (sw_true rfl rfl rfl (by decide +kernel)) (pi_range1 rfl z_range (pa_cons (pe_op op_addAll (pe_callB call_len (by rfl) z_len PySem.boot_len (pa_cons (pv 0) pa_nil)) pe_int) pa_nil)) (blkOk_by (N := N__law_pairs) (sc := defScope s__law_pairs) (by decide +kernel)) (fun _ _ _ _ _ => (pg_name (i := 3) nd rfl (by first | exact Or.inl rfl | exact Or.inr rfl))) (fun _ _ _ _ _ => pts_nil) (fun _ _ _ _ _ => (pe_op op_mulAll (pe_lst (pa_cons pe_int pa_nil)) (pe_op op_addAll (pe_callB call_len (by rfl) z_len PySem.boot_len (pa_cons (pv 1) pa_nil)) pe_int))))
    (pss_cons (ps_for PassesOwn.leaving rfl (pi_seq (pe_revL (pe_listRg rfl (by rfl) z_list (prg_1 (by rfl) z_range (pe_callB call_len (by rfl) z_len PySem.boot_len (pa_cons (pv 0) pa_nil)))))) (pg_name (i := 4) nd rfl (by first | exact Or.inl rfl | exact Or.inr rfl))
    (pss_cons (ps_par (i := 5) (j := 6) rfl nd rfl rfl (by decide) rfl rfl (pa_cons (pe_ix ix_seq (pv 2) (pv 4) (fun _ _ => rfl)) (pa_cons (pe_ix ix_seq (pv 2) (pe_op op_addAll (pv 4) pe_int) (fun _ _ => rfl)) pa_nil)) (by rfl))
    (pss_one (ps_for PassesOwn.leaving rfl (pi_seq (pe_revL (pe_listRg rfl (by rfl) z_list (prg_1 (by rfl) z_range (pe_callB call_len (by rfl) z_len PySem.boot_len (pa_cons (pv 1) pa_nil)))))) (pg_name (i := 7) nd rfl (by first | exact Or.inl rfl | exact Or.inr rfl))
    (pss_one (ps_asg (pe_ifExp (pt_cmpR (op_eqP hr.units) (pe_ix ix_seq (pv 0) (pv 4) (fun _ _ => rfl)) (pe_ix ix_seq (pv 1) (pv 7) (fun _ _ => rfl)) (nomark _)) (pe_op op_addAll (pe_ix ix_seq (pv 6) (pe_op op_addAll (pv 7) pe_int) (fun _ _ => rfl)) pe_int) (pe_callB (call_max2 rfl) (by rfl) z_max (by decide +kernel) (pa_cons (pe_ix ix_seq (pv 6) (pv 7) (fun _ _ => rfl)) (pa_cons (pe_ix ix_seq (pv 5) (pe_op op_addAll (pv 7) pe_int) (fun _ _ => rfl)) pa_nil)))) (pg_sub (pv 5) (pv 7) set_list)))))))
    (pss_cons (ps_par3 (i := 8) (j := 4) (l := 7) rfl nd rfl rfl rfl (by decide) (by decide) (by decide) rfl rfl rfl (pa_cons (pe_lst pa_nil) (pa_cons pe_int (pa_cons pe_int pa_nil))) (by rfl))
    (pss_cons (ps_while PassesOwn.leaving (PW.pt (pw_and (pt_cmpR op_lt (pv 4) (pe_callB call_len (by rfl) z_len PySem.boot_len (pa_cons (pv 0) pa_nil)) (nomark _)) (pw_and1 (pt_cmpR op_lt (pv 7) (pe_callB call_len (by rfl) z_len PySem.boot_len (pa_cons (pv 1) pa_nil)) (nomark _)))))
    (pss_one (ps_if (pt_cmpR (op_eqP hr.units) (pe_ix ix_seq (pv 0) (pv 4) (fun _ _ => rfl)) (pe_ix ix_seq (pv 1) (pv 7) (fun _ _ => rfl)) (nomark _))
    (pss_one (ps_par3 (i := 8) (j := 4) (l := 7) rfl nd rfl rfl rfl (by decide) (by decide) (by decide) rfl rfl rfl (pa_cons (pe_op op_addAll (pv 8) (pe_lst (pa_cons (pe_tup (pa_cons (pv 4) (pa_cons (pv 7) pa_nil))) pa_nil))) (pa_cons (pe_op op_addAll (pv 4) pe_int) (pa_cons (pe_op op_addAll (pv 7) pe_int) pa_nil))) (by rfl)))
    (pss_one (ps_if (pt_cmpR op_ge (pe_ix ix_seq (pe_ix ix_seq (pv 2) (pe_op op_addAll (pv 4) pe_int) (fun _ _ => rfl)) (pv 7) (fun _ _ => rfl)) (pe_ix ix_seq (pe_ix ix_seq (pv 2) (pv 4) (fun _ _ => rfl)) (pe_op op_addAll (pv 7) pe_int) (fun _ _ => rfl)) (nomark _))
    (pss_one (ps_set (i := 4) nd rfl (by first | exact Or.inl rfl | exact Or.inr rfl) (pe_op op_addAll (pv 4) pe_int)))
    (pss_one (ps_set (i := 7) nd rfl (by first | exact Or.inl rfl | exact Or.inr rfl) (pe_op op_addAll (pv 7) pe_int))))))))
    (pss_one (ps_ret (pv 8))))))),
    ss_tab (fun _ => rfl) (sa_cons (se_op rop_add (se_cb rca_len (sa_cons (se_var (i := 0) rfl) sa_nil)) (se_c fun _ => .int _)) sa_nil) (sf_op own_rep (se_lst (sa_cons (se_c fun _ => .int _) sa_nil)) (se_op rop_add (se_cb rca_len (sa_cons (se_var (i := 1) rfl) sa_nil)) (se_c fun _ => .int _))) (se_cb rca_len (sa_cons (se_var (i := 0) rfl) sa_nil)) (se_cb rca_len (sa_cons (se_var (i := 1) rfl) sa_nil)) (se_if (st_test (se_op rop_eq (se_op rop_ix (se_var (i := 0) rfl) (se_var (i := 4) rfl)) (se_op rop_ix (se_var (i := 1) rfl) (se_var (i := 7) rfl)))) (se_op rop_add (se_op rop_ix (se_var (i := 6) rfl) (se_op rop_add (se_var (i := 7) rfl) (se_c fun _ => .int _))) (se_c fun _ => .int _)) (se_cb rca_max2 (sa_cons (se_op rop_ix (se_var (i := 6) rfl) (se_var (i := 7) rfl)) (sa_cons (se_ixO (i := 5) (se_op rop_add (se_var (i := 7) rfl) (se_c fun _ => .int _))) sa_nil)))) (ss_seq (ss_par3 (i := 8) (j := 4) (l := 7) rfl rfl rfl (sa_cons (se_lst sa_nil) (sa_cons (se_c fun _ => .int _) (sa_cons (se_c fun _ => .int _) sa_nil))))
    (ss_seq (ss_while (fuel := fun _ => 100000) (st_and (st_test (se_op rop_lt (se_var (i := 4) rfl) (se_cb rca_len (sa_cons (se_var (i := 0) rfl) sa_nil)))) (st_test (se_op rop_lt (se_var (i := 7) rfl) (se_cb rca_len (sa_cons (se_var (i := 1) rfl) sa_nil)))))
    (ss_if (st_test (se_op rop_eq (se_op rop_ix (se_var (i := 0) rfl) (se_var (i := 4) rfl)) (se_op rop_ix (se_var (i := 1) rfl) (se_var (i := 7) rfl))))
    (ss_par3 (i := 8) (j := 4) (l := 7) rfl rfl rfl (sa_cons (se_op rop_add (se_var (i := 8) rfl) (se_lst (sa_cons (se_tup (sa_cons (se_var (i := 4) rfl) (sa_cons (se_var (i := 7) rfl) sa_nil))) sa_nil))) (sa_cons (se_op rop_add (se_var (i := 4) rfl) (se_c fun _ => .int _)) (sa_cons (se_op rop_add (se_var (i := 7) rfl) (se_c fun _ => .int _)) sa_nil))))
    (ss_if (st_test (se_op rop_ge (se_op rop_ix (se_op rop_ix (se_var (i := 2) rfl) (se_op rop_add (se_var (i := 4) rfl) (se_c fun _ => .int _))) (se_var (i := 7) rfl)) (se_op rop_ix (se_op rop_ix (se_var (i := 2) rfl) (se_var (i := 4) rfl)) (se_op rop_add (se_var (i := 7) rfl) (se_c fun _ => .int _)))))
    (ss_asg (se_op rop_add (se_var (i := 4) rfl) (se_c fun _ => .int _)) (sg_name (i := 4) rfl))
    (ss_asg (se_op rop_add (se_var (i := 7) rfl) (se_c fun _ => .int _)) (sg_name (i := 7) rfl)))))
    (ss_ret (se_var (i := 8) rfl))))⟩
theorem ok__law_pairs {f : Addr} {fd : FuncData} (F : Fun K "_law_pairs" "_law_pairs" s__law_pairs f fd) (gF : mg "_law_pairs" = some (.ref f)) (bF : Binds K fd ["one", "other"] []) (z_len : mg "len" = none) (z_range : mg "range" = none) (z_list : mg "list" = none) (z_max : mg "max" = none) :
    Cal P w K mg base tb ca "_law_pairs" 2 ["one", "other"] noPin F__law_pairs f fd := by
  have C := ok__law_pairs0 (P := P) (w := w) (base := base) (tb := tb) (ca := ca) F gF bF z_len z_range z_list z_max
  refine ⟨C.ok.imp fun vs H Q E h => ?_, C.g, C.kp, C.b⟩
  obtain ⟨ρ, s, r, h1, h2, h3, h4, h5, h6⟩ := h
  exact ⟨ρ, s, r, h1, h2, h3, h4, lw_F h5, h6⟩
end
end K02
end
section
set_option maxHeartbeats 0
namespace K02
open PySem PySem.Spec PyProof.Rows L2 PD
theorem facts {w : World} {K : PySem.W.Frag} {mg : Str → Option Value} {h : Heap} (KX : K.In h) (G : h.Ns mainGlobals mg) (c : He.SaysX fa fn ts tf ex w h K) (good : ∀ ns, GoodL N_law.length 1 m_law_call m_law_body m_law_ret ns) :
    LamX.LawAtS PySem.Challenge.rw_landstack_k02_patches_between_texts w K (L2.CX (PySem.Challenge.rw_landstack_k02_patches_between_texts).prog w) 5 63 "script" mg (He.ga K "law") h := by
  have cd := c.t.d
  have hex := c.more
  obtain ⟨fd_common_rows, E_common_rows⟩ := cd.def_ 0 (d := d_common_rows) rfl
  have U_common_rows : Fun K "common_rows" "common_rows" (top 9) (He.fAd K ("common_rows", none)) fd_common_rows := fun_of_D E_common_rows
  have g_common_rows : mg "common_rows" = some (.ref (He.fAd K ("common_rows", none))) := He.glo_ok KX G (cd.fact 0 (f := .glo "common_rows") rfl)
  have b_common_rows : L2.Binds K fd_common_rows ["one", "other"] [] := U_common_rows.binds fun _ _ _ _ _ _ us hl => match us, hl with | [_, _], _ => rfl
  obtain ⟨fd_same_start, E_same_start⟩ := cd.def_ 1 (d := d_same_start) rfl
  have U_same_start : Fun K "same_start" "same_start" (top 10) (He.fAd K ("same_start", none)) fd_same_start := fun_of_D E_same_start
  have g_same_start : mg "same_start" = some (.ref (He.fAd K ("same_start", none))) := He.glo_ok KX G (cd.fact 1 (f := .glo "same_start") rfl)
  have b_same_start : L2.Binds K fd_same_start ["one", "other"] [] := U_same_start.binds fun _ _ _ _ _ _ us hl => match us, hl with | [_, _], _ => rfl
  obtain ⟨fd_matches, E_matches⟩ := cd.def_ 2 (d := d_matches) rfl
  have U_matches : Fun K "matches" "matches" (top 11) (He.fAd K ("matches", none)) fd_matches := fun_of_D E_matches
  have g_matches : mg "matches" = some (.ref (He.fAd K ("matches", none))) := He.glo_ok KX G (cd.fact 2 (f := .glo "matches") rfl)
  have b_matches : L2.Binds K fd_matches ["one", "other"] [] := U_matches.binds fun _ _ _ _ _ _ us hl => match us, hl with | [_, _], _ => rfl
  obtain ⟨fd_patch_between, E_patch_between⟩ := cd.def_ 3 (d := d_patch_between) rfl
  have U_patch_between : Fun K "patch_between" "patch_between" (top 12) (He.fAd K ("patch_between", none)) fd_patch_between := fun_of_D E_patch_between
  have g_patch_between : mg "patch_between" = some (.ref (He.fAd K ("patch_between", none))) := He.glo_ok KX G (cd.fact 3 (f := .glo "patch_between") rfl)
  have b_patch_between : L2.Binds K fd_patch_between ["one", "other"] [] := U_patch_between.binds fun _ _ _ _ _ _ us hl => match us, hl with | [_, _], _ => rfl
  obtain ⟨fd_apply_patch, E_apply_patch⟩ := cd.def_ 4 (d := d_apply_patch) rfl
  have U_apply_patch : Fun K "apply_patch" "apply_patch" (top 13) (He.fAd K ("apply_patch", none)) fd_apply_patch := fun_of_D E_apply_patch
  have g_apply_patch : mg "apply_patch" = some (.ref (He.fAd K ("apply_patch", none))) := He.glo_ok KX G (cd.fact 4 (f := .glo "apply_patch") rfl)
  have b_apply_patch : L2.Binds K fd_apply_patch ["lines", "patch"] [] := U_apply_patch.binds fun _ _ _ _ _ _ us hl => match us, hl with | [_, _], _ => rfl
  obtain ⟨fd_turned, E_turned⟩ := cd.def_ 5 (d := d_turned) rfl
  have U_turned : Fun K "turned" "turned" (top 14) (He.fAd K ("turned", none)) fd_turned := fun_of_D E_turned
  have g_turned : mg "turned" = some (.ref (He.fAd K ("turned", none))) := He.glo_ok KX G (cd.fact 5 (f := .glo "turned") rfl)
  have b_turned : L2.Binds K fd_turned ["patch"] [] := U_turned.binds fun _ _ _ _ _ _ us hl => match us, hl with | [_], _ => rfl
  obtain ⟨fd_patch_text, E_patch_text⟩ := cd.def_ 6 (d := d_patch_text) rfl
  have U_patch_text : Fun K "patch_text" "patch_text" (top 15) (He.fAd K ("patch_text", none)) fd_patch_text := fun_of_D E_patch_text
  have g_patch_text : mg "patch_text" = some (.ref (He.fAd K ("patch_text", none))) := He.glo_ok KX G (cd.fact 6 (f := .glo "patch_text") rfl)
  have b_patch_text : L2.Binds K fd_patch_text ["patch"] [] := U_patch_text.binds fun _ _ _ _ _ _ us hl => match us, hl with | [_], _ => rfl
  obtain ⟨fd_number_kept, E_number_kept⟩ := cd.def_ 7 (d := d_number_kept) rfl
  have U_number_kept : Fun K "number_kept" "number_kept" (top 16) (He.fAd K ("number_kept", none)) fd_number_kept := fun_of_D E_number_kept
  have g_number_kept : mg "number_kept" = some (.ref (He.fAd K ("number_kept", none))) := He.glo_ok KX G (cd.fact 7 (f := .glo "number_kept") rfl)
  have b_number_kept : L2.Binds K fd_number_kept ["text"] [] := U_number_kept.binds fun _ _ _ _ _ _ us hl => match us, hl with | [_], _ => rfl
  obtain ⟨fd_read_patch, E_read_patch⟩ := cd.def_ 8 (d := d_read_patch) rfl
  have U_read_patch : Fun K "read_patch" "read_patch" (top 17) (He.fAd K ("read_patch", none)) fd_read_patch := fun_of_D E_read_patch
  have g_read_patch : mg "read_patch" = some (.ref (He.fAd K ("read_patch", none))) := He.glo_ok KX G (cd.fact 8 (f := .glo "read_patch") rfl)
  have b_read_patch : L2.Binds K fd_read_patch ["lines"] [] := U_read_patch.binds fun _ _ _ _ _ _ us hl => match us, hl with | [_], _ => rfl
  obtain ⟨fd_counts, E_counts⟩ := cd.def_ 9 (d := d_counts) rfl
  have U_counts : Fun K "counts" "counts" (top 18) (He.fAd K ("counts", none)) fd_counts := fun_of_D E_counts
  have g_counts : mg "counts" = some (.ref (He.fAd K ("counts", none))) := He.glo_ok KX G (cd.fact 9 (f := .glo "counts") rfl)
  have b_counts : L2.Binds K fd_counts ["patch"] [] := U_counts.binds fun _ _ _ _ _ _ us hl => match us, hl with | [_], _ => rfl
  obtain ⟨fd__law_dice, E__law_dice⟩ := cd.def_ 10 (d := d__law_dice) rfl
  have U__law_dice : Fun K "_law_dice" "_law_dice" (top 20) (He.fAd K ("_law_dice", none)) fd__law_dice := fun_of_D E__law_dice
  have g__law_dice : mg "_law_dice" = some (.ref (He.fAd K ("_law_dice", none))) := He.glo_ok KX G (cd.fact 10 (f := .glo "_law_dice") rfl)
  have b__law_dice : L2.Binds K fd__law_dice ["cell"] [] := U__law_dice.binds fun _ _ _ _ _ _ us hl => match us, hl with | [_], _ => rfl
  obtain ⟨fd__law_roll, E__law_roll⟩ := cd.def_ 11 (d := d__law_roll) rfl
  have U__law_roll : Fun K "_law_roll" "_law_roll" (top 21) (He.fAd K ("_law_roll", none)) fd__law_roll := fun_of_D E__law_roll
  have g__law_roll : mg "_law_roll" = some (.ref (He.fAd K ("_law_roll", none))) := He.glo_ok KX G (cd.fact 11 (f := .glo "_law_roll") rfl)
  have b__law_roll : L2.Binds K fd__law_roll ["dice", "many"] [] := U__law_roll.binds fun _ _ _ _ _ _ us hl => match us, hl with | [_, _], _ => rfl
  obtain ⟨fd__law_rounds, E__law_rounds⟩ := cd.def_ 12 (d := d__law_rounds) rfl
  have U__law_rounds : Fun K "_law_rounds" "_law_rounds" (top 22) (He.fAd K ("_law_rounds", none)) fd__law_rounds := fun_of_D E__law_rounds
  have g__law_rounds : mg "_law_rounds" = some (.ref (He.fAd K ("_law_rounds", none))) := He.glo_ok KX G (cd.fact 12 (f := .glo "_law_rounds") rfl)
  have b__law_rounds : L2.Binds K fd__law_rounds ["script", "most"] [] := U__law_rounds.binds fun _ _ _ _ _ _ us hl => match us, hl with | [_, _], _ => rfl
  obtain ⟨fd__law_told, E__law_told⟩ := cd.def_ 13 (d := d__law_told) rfl
  have U__law_told : Fun K "_law_told" "_law_told" (top 23) (He.fAd K ("_law_told", none)) fd__law_told := fun_of_D E__law_told
  have g__law_told : mg "_law_told" = some (.ref (He.fAd K ("_law_told", none))) := He.glo_ok KX G (cd.fact 13 (f := .glo "_law_told") rfl)
  have b__law_told : L2.Binds K fd__law_told ["what"] [] := U__law_told.binds fun _ _ _ _ _ _ us hl => match us, hl with | [_], _ => rfl
  obtain ⟨fd__law_pairs, E__law_pairs⟩ := cd.def_ 14 (d := d__law_pairs) rfl
  have U__law_pairs : Fun K "_law_pairs" "_law_pairs" (top 24) (He.fAd K ("_law_pairs", none)) fd__law_pairs := fun_of_D E__law_pairs
  have g__law_pairs : mg "_law_pairs" = some (.ref (He.fAd K ("_law_pairs", none))) := He.glo_ok KX G (cd.fact 14 (f := .glo "_law_pairs") rfl)
  have b__law_pairs : L2.Binds K fd__law_pairs ["one", "other"] [] := U__law_pairs.binds fun _ _ _ _ _ _ us hl => match us, hl with | [_, _], _ => rfl
  obtain ⟨fd__law_text, E__law_text⟩ := cd.def_ 15 (d := d__law_text) rfl
  have U__law_text : Fun K "_law_text" "_law_text" (top 25) (He.fAd K ("_law_text", none)) fd__law_text := fun_of_D E__law_text
  have g__law_text : mg "_law_text" = some (.ref (He.fAd K ("_law_text", none))) := He.glo_ok KX G (cd.fact 15 (f := .glo "_law_text") rfl)
  have b__law_text : L2.Binds K fd__law_text ["dice"] [] := U__law_text.binds fun _ _ _ _ _ _ us hl => match us, hl with | [_], _ => rfl
  obtain ⟨fd__law_fitted, E__law_fitted⟩ := cd.def_ 16 (d := d__law_fitted) rfl
  have U__law_fitted : Fun K "_law_fitted" "_law_fitted" (top 26) (He.fAd K ("_law_fitted", none)) fd__law_fitted := fun_of_D E__law_fitted
  have g__law_fitted : mg "_law_fitted" = some (.ref (He.fAd K ("_law_fitted", none))) := He.glo_ok KX G (cd.fact 16 (f := .glo "_law_fitted") rfl)
  have b__law_fitted : L2.Binds K fd__law_fitted ["lines", "patch"] [] := U__law_fitted.binds fun _ _ _ _ _ _ us hl => match us, hl with | [_, _], _ => rfl
  obtain ⟨fd__law_rows, E__law_rows⟩ := cd.def_ 17 (d := d__law_rows) rfl
  have U__law_rows : Fun K "_law_rows" "_law_rows" (top 27) (He.fAd K ("_law_rows", none)) fd__law_rows := fun_of_D E__law_rows
  have g__law_rows : mg "_law_rows" = some (.ref (He.fAd K ("_law_rows", none))) := He.glo_ok KX G (cd.fact 17 (f := .glo "_law_rows") rfl)
  have b__law_rows : L2.Binds K fd__law_rows ["word", "value"] [] := U__law_rows.binds fun _ _ _ _ _ _ us hl => match us, hl with | [_, _], _ => rfl
  obtain ⟨fd__law_all, E__law_all⟩ := cd.def_ 18 (d := d__law_all) rfl
  have U__law_all : Fun K "_law_all" "_law_all" (top 28) (He.fAd K ("_law_all", none)) fd__law_all := fun_of_D E__law_all
  have g__law_all : mg "_law_all" = some (.ref (He.fAd K ("_law_all", none))) := He.glo_ok KX G (cd.fact 18 (f := .glo "_law_all") rfl)
  have b__law_all : L2.Binds K fd__law_all ["patch"] [] := U__law_all.binds fun _ _ _ _ _ _ us hl => match us, hl with | [_], _ => rfl
  obtain ⟨fd_law, E_law⟩ := cd.def_ 19 (d := d_law) rfl
  have U_law : Fun K "law" "law" (top 29) (He.fAd K ("law", none)) fd_law := fun_of_D E_law
  have g_law : mg "law" = some (.ref (He.fAd K ("law", none))) := He.glo_ok KX G (cd.fact 19 (f := .glo "law") rfl)
  have b_law : L2.Binds K fd_law ["script"] [] := U_law.binds fun _ _ _ _ _ _ us hl => match us, hl with | [_], _ => rfl
  have z_abs : mg "abs" = none := He.free_ok KX G (cd.fact 20 (f := .free "abs") rfl)
  have z_any : mg "any" = none := He.free_ok KX G (cd.fact 21 (f := .free "any") rfl)
  have z_int : mg "int" = none := He.free_ok KX G (cd.fact 22 (f := .free "int") rfl)
  have z_len : mg "len" = none := He.free_ok KX G (cd.fact 23 (f := .free "len") rfl)
  have z_list : mg "list" = none := He.free_ok KX G (cd.fact 24 (f := .free "list") rfl)
  have z_max : mg "max" = none := He.free_ok KX G (cd.fact 25 (f := .free "max") rfl)
  have z_range : mg "range" = none := He.free_ok KX G (cd.fact 26 (f := .free "range") rfl)
  have z_reversed : mg "reversed" = none := He.free_ok KX G (cd.fact 27 (f := .free "reversed") rfl)
  have z_str : mg "str" = none := He.free_ok KX G (cd.fact 28 (f := .free "str") rfl)
  have z_sum : mg "sum" = none := He.free_ok KX G (cd.fact 29 (f := .free "sum") rfl)
  have z_tuple : mg "tuple" = none := He.free_ok KX G (cd.fact 30 (f := .free "tuple") rfl)
  have z_zip : mg "zip" = none := He.free_ok KX G (cd.fact 31 (f := .free "zip") rfl)
  obtain ⟨t_DIGITS, h_DIGITS⟩ := He.str_ok KX G (cd.fact 32 (f := .str "DIGITS" "0123456789") rfl)
  obtain ⟨t_MOST_DIGITS, h_MOST_DIGITS⟩ := He.int_ok KX G (cd.fact 33 (f := .int "MOST_DIGITS" 6) rfl)
  have X_PatchError : ExcC K mg (He.ga K) "PatchError" := excc_of (He.glo_ok KX G (cd.fact 37 (f := .glo "PatchError") rfl)) (cd.fact 38 (f := .exc "PatchError") rfl) (cd.fact 39 (f := .exm "PatchError" "PatchError" true) rfl)
  simp only [ex, Bool.and_eq_true, Bool.not_eq_true', beq_eq_false_iff_ne, ne_eq] at hex
  obtain ⟨⟨⟨v_SIGNS_OF_WORDS, v_WORDS_OF_SIGNS⟩, v_WORDS_BACK⟩, ne_0_1⟩ := hex
  have W_SIGNS_OF_WORDS : WDic K w mg "SIGNS_OF_WORDS" (He.ga K "SIGNS_OF_WORDS") kv_SIGNS_OF_WORDS := wdic_of (He.glo_ok KX G (cd.fact 34 (f := .glo "SIGNS_OF_WORDS") rfl)) (says_dic c.t 0 rfl) v_SIGNS_OF_WORDS
  have W_WORDS_OF_SIGNS : WDic K w mg "WORDS_OF_SIGNS" (He.ga K "WORDS_OF_SIGNS") kv_WORDS_OF_SIGNS := wdic_of (He.glo_ok KX G (cd.fact 35 (f := .glo "WORDS_OF_SIGNS") rfl)) (says_dic c.t 1 rfl) v_WORDS_OF_SIGNS
  have W_WORDS_BACK : WDic K w mg "WORDS_BACK" (He.ga K "WORDS_BACK") kv_WORDS_BACK := wdic_of (He.glo_ok KX G (cd.fact 36 (f := .glo "WORDS_BACK") rfl)) (says_dic c.t 2 rfl) v_WORDS_BACK
  let tb : TBs := ⟨[((He.cT K ("law", none)).2, lamQ "law")], [(He.cT K ("number_kept", none)).2]⟩
  refine ⟨fd_law, tf.map (He.cT K), spLawP K tb (GoodL N_law.length 1 m_law_call m_law_body m_law_ret), fun p hp => ?_, fun p hp => ?_, fun p hp => ?_, ?_, fun H a ns _ _ hH hS => ⟨a, ns, rfl, hS, ?_, good ns, fun _ => rfl⟩, fun base hK hG TB => ?_⟩
  · obtain ⟨q, hq, rfl⟩ := List.mem_map.mp hp; exact c.empty q hq
  · obtain ⟨q, hq, rfl⟩ := List.mem_map.mp hp; exact c.out q hq
  · obtain ⟨q, hq, rfl⟩ := List.mem_map.mp hp; exact PySem.W.codeHd_of_K KX (c.hd q hq)
  · have b := FunD.bindsA (ps := ["script"]) E_law fun _ _ _ _ _ _ us hl => match us, hl with | [_], _ => rfl
    exact fun s u => b s [u] rfl
  · refine ⟨fun p hp => ?_, fun q hq => ?_⟩
    · have key : p.1 ∈ tf.map fun t => (He.cT K t).2 := by
        simp only [tb, List.mem_cons, List.not_mem_nil, or_false] at hp
        rcases hp with rfl <;> simp [tf]
      obtain ⟨t, ht, e⟩ := List.mem_map.mp key
      exact ⟨#[], by rw [← e]; exact hH _ (List.mem_map.mpr ⟨t, ht, rfl⟩), trivial, fun _ _ z => nomatch z⟩
    · have key : q ∈ tf.map fun t => (He.cT K t).2 := by
        simp only [tb, List.mem_cons, List.not_mem_nil, or_false] at hq
        rcases hq with rfl <;> simp [tf]
      obtain ⟨t, ht, e⟩ := List.mem_map.mp key
      exact ⟨#[], by rw [← e]; exact hH _ (List.mem_map.mpr ⟨t, ht, rfl⟩), trivial⟩
  have T_number_kept := TB (He.cT K ("number_kept", none)) (by simp [tf])
  have T_law := TB (He.cT K ("law", none)) (by simp [tf])
  have C_common_rows : Cal (PySem.Challenge.rw_landstack_k02_patches_between_texts).prog w K mg base tb (He.ga K) _ _ _ _ _ _ _ := ok_common_rows U_common_rows g_common_rows b_common_rows z_len z_max z_range z_reversed
  have C_same_start : Cal (PySem.Challenge.rw_landstack_k02_patches_between_texts).prog w K mg base tb (He.ga K) _ _ _ _ _ _ _ := ok_same_start U_same_start g_same_start b_same_start z_len
  have C_matches : Cal (PySem.Challenge.rw_landstack_k02_patches_between_texts).prog w K mg base tb (He.ga K) _ _ _ _ _ _ _ := ok_matches U_matches g_matches b_matches z_len z_range z_tuple C_same_start C_common_rows
  have C_patch_between : Cal (PySem.Challenge.rw_landstack_k02_patches_between_texts).prog w K mg base tb (He.ga K) _ _ _ _ _ _ _ := ok_patch_between U_patch_between g_patch_between b_patch_between z_len z_tuple C_matches
  have C_apply_patch : Cal (PySem.Challenge.rw_landstack_k02_patches_between_texts).prog w K mg base tb (He.ga K) _ _ _ _ _ _ _ := ok_apply_patch U_apply_patch g_apply_patch b_apply_patch z_len z_tuple X_PatchError
  have C_turned : Cal (PySem.Challenge.rw_landstack_k02_patches_between_texts).prog w K mg base tb (He.ga K) _ _ _ _ _ _ _ := ok_turned U_turned g_turned b_turned z_len z_tuple W_WORDS_BACK
  have C_patch_text : Cal (PySem.Challenge.rw_landstack_k02_patches_between_texts).prog w K mg base tb (He.ga K) _ _ _ _ _ _ _ := ok_patch_text U_patch_text g_patch_text b_patch_text z_tuple W_SIGNS_OF_WORDS
  have C_number_kept : Cal (PySem.Challenge.rw_landstack_k02_patches_between_texts).prog w K mg base tb (He.ga K) _ _ _ _ _ _ _ := ok_number_kept U_number_kept g_number_kept b_number_kept z_any z_int z_len h_DIGITS h_MOST_DIGITS X_PatchError (code_of U_number_kept) (tabG_of T_number_kept) (by simp [tb]) (by simp [tb]; first | exact ne_0_1 | exact fun z => ne_0_1 z.symm)
  have C_read_patch : Cal (PySem.Challenge.rw_landstack_k02_patches_between_texts).prog w K mg base tb (He.ga K) _ _ _ _ _ _ _ := ok_read_patch U_read_patch g_read_patch b_read_patch z_tuple z_zip W_WORDS_OF_SIGNS X_PatchError C_number_kept
  have C_counts : Cal (PySem.Challenge.rw_landstack_k02_patches_between_texts).prog w K mg base tb (He.ga K) _ _ _ _ _ _ _ := ok_counts U_counts g_counts b_counts z_len z_sum
  have C__law_dice : Cal (PySem.Challenge.rw_landstack_k02_patches_between_texts).prog w K mg base tb (He.ga K) _ _ _ _ _ _ _ := ok__law_dice U__law_dice g__law_dice b__law_dice z_abs z_int
  have C__law_roll : Cal (PySem.Challenge.rw_landstack_k02_patches_between_texts).prog w K mg base tb (He.ga K) _ _ _ _ _ _ _ := ok__law_roll U__law_roll g__law_roll b__law_roll z_int
  have C__law_rounds : Cal (PySem.Challenge.rw_landstack_k02_patches_between_texts).prog w K mg base tb (He.ga K) _ _ _ _ _ _ _ := ok__law_rounds U__law_rounds g__law_rounds b__law_rounds C__law_dice
  have C__law_pairs : Cal (PySem.Challenge.rw_landstack_k02_patches_between_texts).prog w K mg base tb (He.ga K) _ _ _ _ _ _ _ := ok__law_pairs (ca := He.ga K) U__law_pairs g__law_pairs b__law_pairs z_len z_range z_list z_max
  have C__law_text : Cal (PySem.Challenge.rw_landstack_k02_patches_between_texts).prog w K mg base tb (He.ga K) _ _ _ _ _ _ _ := ok__law_text U__law_text g__law_text b__law_text z_int z_range z_tuple C__law_roll
  have C__law_fitted : Cal (PySem.Challenge.rw_landstack_k02_patches_between_texts).prog w K mg base tb (He.ga K) _ _ _ _ _ _ _ := ok__law_fitted U__law_fitted g__law_fitted b__law_fitted z_len
  have C__law_rows : Cal (PySem.Challenge.rw_landstack_k02_patches_between_texts).prog w K mg base tb (He.ga K) _ _ _ _ _ _ _ := ok__law_rows U__law_rows g__law_rows b__law_rows z_str
  have C__law_all : Cal (PySem.Challenge.rw_landstack_k02_patches_between_texts).prog w K mg base tb (He.ga K) _ _ _ _ _ _ _ := ok__law_all U__law_all g__law_all b__law_all z_tuple C__law_rows
  exact ok_law (ca := He.ga K) U_law z_len z_list z_sum z_zip X_PatchError C__law_rounds C__law_text C__law_pairs C_matches C_common_rows C_patch_between C_apply_patch C_turned C_counts C__law_fitted C_patch_text C_read_patch C__law_all C__law_roll (code_of U_law) T_law (by simp [tb]) (by simp [tb]) (by simp [tb]; first | exact ne_0_1 | exact fun z => ne_0_1 z.symm) U__law_told g__law_told b__law_told
end K02
open PySem PySem.W PySem.Calls PyProof.Rows
theorem K02.of_good (good : ∀ ns, PD.GoodL K02.N_law.length 1 K02.m_law_call K02.m_law_body K02.m_law_ret ns) : PySem.Challenge.rw_landstack_k02_patches_between_texts.Holds := by
  w_on; o_law
  refine HandSHeadRun.head_any (r := OpenLaw.row PySem.Challenge.rw_landstack_k02_patches_between_texts) (q := view (OpenLaw.row PySem.Challenge.rw_landstack_k02_patches_between_texts).prog [29]) (H := K02.hk) (ob := K02.ob) (M := 2000) (loose := K02.loose) (d := HandSHeadRun.topDef (OpenLaw.row PySem.Challenge.rw_landstack_k02_patches_between_texts).prog 29) (kwd := []) K02.ob_eq
    (by kernel_rfl) (fun s => by kernel_rfl) K02.run (by kernel_rfl) (by kernel_rfl) (by kernel_rfl) (by rfl) (by first | assumption | decide +kernel) (by decide +kernel) ⟨rfl, rfl, rfl, rfl, rfl, by decide +kernel⟩ ?hw ?hc
  case hw => w_witness2
  case hc =>
    refine LamX.walk_ofTsE (l := PySem.Challenge.rw_landstack_k02_patches_between_texts) (n := 63) (k := 5) (x := "script") (CX := fun w => L2.CX (PySem.Challenge.rw_landstack_k02_patches_between_texts).prog w) rfl (by decide) (by kernel_rfl) ⟨rfl, by decide, by decide⟩ ?F (fun _ _ _ _ _ z => by obtain ⟨_, _, _, _, _, _, _, _, _, _, _, _, z⟩ := z; exact z)
    intro w mg fa h Y G hmg0
    obtain ⟨K, KX, c⟩ := Y
    have hmg : mg ("law" : PySem.Str) = some (.ref fa) := by
      have e : (HandSHeadRun.topDef (OpenLaw.row PySem.Challenge.rw_landstack_k02_patches_between_texts).prog 29).name = ("law" : PySem.Str) := by kernel_rfl
      rw [← e]
      exact hmg0
    have e := hmg.symm.trans (He.glo_ok KX G (c.t.d.fact 19 (f := .glo "law") rfl))
    cases e
    exact ⟨K, KX, K02.facts KX G c good⟩
end
section
set_option maxHeartbeats 0
namespace K02
open PySem L2 PD
theorem gw_pre : ∀ (xs ys : List Str) (a b : Nat), gw xs ys a b = (List.range (sp xs ys)).map (fun i => (a + i, b + i)) ++ gw (xs.drop (sp xs ys)) (ys.drop (sp xs ys)) (a + sp xs ys) (b + sp xs ys)
  | [], ys, a, b => by simp [sp]
  | x :: xs, [], a, b => by simp [sp]
  | x :: xs, y :: ys, a, b => by
    by_cases h : x = y
    · rw [gw_cons, if_pos h, gw_pre xs ys (a + 1) (b + 1)]
      simp only [sp, h, if_true]
      rw [List.range_succ_eq_map, List.map_cons, List.map_map, List.cons_append, List.drop_succ_cons, List.drop_succ_cons]
      congr 1
      rw [show a + 1 + sp xs ys = a + (sp xs ys + 1) by omega, show b + 1 + sp xs ys = b + (sp xs ys + 1) by omega]
      congr 1
      apply List.map_congr_left
      intro i _
      simp
      omega
    · simp [sp, h]
theorem sp_le : ∀ (xs ys : List Str), sp xs ys ≤ xs.length ∧ sp xs ys ≤ ys.length
  | [], ys => by simp [sp]
  | x :: xs, [] => by simp [sp]
  | x :: xs, y :: ys => by
    have := sp_le xs ys
    by_cases h : x = y
    · simp [sp, h]; omega
    · simp [sp, h]
theorem cut_from (ds : List D) (s : Nat) (h : s ≤ ds.length) : cutD ds (some (s : Int)) none = ds.drop s := by
  unfold cutD
  rw [HT.sIx_nat, HT.sIx_none, Nat.min_eq_left h, List.take_of_length_le (by simp)]
theorem pairs_comp (X Y S L r5 r6 r7 : PD.Loc) : ∀ (l : List Nat) (acc : List D), acc.length + l.length ≤ 1000 → compL (setD 4) (PD.ret true) m_matches_e1 [4] (l.map fun (i : Nat) => D.int (i : Int)) acc [X, Y, S, L, .non, r5, r6, r7] = some (acc ++ l.map (fun i => pairD (i, i)), [X, Y, S, L, .non, r5, r6, r7])
  | [], acc, _ => by simp [compL]
  | i :: l, acc, h => by
    rw [List.length_cons] at h
    rw [List.map_cons, compL_yes (ρ1 := [X, Y, S, L, .dat (.int (i : Int)), r5, r6, r7]) (ρ2 := [X, Y, S, L, .dat (.int (i : Int)), r5, r6, r7]) (ρ3 := [X, Y, S, L, .dat (.int (i : Int)), r5, r6, r7]) (y := pairD (i, i)) rfl rfl (by unfold m_matches_e1 pairD; simp [mSeq, mE, mIf, mRet, mAsg, mDrop, mAug, mPar, mPar3, mNext, mBreak, mCont, setD, setCons, setTup, setNil, mOp, mUn, mCb, mArg, mTest, mTru, mAnd, mOr, mNot, mIfE, mChain, mTupD, mLstD, mLstO, mSetO, mPart, mSl, mAndV, mOrV, mNotV, bnd, PD.ret, lft, rd, rdD, asB, asI, mIxO, ixOwn, ownAt, ownSet, mSetAtO, mSetAt, mMeth, mLenO, mTruO, mCall, mCallP, locsP, runF, okEnd, isPin, clean, cleanL, noPin, pin0, mTup, mLst, mCbO, mOpO, asL, asO, mLc, inB, mFor, mForE, mForR, mRaiseE, mRaise, mTold, Own.d, dInt, dInt2, dSub, dDiv, dMod, dLt, dLe, dGt, dGe, dNeg, dIpAdd, dLen, dIntOf, dAbs, dMax2, dTuple, dList, dIsN, elems, dFmt, dStrI, List.getElem?_cons_zero, List.getElem?_cons_succ, List.set_cons_zero, List.set_cons_succ, List.length_cons, List.length_nil, List.cons_append, List.nil_append, List.map_cons, List.map_nil, List.replicate_succ, List.replicate_zero, List.take_succ_cons, List.take_zero, if_true, if_false, ite_true, ite_false, Bool.and_true, Bool.true_and, Bool.false_eq_true, reduceIte, Option.map_some, Option.bind_some, Nat.reduceAdd, Nat.reduceSub, Nat.reduceLT, Nat.reduceLeDiff, decide_true, decide_false, Bool.not_true, Bool.not_false, Bool.or_true, Bool.or_false, Bool.false_or, Bool.true_or, eqD_int, eqD_str, dEq, dNe, Option.map_none, atI_0, atI_1, atI_2, mulOk_a, mulOk_b, cap, restE, wipeE, dMul, dAdd, ixN30, ixN31, ixN32, List.range_succ_eq_map]) (by unfold cap; omega)]
    show compL _ _ _ _ _ _ [X, Y, S, L, .non, r5, r6, r7] = _
    rw [pairs_comp X Y S L r5 r6 r7 l _ (by rw [List.length_append, List.length_singleton]; omega)]
    simp
theorem mt_1 (el : List D → Option (List D)) (X Y r5 r6 r7 : PD.Loc) (n : Int) (l zs : List D) (h : el [.int n] = some l) (z : compL (setD 4) (PD.ret true) m_matches_e1 [4] l [] [X, Y, .dat (.int n), .non, .non, r5, r6, r7] = some (zs, [X, Y, .dat (.int n), .non, .non, r5, r6, r7])) :
    mSetO 3 (asO (mLc (mArg (rd 2) (PD.ret [])) el [4] (setD 4) (PD.ret true) m_matches_e1)) [X, Y, .dat (.int n), .non, .non, r5, r6, r7] = some (.nx [X, Y, .dat (.int n), .own (.lst zs), .non, r5, r6, r7]) := by
  simp [mSeq, mE, mIf, mRet, mAsg, mDrop, mAug, mPar, mPar3, mNext, mBreak, mCont, setD, setCons, setTup, setNil, mOp, mUn, mCb, mArg, mTest, mTru, mAnd, mOr, mNot, mIfE, mChain, mTupD, mLstD, mLstO, mSetO, mPart, mSl, mAndV, mOrV, mNotV, bnd, PD.ret, lft, rd, rdD, asB, asI, mIxO, ixOwn, ownAt, ownSet, mSetAtO, mSetAt, mMeth, mLenO, mTruO, mCall, mCallP, locsP, runF, okEnd, isPin, clean, cleanL, noPin, pin0, mTup, mLst, mCbO, mOpO, asL, asO, mLc, inB, mFor, mForE, mForR, mRaiseE, mRaise, mTold, Own.d, dInt, dInt2, dSub, dDiv, dMod, dLt, dLe, dGt, dGe, dNeg, dIpAdd, dLen, dIntOf, dAbs, dMax2, dTuple, dList, dIsN, elems, dFmt, dStrI, List.getElem?_cons_zero, List.getElem?_cons_succ, List.set_cons_zero, List.set_cons_succ, List.length_cons, List.length_nil, List.cons_append, List.nil_append, List.map_cons, List.map_nil, List.replicate_succ, List.replicate_zero, List.take_succ_cons, List.take_zero, if_true, if_false, ite_true, ite_false, Bool.and_true, Bool.true_and, Bool.false_eq_true, reduceIte, Option.map_some, Option.bind_some, Nat.reduceAdd, Nat.reduceSub, Nat.reduceLT, Nat.reduceLeDiff, decide_true, decide_false, Bool.not_true, Bool.not_false, Bool.or_true, Bool.or_false, Bool.false_or, Bool.true_or, eqD_int, eqD_str, dEq, dNe, Option.map_none, atI_0, atI_1, atI_2, mulOk_a, mulOk_b, cap, restE, wipeE, dMul, dAdd, ixN30, ixN31, ixN32, List.range_succ_eq_map, h, z]
theorem rg1_eq (j : Int) : rg1 [.int j] = if rgOk j = true then some (rangeD 0 j.toNat) else none := rfl
abbrev St (xs ys : List Str) : List D := (List.range (sp xs ys)).map fun i => pairD (i, i)
theorem me_0 (xs ys : List Str) (hx : xs.length ≤ 500) : mAsg (mCall F_same_start (mArg (rd 0) (mArg (rd 1) (PD.ret [])))) (setD 2) [.dat (linesT xs), .dat (linesT ys), .non, .non, .non, .non, .non, .non] = some (.nx [.dat (linesT xs), .dat (linesT ys), .dat (.int (sp xs ys)), .non, .non, .non, .non, .non]) := by
  have hss := same_start_ok xs ys (by omega)
  simp [mSeq, mE, mIf, mRet, mAsg, mDrop, mAug, mPar, mPar3, mNext, mBreak, mCont, setD, setCons, setTup, setNil, mOp, mUn, mCb, mArg, mTest, mTru, mAnd, mOr, mNot, mIfE, mChain, mTupD, mLstD, mLstO, mSetO, mPart, mSl, mAndV, mOrV, mNotV, bnd, PD.ret, lft, rd, rdD, asB, asI, mIxO, ixOwn, ownAt, ownSet, mSetAtO, mSetAt, mMeth, mLenO, mTruO, mCall, mCallP, locsP, runF, okEnd, isPin, clean, cleanL, noPin, pin0, mTup, mLst, mCbO, mOpO, asL, asO, mLc, inB, mFor, mForE, mForR, mRaiseE, mRaise, mTold, Own.d, dInt, dInt2, dSub, dDiv, dMod, dLt, dLe, dGt, dGe, dNeg, dIpAdd, dLen, dIntOf, dAbs, dMax2, dTuple, dList, dIsN, elems, dFmt, dStrI, List.getElem?_cons_zero, List.getElem?_cons_succ, List.set_cons_zero, List.set_cons_succ, List.length_cons, List.length_nil, List.cons_append, List.nil_append, List.map_cons, List.map_nil, List.replicate_succ, List.replicate_zero, List.take_succ_cons, List.take_zero, if_true, if_false, ite_true, ite_false, Bool.and_true, Bool.true_and, Bool.false_eq_true, reduceIte, Option.map_some, Option.bind_some, Nat.reduceAdd, Nat.reduceSub, Nat.reduceLT, Nat.reduceLeDiff, decide_true, decide_false, Bool.not_true, Bool.not_false, Bool.or_true, Bool.or_false, Bool.false_or, Bool.true_or, eqD_int, eqD_str, dEq, dNe, Option.map_none, atI_0, atI_1, atI_2, mulOk_a, mulOk_b, cap, restE, wipeE, dMul, dAdd, ixN30, ixN31, ixN32, List.range_succ_eq_map, hss]
theorem me_1 (xs ys : List Str) (hx : xs.length ≤ 500) : mSetO 3 (asO (mLc (mArg (rd 2) (PD.ret [])) rg1 [4] (setD 4) (PD.ret true) m_matches_e1)) [.dat (linesT xs), .dat (linesT ys), .dat (.int (sp xs ys)), .non, .non, .non, .non, .non] = some (.nx [.dat (linesT xs), .dat (linesT ys), .dat (.int (sp xs ys)), .own (.lst (St xs ys)), .non, .non, .non, .non]) := by
  obtain ⟨s1, s2⟩ := sp_le xs ys
  have z := pairs_comp (.dat (linesT xs)) (.dat (linesT ys)) (.dat (.int (sp xs ys))) .non .non .non .non (List.range (sp xs ys)) [] (by simp; omega)
  have hr : rgOk (sp xs ys : Int) = true := by unfold rgOk; simp; omega
  have r : rg1 [.int (sp xs ys)] = some ((List.range (sp xs ys)).map fun (i : Nat) => D.int (i : Int)) := by
    rw [rg1_eq, if_pos hr]
    unfold rangeD
    simp
  rw [List.nil_append] at z
  exact mt_1 rg1 _ _ _ _ _ _ _ _ r z
theorem me_2g (F : PD.Env → Option (Res D)) (X Y A B T : D) (E : PD.Env) (s : Int) (L : PD.Loc) (c1 : dSl X (some s) none = some A) (c2 : dSl Y (some s) none = some B) (h : F [.dat A, .dat B] = some (.ok T E)) :
    mAsg (mCall F (mArg (mSl (rd 0) (mPart (rd 2)) (PD.ret none)) (mArg (mSl (rd 1) (mPart (rd 2)) (PD.ret none)) (PD.ret [])))) (setD 5) [.dat X, .dat Y, .dat (.int s), L, .non, .non, .non, .non] = some (.nx [.dat X, .dat Y, .dat (.int s), L, .non, .dat T, .non, .non]) := by
  simp only [mSeq, mE, mIf, mRet, mAsg, mDrop, mAug, mPar, mPar3, mNext, mBreak, mCont, setD, setCons, setTup, setNil, mOp, mUn, mCb, mArg, mTest, mTru, mAnd, mOr, mNot, mIfE, mChain, mTupD, mLstD, mLstO, mSetO, mPart, mSl, mAndV, mOrV, mNotV, bnd, PD.ret, lft, rd, rdD, asB, asI, mIxO, ixOwn, ownAt, ownSet, mSetAtO, mSetAt, mMeth, mLenO, mTruO, mCall, mCallP, locsP, runF, okEnd, isPin, clean, cleanL, noPin, pin0, mTup, mLst, mCbO, mOpO, asL, asO, mLc, inB, mFor, mForE, mForR, mRaiseE, mRaise, mTold, Own.d, dInt, dInt2, dSub, dDiv, dMod, dLt, dLe, dGt, dGe, dNeg, dIpAdd, dLen, dIntOf, dAbs, dMax2, dTuple, dList, dIsN, elems, dFmt, dStrI, List.getElem?_cons_zero, List.getElem?_cons_succ, List.set_cons_zero, List.set_cons_succ, List.length_cons, List.length_nil, List.cons_append, List.nil_append, List.map_cons, List.map_nil, List.replicate_succ, List.replicate_zero, List.take_succ_cons, List.take_zero, if_true, if_false, ite_true, ite_false, Bool.and_true, Bool.true_and, Bool.false_eq_true, reduceIte, Option.map_some, Option.bind_some, Nat.reduceAdd, Nat.reduceSub, Nat.reduceLT, Nat.reduceLeDiff, decide_true, decide_false, Bool.not_true, Bool.not_false, Bool.or_true, Bool.or_false, Bool.false_or, Bool.true_or, eqD_int, eqD_str, dEq, dNe, Option.map_none, atI_0, atI_1, atI_2, mulOk_a, mulOk_b, cap, restE, wipeE, dMul, dAdd, ixN30, ixN31, ixN32, List.range_succ_eq_map, c1, c2, h]
theorem me_2 (xs ys : List Str) (hx : xs.length ≤ 500) (hy : ys.length ≤ 500) : mAsg (mCall F_common_rows (mArg (mSl (rd 0) (mPart (rd 2)) (PD.ret none)) (mArg (mSl (rd 1) (mPart (rd 2)) (PD.ret none)) (PD.ret [])))) (setD 5) [.dat (linesT xs), .dat (linesT ys), .dat (.int (sp xs ys)), .own (.lst (St xs ys)), .non, .non, .non, .non] =
    some (.nx [.dat (linesT xs), .dat (linesT ys), .dat (.int (sp xs ys)), .own (.lst (St xs ys)), .non, .dat (tabD (xs.drop (sp xs ys)) (ys.drop (sp xs ys))), .non, .non]) := by
  obtain ⟨s1, s2⟩ := sp_le xs ys
  have hcr := common_rows_ok (xs.drop (sp xs ys)) (ys.drop (sp xs ys)) (by simp; omega) (by simp; omega)
  have c1 : dSl (linesT xs) (some (sp xs ys : Int)) none = some (linesT (xs.drop (sp xs ys))) := by
    unfold linesT
    show some (D.tup (cutD (xs.map D.str) (some (sp xs ys : Int)) none)) = _
    rw [cut_from (xs.map D.str) (sp xs ys) (by simp; omega), List.map_drop]
  have c2 : dSl (linesT ys) (some (sp xs ys : Int)) none = some (linesT (ys.drop (sp xs ys))) := by
    unfold linesT
    show some (D.tup (cutD (ys.map D.str) (some (sp xs ys : Int)) none)) = _
    rw [cut_from (ys.map D.str) (sp xs ys) (by simp; omega), List.map_drop]
  exact me_2g F_common_rows _ _ _ _ _ _ _ _ c1 c2 hcr
theorem me_3 (X Y S A T P : PD.Loc) (s : D) : mPar 6 7 (mArg (rd 2) (mArg (rd 2) (PD.ret []))) [X, Y, .dat s, A, P, T, .non, .non] = some (.nx [X, Y, .dat s, A, P, T, .dat s, .dat s]) := rfl
theorem me_4 (xs ys : List Str) (hx : xs.length ≤ 500) (hy : ys.length ≤ 500) : ∃ a' b', mWhile (fun _ => 100000) m_matches_t1 m_matches_b1 (mEnv xs ys (sp xs ys) (St xs ys) .non (sp xs ys) (sp xs ys)) = some (.nx (mEnv xs ys (sp xs ys) ((gw xs ys 0 0).map pairD) .non a' b')) := by
  obtain ⟨s1, s2⟩ := sp_le xs ys
  obtain ⟨a', b', hl⟩ := mt_loop xs ys (sp xs ys) .non (by omega) 99999 (sp xs ys) (sp xs ys) (St xs ys) (by omega) (by omega) s1 s2 (by omega) (by simp)
  have g : St xs ys ++ (gw (xs.drop (sp xs ys)) (ys.drop (sp xs ys)) (sp xs ys) (sp xs ys)).map pairD = (gw xs ys 0 0).map pairD := by
    rw [gw_pre xs ys 0 0, List.map_append, List.map_map]
    simp only [Nat.zero_add]
    rfl
  rw [g] at hl
  exact ⟨a', b', hl⟩
theorem me_5 (X Y S T P a b : PD.Loc) (l : List D) : mRet (mCb dTuple (mArg (rd 3) (PD.ret []))) [X, Y, S, .own (.lst l), P, T, a, b] = some (.rt (.tup l) [X, Y, S, .dat (.lst l), P, T, a, b]) := rfl
theorem matches_ok (xs ys : List Str) (hx : xs.length ≤ 500) (hy : ys.length ≤ 500) : F_matches [.dat (linesT xs), .dat (linesT ys)] = some (.ok (.tup ((gw xs ys 0 0).map pairD)) [.non, .non]) := by
  obtain ⟨a', b', e4⟩ := me_4 xs ys hx hy
  have body : m_matches [.dat (linesT xs), .dat (linesT ys), .non, .non, .non, .non, .non, .non] = some (.rt (.tup ((gw xs ys 0 0).map pairD)) [.dat (linesT xs), .dat (linesT ys), .dat (.int (sp xs ys)), .dat (.lst ((gw xs ys 0 0).map pairD)), .non, .dat (tabD (xs.drop (sp xs ys)) (ys.drop (sp xs ys))), .dat (.int a'), .dat (.int b')]) := by
    unfold m_matches
    rw [mSeq_nx (me_0 xs ys hx), mSeq_nx (me_1 xs ys hx), mSeq_nx (me_2 xs ys hx hy), mSeq_nx (me_3 _ _ .non _ _ _ _), mSeq_nx e4]
    exact me_5 _ _ _ _ _ _ _ _
  exact runF_rt (n := 2) (N := 8) (ρ0 := [.dat (linesT xs), .dat (linesT ys), .non, .non, .non, .non, .non, .non]) rfl body rfl
end K02
end
section
set_option maxHeartbeats 0
namespace K02
open PySem L2 PD
theorem gw_len : ∀ (n : Nat) (xs ys : List Str) (a b : Nat), xs.length + ys.length ≤ n → (gw xs ys a b).length = lcs xs ys
  | _, [], ys, a, b, _ => by simp [gw, lcs]
  | _, x :: xs, [], a, b, _ => by simp [gw, lcs]
  | 0, x :: xs, y :: ys, a, b, h => by simp at h
  | n + 1, x :: xs, y :: ys, a, b, h => by
    simp only [List.length_cons] at h
    rw [gw_cons, lcs_cons]
    by_cases e : x = y
    · rw [if_pos e, if_pos e, List.length_cons, gw_len n xs ys _ _ (by omega)]
    · rw [if_neg e, if_neg e]
      by_cases k : lcs xs (y :: ys) ≥ lcs (x :: xs) ys
      · rw [if_pos k, gw_len n xs (y :: ys) _ _ (by simp; omega)]
        omega
      · rw [if_neg k, gw_len n (x :: xs) ys _ _ (by simp; omega)]
        omega
/-! ### patches -/
inductive Op where
  | keep (n : Nat) | drop (ls : List Str) | add (ls : List Str)
def opD : Op → D
  | .keep n => .tup [.str "keep", .int n]
  | .drop ls => .tup [.str "drop", linesT ls]
  | .add ls => .tup [.str "add", linesT ls]
def patchD (p : List Op) : D := .tup (p.map opD)
def slc (xs : List Str) (h o : Nat) : List Str := (xs.drop h).take (o - h)
theorem cut_mid (ds : List D) {h o : Nat} (h1 : h ≤ o) (h2 : o ≤ ds.length) : cutD ds (some (h : Int)) (some (o : Int)) = (ds.drop h).take (o - h) := by
  unfold cutD
  rw [HT.sIx_nat, HT.sIx_nat, Nat.min_eq_left h2, Nat.min_eq_left (by omega)]
theorem sl_lines (xs : List Str) {h o : Nat} (h1 : h ≤ o) (h2 : o ≤ xs.length) : dSl (linesT xs) (some (h : Int)) (some (o : Int)) = some (linesT (slc xs h o)) := by
  unfold linesT slc
  show some (D.tup (cutD (xs.map D.str) (some (h : Int)) (some (o : Int)))) = _
  rw [cut_mid _ h1 (by simpa using h2), List.map_take, List.map_drop]
def preD (k h t o n : Int) (L1 L2 : D) : List D := (if 0 < k ∧ (h < o ∨ t < n) then [.tup [.str "keep", .int k]] else []) ++ ((if h < o then [.tup [.str "drop", L1]] else []) ++ (if t < n then [.tup [.str "add", L2]] else []))
theorem pb_1 (X Y h t o n : D) (R : List D) (k : Int) (b : Bool) (hl : R.length < 100000) (c : mAnd (mTest (mOp dGt (rd 3) (PD.ret (.int 0)))) (mOr (mTest (mOp dLt (rd 4) (rd 6))) (mTest (mOp dLt (rd 5) (rd 7)))) [.dat X, .dat Y, .own (.lst R), .dat (.int k), .dat h, .dat t, .dat o, .dat n] = some (.ok b [.dat X, .dat Y, .own (.lst R), .dat (.int k), .dat h, .dat t, .dat o, .dat n])) :
    mIf (mAnd (mTest (mOp dGt (rd 3) (PD.ret (.int 0)))) (mOr (mTest (mOp dLt (rd 4) (rd 6))) (mTest (mOp dLt (rd 5) (rd 7)))))
    (mSeq (mDrop (mMeth 2 mdAppend (mArg (mTupD (mArg (PD.ret (.str "keep")) (mArg (rd 3) (PD.ret [])))) (PD.ret []))))
    (mAsg (PD.ret (.int 0)) (setD 3)))
    mNext [.dat X, .dat Y, .own (.lst R), .dat (.int k), .dat h, .dat t, .dat o, .dat n] =
    some (.nx [.dat X, .dat Y, .own (.lst (R ++ if b = true then [.tup [.str "keep", .int k]] else [])), .dat (.int (if b = true then 0 else k)), .dat h, .dat t, .dat o, .dat n]) := by
  cases b with
  | true =>
    rw [mIf_t c]
    simp [mSeq, mE, mIf, mRet, mAsg, mDrop, mAug, mPar, mPar3, mNext, mBreak, mCont, setD, setCons, setTup, setNil, mOp, mUn, mCb, mArg, mTest, mTru, mAnd, mOr, mNot, mIfE, mChain, mTupD, mLstD, mLstO, mSetO, mPart, mSl, mAndV, mOrV, mNotV, bnd, PD.ret, lft, rd, rdD, asB, asI, mIxO, ixOwn, ownAt, ownSet, mSetAtO, mSetAt, mMeth, mLenO, mTruO, mCall, mCallP, locsP, runF, okEnd, isPin, clean, cleanL, noPin, pin0, mTup, mLst, mCbO, mOpO, asL, asO, mLc, inB, mFor, mForE, mForR, mRaiseE, mRaise, mTold, Own.d, dInt, dInt2, dSub, dDiv, dMod, dLt, dLe, dGt, dGe, dNeg, dIpAdd, dLen, dIntOf, dAbs, dMax2, dTuple, dList, dIsN, elems, dFmt, dStrI, List.getElem?_cons_zero, List.getElem?_cons_succ, List.set_cons_zero, List.set_cons_succ, List.length_cons, List.length_nil, List.cons_append, List.nil_append, List.map_cons, List.map_nil, List.replicate_succ, List.replicate_zero, List.take_succ_cons, List.take_zero, if_true, if_false, ite_true, ite_false, Bool.and_true, Bool.true_and, Bool.false_eq_true, reduceIte, Option.map_some, Option.bind_some, Nat.reduceAdd, Nat.reduceSub, Nat.reduceLT, Nat.reduceLeDiff, decide_true, decide_false, Bool.not_true, Bool.not_false, Bool.or_true, Bool.or_false, Bool.false_or, Bool.true_or, eqD_int, eqD_str, dEq, dNe, Option.map_none, atI_0, atI_1, atI_2, mulOk_a, mulOk_b, cap, restE, wipeE, dMul, dAdd, ixN30, ixN31, ixN32, List.range_succ_eq_map, mdAppend, hl]
  | false =>
    rw [mIf_f c]
    simp [mSeq, mE, mIf, mRet, mAsg, mDrop, mAug, mPar, mPar3, mNext, mBreak, mCont, setD, setCons, setTup, setNil, mOp, mUn, mCb, mArg, mTest, mTru, mAnd, mOr, mNot, mIfE, mChain, mTupD, mLstD, mLstO, mSetO, mPart, mSl, mAndV, mOrV, mNotV, bnd, PD.ret, lft, rd, rdD, asB, asI, mIxO, ixOwn, ownAt, ownSet, mSetAtO, mSetAt, mMeth, mLenO, mTruO, mCall, mCallP, locsP, runF, okEnd, isPin, clean, cleanL, noPin, pin0, mTup, mLst, mCbO, mOpO, asL, asO, mLc, inB, mFor, mForE, mForR, mRaiseE, mRaise, mTold, Own.d, dInt, dInt2, dSub, dDiv, dMod, dLt, dLe, dGt, dGe, dNeg, dIpAdd, dLen, dIntOf, dAbs, dMax2, dTuple, dList, dIsN, elems, dFmt, dStrI, List.getElem?_cons_zero, List.getElem?_cons_succ, List.set_cons_zero, List.set_cons_succ, List.length_cons, List.length_nil, List.cons_append, List.nil_append, List.map_cons, List.map_nil, List.replicate_succ, List.replicate_zero, List.take_succ_cons, List.take_zero, if_true, if_false, ite_true, ite_false, Bool.and_true, Bool.true_and, Bool.false_eq_true, reduceIte, Option.map_some, Option.bind_some, Nat.reduceAdd, Nat.reduceSub, Nat.reduceLT, Nat.reduceLeDiff, decide_true, decide_false, Bool.not_true, Bool.not_false, Bool.or_true, Bool.or_false, Bool.false_or, Bool.true_or, eqD_int, eqD_str, dEq, dNe, Option.map_none, atI_0, atI_1, atI_2, mulOk_a, mulOk_b, cap, restE, wipeE, dMul, dAdd, ixN30, ixN31, ixN32, List.range_succ_eq_map]
theorem pb_2 (X Y L k t n : D) (R : List D) (h o : Int) (hl : R.length < 100000) (c1 : h < o → dSl X (some h) (some o) = some L) (hL : ∃ l, L = .tup l) :
    mIf (mTest (mOp dLt (rd 4) (rd 6)))
    (mDrop (mMeth 2 mdAppend (mArg (mTupD (mArg (PD.ret (.str "drop")) (mArg (mCb dTuple (mArg (mSl (rd 0) (mPart (rd 4)) (mPart (rd 6))) (PD.ret []))) (PD.ret [])))) (PD.ret []))))
    mNext [.dat X, .dat Y, .own (.lst R), .dat k, .dat (.int h), .dat t, .dat (.int o), .dat n] =
    some (.nx [.dat X, .dat Y, .own (.lst (R ++ if h < o then [.tup [.str "drop", L]] else [])), .dat k, .dat (.int h), .dat t, .dat (.int o), .dat n]) := by
  obtain ⟨l, rfl⟩ := hL
  by_cases c : h < o
  · simp [mSeq, mE, mIf, mRet, mAsg, mDrop, mAug, mPar, mPar3, mNext, mBreak, mCont, setD, setCons, setTup, setNil, mOp, mUn, mCb, mArg, mTest, mTru, mAnd, mOr, mNot, mIfE, mChain, mTupD, mLstD, mLstO, mSetO, mPart, mSl, mAndV, mOrV, mNotV, bnd, PD.ret, lft, rd, rdD, asB, asI, mIxO, ixOwn, ownAt, ownSet, mSetAtO, mSetAt, mMeth, mLenO, mTruO, mCall, mCallP, locsP, runF, okEnd, isPin, clean, cleanL, noPin, pin0, mTup, mLst, mCbO, mOpO, asL, asO, mLc, inB, mFor, mForE, mForR, mRaiseE, mRaise, mTold, Own.d, dInt, dInt2, dSub, dDiv, dMod, dLt, dLe, dGt, dGe, dNeg, dIpAdd, dLen, dIntOf, dAbs, dMax2, dTuple, dList, dIsN, elems, dFmt, dStrI, List.getElem?_cons_zero, List.getElem?_cons_succ, List.set_cons_zero, List.set_cons_succ, List.length_cons, List.length_nil, List.cons_append, List.nil_append, List.map_cons, List.map_nil, List.replicate_succ, List.replicate_zero, List.take_succ_cons, List.take_zero, if_true, if_false, ite_true, ite_false, Bool.and_true, Bool.true_and, Bool.false_eq_true, reduceIte, Option.map_some, Option.bind_some, Nat.reduceAdd, Nat.reduceSub, Nat.reduceLT, Nat.reduceLeDiff, decide_true, decide_false, Bool.not_true, Bool.not_false, Bool.or_true, Bool.or_false, Bool.false_or, Bool.true_or, eqD_int, eqD_str, dEq, dNe, Option.map_none, atI_0, atI_1, atI_2, mulOk_a, mulOk_b, cap, restE, wipeE, dMul, dAdd, ixN30, ixN31, ixN32, List.range_succ_eq_map, mdAppend, hl, c, c1 c]
  · simp [mSeq, mE, mIf, mRet, mAsg, mDrop, mAug, mPar, mPar3, mNext, mBreak, mCont, setD, setCons, setTup, setNil, mOp, mUn, mCb, mArg, mTest, mTru, mAnd, mOr, mNot, mIfE, mChain, mTupD, mLstD, mLstO, mSetO, mPart, mSl, mAndV, mOrV, mNotV, bnd, PD.ret, lft, rd, rdD, asB, asI, mIxO, ixOwn, ownAt, ownSet, mSetAtO, mSetAt, mMeth, mLenO, mTruO, mCall, mCallP, locsP, runF, okEnd, isPin, clean, cleanL, noPin, pin0, mTup, mLst, mCbO, mOpO, asL, asO, mLc, inB, mFor, mForE, mForR, mRaiseE, mRaise, mTold, Own.d, dInt, dInt2, dSub, dDiv, dMod, dLt, dLe, dGt, dGe, dNeg, dIpAdd, dLen, dIntOf, dAbs, dMax2, dTuple, dList, dIsN, elems, dFmt, dStrI, List.getElem?_cons_zero, List.getElem?_cons_succ, List.set_cons_zero, List.set_cons_succ, List.length_cons, List.length_nil, List.cons_append, List.nil_append, List.map_cons, List.map_nil, List.replicate_succ, List.replicate_zero, List.take_succ_cons, List.take_zero, if_true, if_false, ite_true, ite_false, Bool.and_true, Bool.true_and, Bool.false_eq_true, reduceIte, Option.map_some, Option.bind_some, Nat.reduceAdd, Nat.reduceSub, Nat.reduceLT, Nat.reduceLeDiff, decide_true, decide_false, Bool.not_true, Bool.not_false, Bool.or_true, Bool.or_false, Bool.false_or, Bool.true_or, eqD_int, eqD_str, dEq, dNe, Option.map_none, atI_0, atI_1, atI_2, mulOk_a, mulOk_b, cap, restE, wipeE, dMul, dAdd, ixN30, ixN31, ixN32, List.range_succ_eq_map, c]
theorem pb_3 (X Y L k h o : D) (R : List D) (t n : Int) (hl : R.length < 100000) (c1 : t < n → dSl Y (some t) (some n) = some L) (hL : ∃ l, L = .tup l) :
    mIf (mTest (mOp dLt (rd 5) (rd 7)))
    (mDrop (mMeth 2 mdAppend (mArg (mTupD (mArg (PD.ret (.str "add")) (mArg (mCb dTuple (mArg (mSl (rd 1) (mPart (rd 5)) (mPart (rd 7))) (PD.ret []))) (PD.ret [])))) (PD.ret []))))
    mNext [.dat X, .dat Y, .own (.lst R), .dat k, .dat h, .dat (.int t), .dat o, .dat (.int n)] =
    some (.nx [.dat X, .dat Y, .own (.lst (R ++ if t < n then [.tup [.str "add", L]] else [])), .dat k, .dat h, .dat (.int t), .dat o, .dat (.int n)]) := by
  obtain ⟨l, rfl⟩ := hL
  by_cases c : t < n
  · simp [mSeq, mE, mIf, mRet, mAsg, mDrop, mAug, mPar, mPar3, mNext, mBreak, mCont, setD, setCons, setTup, setNil, mOp, mUn, mCb, mArg, mTest, mTru, mAnd, mOr, mNot, mIfE, mChain, mTupD, mLstD, mLstO, mSetO, mPart, mSl, mAndV, mOrV, mNotV, bnd, PD.ret, lft, rd, rdD, asB, asI, mIxO, ixOwn, ownAt, ownSet, mSetAtO, mSetAt, mMeth, mLenO, mTruO, mCall, mCallP, locsP, runF, okEnd, isPin, clean, cleanL, noPin, pin0, mTup, mLst, mCbO, mOpO, asL, asO, mLc, inB, mFor, mForE, mForR, mRaiseE, mRaise, mTold, Own.d, dInt, dInt2, dSub, dDiv, dMod, dLt, dLe, dGt, dGe, dNeg, dIpAdd, dLen, dIntOf, dAbs, dMax2, dTuple, dList, dIsN, elems, dFmt, dStrI, List.getElem?_cons_zero, List.getElem?_cons_succ, List.set_cons_zero, List.set_cons_succ, List.length_cons, List.length_nil, List.cons_append, List.nil_append, List.map_cons, List.map_nil, List.replicate_succ, List.replicate_zero, List.take_succ_cons, List.take_zero, if_true, if_false, ite_true, ite_false, Bool.and_true, Bool.true_and, Bool.false_eq_true, reduceIte, Option.map_some, Option.bind_some, Nat.reduceAdd, Nat.reduceSub, Nat.reduceLT, Nat.reduceLeDiff, decide_true, decide_false, Bool.not_true, Bool.not_false, Bool.or_true, Bool.or_false, Bool.false_or, Bool.true_or, eqD_int, eqD_str, dEq, dNe, Option.map_none, atI_0, atI_1, atI_2, mulOk_a, mulOk_b, cap, restE, wipeE, dMul, dAdd, ixN30, ixN31, ixN32, List.range_succ_eq_map, mdAppend, hl, c, c1 c]
  · simp [mSeq, mE, mIf, mRet, mAsg, mDrop, mAug, mPar, mPar3, mNext, mBreak, mCont, setD, setCons, setTup, setNil, mOp, mUn, mCb, mArg, mTest, mTru, mAnd, mOr, mNot, mIfE, mChain, mTupD, mLstD, mLstO, mSetO, mPart, mSl, mAndV, mOrV, mNotV, bnd, PD.ret, lft, rd, rdD, asB, asI, mIxO, ixOwn, ownAt, ownSet, mSetAtO, mSetAt, mMeth, mLenO, mTruO, mCall, mCallP, locsP, runF, okEnd, isPin, clean, cleanL, noPin, pin0, mTup, mLst, mCbO, mOpO, asL, asO, mLc, inB, mFor, mForE, mForR, mRaiseE, mRaise, mTold, Own.d, dInt, dInt2, dSub, dDiv, dMod, dLt, dLe, dGt, dGe, dNeg, dIpAdd, dLen, dIntOf, dAbs, dMax2, dTuple, dList, dIsN, elems, dFmt, dStrI, List.getElem?_cons_zero, List.getElem?_cons_succ, List.set_cons_zero, List.set_cons_succ, List.length_cons, List.length_nil, List.cons_append, List.nil_append, List.map_cons, List.map_nil, List.replicate_succ, List.replicate_zero, List.take_succ_cons, List.take_zero, if_true, if_false, ite_true, ite_false, Bool.and_true, Bool.true_and, Bool.false_eq_true, reduceIte, Option.map_some, Option.bind_some, Nat.reduceAdd, Nat.reduceSub, Nat.reduceLT, Nat.reduceLeDiff, decide_true, decide_false, Bool.not_true, Bool.not_false, Bool.or_true, Bool.or_false, Bool.false_or, Bool.true_or, eqD_int, eqD_str, dEq, dNe, Option.map_none, atI_0, atI_1, atI_2, mulOk_a, mulOk_b, cap, restE, wipeE, dMul, dAdd, ixN30, ixN31, ixN32, List.range_succ_eq_map, c]
theorem pb_c (X Y A : PD.Loc) (k h t o n : Int) : mAnd (mTest (mOp dGt (rd 3) (PD.ret (.int 0)))) (mOr (mTest (mOp dLt (rd 4) (rd 6))) (mTest (mOp dLt (rd 5) (rd 7)))) [X, Y, A, .dat (.int k), .dat (.int h), .dat (.int t), .dat (.int o), .dat (.int n)] = some (.ok (decide (0 < k ∧ (h < o ∨ t < n))) [X, Y, A, .dat (.int k), .dat (.int h), .dat (.int t), .dat (.int o), .dat (.int n)]) := by
  by_cases c1 : 0 < k
  · by_cases c2 : h < o
    · simp [mSeq, mE, mIf, mRet, mAsg, mDrop, mAug, mPar, mPar3, mNext, mBreak, mCont, setD, setCons, setTup, setNil, mOp, mUn, mCb, mArg, mTest, mTru, mAnd, mOr, mNot, mIfE, mChain, mTupD, mLstD, mLstO, mSetO, mPart, mSl, mAndV, mOrV, mNotV, bnd, PD.ret, lft, rd, rdD, asB, asI, mIxO, ixOwn, ownAt, ownSet, mSetAtO, mSetAt, mMeth, mLenO, mTruO, mCall, mCallP, locsP, runF, okEnd, isPin, clean, cleanL, noPin, pin0, mTup, mLst, mCbO, mOpO, asL, asO, mLc, inB, mFor, mForE, mForR, mRaiseE, mRaise, mTold, Own.d, dInt, dInt2, dSub, dDiv, dMod, dLt, dLe, dGt, dGe, dNeg, dIpAdd, dLen, dIntOf, dAbs, dMax2, dTuple, dList, dIsN, elems, dFmt, dStrI, List.getElem?_cons_zero, List.getElem?_cons_succ, List.set_cons_zero, List.set_cons_succ, List.length_cons, List.length_nil, List.cons_append, List.nil_append, List.map_cons, List.map_nil, List.replicate_succ, List.replicate_zero, List.take_succ_cons, List.take_zero, if_true, if_false, ite_true, ite_false, Bool.and_true, Bool.true_and, Bool.false_eq_true, reduceIte, Option.map_some, Option.bind_some, Nat.reduceAdd, Nat.reduceSub, Nat.reduceLT, Nat.reduceLeDiff, decide_true, decide_false, Bool.not_true, Bool.not_false, Bool.or_true, Bool.or_false, Bool.false_or, Bool.true_or, eqD_int, eqD_str, dEq, dNe, Option.map_none, atI_0, atI_1, atI_2, mulOk_a, mulOk_b, cap, restE, wipeE, dMul, dAdd, ixN30, ixN31, ixN32, List.range_succ_eq_map, c1, c2]
    · simp [mSeq, mE, mIf, mRet, mAsg, mDrop, mAug, mPar, mPar3, mNext, mBreak, mCont, setD, setCons, setTup, setNil, mOp, mUn, mCb, mArg, mTest, mTru, mAnd, mOr, mNot, mIfE, mChain, mTupD, mLstD, mLstO, mSetO, mPart, mSl, mAndV, mOrV, mNotV, bnd, PD.ret, lft, rd, rdD, asB, asI, mIxO, ixOwn, ownAt, ownSet, mSetAtO, mSetAt, mMeth, mLenO, mTruO, mCall, mCallP, locsP, runF, okEnd, isPin, clean, cleanL, noPin, pin0, mTup, mLst, mCbO, mOpO, asL, asO, mLc, inB, mFor, mForE, mForR, mRaiseE, mRaise, mTold, Own.d, dInt, dInt2, dSub, dDiv, dMod, dLt, dLe, dGt, dGe, dNeg, dIpAdd, dLen, dIntOf, dAbs, dMax2, dTuple, dList, dIsN, elems, dFmt, dStrI, List.getElem?_cons_zero, List.getElem?_cons_succ, List.set_cons_zero, List.set_cons_succ, List.length_cons, List.length_nil, List.cons_append, List.nil_append, List.map_cons, List.map_nil, List.replicate_succ, List.replicate_zero, List.take_succ_cons, List.take_zero, if_true, if_false, ite_true, ite_false, Bool.and_true, Bool.true_and, Bool.false_eq_true, reduceIte, Option.map_some, Option.bind_some, Nat.reduceAdd, Nat.reduceSub, Nat.reduceLT, Nat.reduceLeDiff, decide_true, decide_false, Bool.not_true, Bool.not_false, Bool.or_true, Bool.or_false, Bool.false_or, Bool.true_or, eqD_int, eqD_str, dEq, dNe, Option.map_none, atI_0, atI_1, atI_2, mulOk_a, mulOk_b, cap, restE, wipeE, dMul, dAdd, ixN30, ixN31, ixN32, List.range_succ_eq_map, c1, c2]
  · simp [mSeq, mE, mIf, mRet, mAsg, mDrop, mAug, mPar, mPar3, mNext, mBreak, mCont, setD, setCons, setTup, setNil, mOp, mUn, mCb, mArg, mTest, mTru, mAnd, mOr, mNot, mIfE, mChain, mTupD, mLstD, mLstO, mSetO, mPart, mSl, mAndV, mOrV, mNotV, bnd, PD.ret, lft, rd, rdD, asB, asI, mIxO, ixOwn, ownAt, ownSet, mSetAtO, mSetAt, mMeth, mLenO, mTruO, mCall, mCallP, locsP, runF, okEnd, isPin, clean, cleanL, noPin, pin0, mTup, mLst, mCbO, mOpO, asL, asO, mLc, inB, mFor, mForE, mForR, mRaiseE, mRaise, mTold, Own.d, dInt, dInt2, dSub, dDiv, dMod, dLt, dLe, dGt, dGe, dNeg, dIpAdd, dLen, dIntOf, dAbs, dMax2, dTuple, dList, dIsN, elems, dFmt, dStrI, List.getElem?_cons_zero, List.getElem?_cons_succ, List.set_cons_zero, List.set_cons_succ, List.length_cons, List.length_nil, List.cons_append, List.nil_append, List.map_cons, List.map_nil, List.replicate_succ, List.replicate_zero, List.take_succ_cons, List.take_zero, if_true, if_false, ite_true, ite_false, Bool.and_true, Bool.true_and, Bool.false_eq_true, reduceIte, Option.map_some, Option.bind_some, Nat.reduceAdd, Nat.reduceSub, Nat.reduceLT, Nat.reduceLeDiff, decide_true, decide_false, Bool.not_true, Bool.not_false, Bool.or_true, Bool.or_false, Bool.false_or, Bool.true_or, eqD_int, eqD_str, dEq, dNe, Option.map_none, atI_0, atI_1, atI_2, mulOk_a, mulOk_b, cap, restE, wipeE, dMul, dAdd, ixN30, ixN31, ixN32, List.range_succ_eq_map, c1]
theorem pb_b (X Y L1 L2 : D) (R : List D) (k h t o n : Int) (hl : R.length + 3 < 100000) (c1 : h < o → dSl X (some h) (some o) = some L1) (h1 : ∃ l, L1 = .tup l) (c2 : t < n → dSl Y (some t) (some n) = some L2) (h2 : ∃ l, L2 = .tup l) :
    m_patch_between_b1 [.dat X, .dat Y, .own (.lst R), .dat (.int k), .dat (.int h), .dat (.int t), .dat (.int o), .dat (.int n)] =
      some (.nx [.dat X, .dat Y, .own (.lst (R ++ preD k h t o n L1 L2)), .dat (.int ((if 0 < k ∧ (h < o ∨ t < n) then 0 else k) + 1)), .dat (.int (o + 1)), .dat (.int (n + 1)), .dat (.int o), .dat (.int n)]) := by
  have e1 := pb_1 X Y (.int h) (.int t) (.int o) (.int n) R k _ (by omega) (pb_c _ _ _ k h t o n)
  simp only [decide_eq_true_eq] at e1
  have l0 : ∀ (c : Prop) [Decidable c] (d : D), (if c then [d] else []).length ≤ 1 := fun c _ d => by split <;> simp
  have l1 := l0 (0 < k ∧ (h < o ∨ t < n)) (.tup [.str "keep", .int k])
  have l2 := l0 (h < o) (.tup [.str "drop", L1])
  have e2 := pb_2 X Y L1 (.int (if 0 < k ∧ (h < o ∨ t < n) then 0 else k)) (.int t) (.int n) (R ++ if 0 < k ∧ (h < o ∨ t < n) then [D.tup [.str "keep", .int k]] else []) h o (by rw [List.length_append]; omega) c1 h1
  have e3 := pb_3 X Y L2 (.int (if 0 < k ∧ (h < o ∨ t < n) then 0 else k)) (.int h) (.int o) ((R ++ if 0 < k ∧ (h < o ∨ t < n) then [D.tup [.str "keep", .int k]] else []) ++ if h < o then [D.tup [.str "drop", L1]] else []) t n (by rw [List.length_append, List.length_append]; omega) c2 h2
  unfold m_patch_between_b1
  rw [mSeq_nx e1, mSeq_nx e2, mSeq_nx e3]
  unfold preD
  rw [← List.append_assoc, ← List.append_assoc]
  simp [mSeq, mE, mIf, mRet, mAsg, mDrop, mAug, mPar, mPar3, mNext, mBreak, mCont, setD, setCons, setTup, setNil, mOp, mUn, mCb, mArg, mTest, mTru, mAnd, mOr, mNot, mIfE, mChain, mTupD, mLstD, mLstO, mSetO, mPart, mSl, mAndV, mOrV, mNotV, bnd, PD.ret, lft, rd, rdD, asB, asI, mIxO, ixOwn, ownAt, ownSet, mSetAtO, mSetAt, mMeth, mLenO, mTruO, mCall, mCallP, locsP, runF, okEnd, isPin, clean, cleanL, noPin, pin0, mTup, mLst, mCbO, mOpO, asL, asO, mLc, inB, mFor, mForE, mForR, mRaiseE, mRaise, mTold, Own.d, dInt, dInt2, dSub, dDiv, dMod, dLt, dLe, dGt, dGe, dNeg, dIpAdd, dLen, dIntOf, dAbs, dMax2, dTuple, dList, dIsN, elems, dFmt, dStrI, List.getElem?_cons_zero, List.getElem?_cons_succ, List.set_cons_zero, List.set_cons_succ, List.length_cons, List.length_nil, List.cons_append, List.nil_append, List.map_cons, List.map_nil, List.replicate_succ, List.replicate_zero, List.take_succ_cons, List.take_zero, if_true, if_false, ite_true, ite_false, Bool.and_true, Bool.true_and, Bool.false_eq_true, reduceIte, Option.map_some, Option.bind_some, Nat.reduceAdd, Nat.reduceSub, Nat.reduceLT, Nat.reduceLeDiff, decide_true, decide_false, Bool.not_true, Bool.not_false, Bool.or_true, Bool.or_false, Bool.false_or, Bool.true_or, eqD_int, eqD_str, dEq, dNe, Option.map_none, atI_0, atI_1, atI_2, mulOk_a, mulOk_b, cap, restE, wipeE, dMul, dAdd, ixN30, ixN31, ixN32, List.range_succ_eq_map]
end K02
end
section
set_option maxHeartbeats 0
namespace K02
open PySem L2 PD
def preO (xs ys : List Str) (k h t o n : Nat) : List Op := (if 0 < k ∧ (h < o ∨ t < n) then [.keep k] else []) ++ ((if h < o then [.drop (slc xs h o)] else []) ++ (if t < n then [.add (slc ys t n)] else []))
def nextK (k h t o n : Nat) : Nat := (if 0 < k ∧ (h < o ∨ t < n) then 0 else k) + 1
def pbL (xs ys : List Str) : List (Nat × Nat) → Nat → Nat → Nat → List Op × Nat
  | [], k, _, _ => ([], k)
  | (o, n) :: ps, k, h, t => (preO xs ys k h t o n ++ (pbL xs ys ps (nextK k h t o n) (o + 1) (n + 1)).1, (pbL xs ys ps (nextK k h t o n) (o + 1) (n + 1)).2)
def fin (k : Nat) : List Op := if 1 < k then [.keep (k - 1)] else []
theorem preD_map (xs ys : List Str) (k h t o n : Nat) : preD k h t o n (linesT (slc xs h o)) (linesT (slc ys t n)) = (preO xs ys k h t o n).map opD := by
  unfold preD preO
  have e1 : ((0 : Int) < (k : Int)) ↔ 0 < k := by omega
  have e2 : ((h : Int) < (o : Int)) ↔ h < o := by omega
  have e3 : ((t : Int) < (n : Int)) ↔ t < n := by omega
  simp only [e1, e2, e3, List.map_append]
  congr 1
  · split <;> rfl
  · congr 1
    · split <;> rfl
    · split <;> rfl
/-- pairs that go up, within the lines -/
def Asc (m n : Nat) : List (Nat × Nat) → Nat → Nat → Prop
  | [], _, _ => True
  | (o, q) :: ps, h, t => h ≤ o ∧ t ≤ q ∧ o ≤ m ∧ q ≤ n ∧ Asc m n ps (o + 1) (q + 1)
abbrev tgt : D → PD.Env → Option PD.Env := setTup 2 (setCons (setD 6) (setCons (setD 7) setNil))
theorem tgt_ok (a0 a1 a2 a3 a4 a5 a6 a7 : PD.Loc) (o n : Nat) : tgt (pairD (o, n)) [a0, a1, a2, a3, a4, a5, a6, a7] = some [a0, a1, a2, a3, a4, a5, .dat (.int o), .dat (.int n)] := rfl
theorem preO_len (xs ys : List Str) (k h t o n : Nat) : (preO xs ys k h t o n).length ≤ 3 := by
  unfold preO
  rw [List.length_append, List.length_append]
  split <;> split <;> split <;> simp
theorem pb_loop (xs ys : List Str) : ∀ (l : List (Nat × Nat)) (R : List D) (k h t : Nat) (s6 s7 : PD.Loc), Asc xs.length ys.length l h t → R.length + 3 * l.length < 99000 →
    ∃ u4 u5 u6 u7, loopL tgt m_patch_between_b1 (l.map pairD) [.dat (linesT xs), .dat (linesT ys), .own (.lst R), .dat (.int k), .dat (.int h), .dat (.int t), s6, s7] =
      some (.nx [.dat (linesT xs), .dat (linesT ys), .own (.lst (R ++ (pbL xs ys l k h t).1.map opD)), .dat (.int (pbL xs ys l k h t).2), u4, u5, u6, u7])
  | [], R, k, h, t, s6, s7, _, _ => ⟨_, _, _, _, by rw [List.map_nil, loopL_nil]; simp [pbL]; exact ⟨rfl, rfl, rfl, rfl⟩⟩
  | (o, n) :: ps, R, k, h, t, s6, s7, ha, hl => by
    obtain ⟨h1, h2, h3, h4, h5⟩ := ha
    rw [List.length_cons] at hl
    have e := pb_b (linesT xs) (linesT ys) (linesT (slc xs h o)) (linesT (slc ys t n)) R k h t o n (by omega) (fun _ => sl_lines xs h1 h3) ⟨_, rfl⟩ (fun _ => sl_lines ys h2 h4) ⟨_, rfl⟩
    have ek : ((if (0 : Int) < (k : Int) ∧ ((h : Int) < (o : Int) ∨ (t : Int) < (n : Int)) then (0 : Int) else (k : Int)) + 1) = ((nextK k h t o n : Nat) : Int) := by
      unfold nextK
      by_cases c : 0 < k ∧ (h < o ∨ t < n)
      · rw [if_pos c, if_pos (by omega)]; rfl
      · rw [if_neg c, if_neg (by omega)]; omega
    rw [preD_map, ek] at e
    obtain ⟨u4, u5, u6, u7, z⟩ := pb_loop xs ys ps (R ++ (preO xs ys k h t o n).map opD) (nextK k h t o n) (o + 1) (n + 1) (.dat (.int o)) (.dat (.int n)) h5 (by
      have := preO_len xs ys k h t o n
      rw [List.length_append, List.length_map]; omega)
    refine ⟨u4, u5, u6, u7, ?_⟩
    rw [List.map_cons, loopL_nx (tgt_ok _ _ _ _ _ _ _ _ o n) e]
    simp only [pbL, List.map_append, ← List.append_assoc]
    exact z
end K02
end
section
set_option maxHeartbeats 0
namespace K02
open PySem L2 PD
theorem pt_2 (F : PD.Env → Option (Res D)) (g : D → PD.Env → Option PD.Env) (b : MS) (xa ya l : List D) (E : PD.Env) (a2 a3 a4 a5 a6 a7 : PD.Loc) (h : F [.dat (.tup xa), .dat (.tup ya)] = some (.ok (.tup l) E)) (hl : l.length + 1 ≤ 100000) :
    mFor (mLstD (mStar (mCall F (mArg (rd 0) (mArg (rd 1) (PD.ret [])))) (mArg (mTupD (mArg (mCb dLen (mArg (rd 0) (PD.ret []))) (mArg (mCb dLen (mArg (rd 1) (PD.ret []))) (PD.ret [])))) (PD.ret [])))) g b [.dat (.tup xa), .dat (.tup ya), a2, a3, a4, a5, a6, a7] =
      loopL g b (l ++ [.tup [.int xa.length, .int ya.length]]) [.dat (.tup xa), .dat (.tup ya), a2, a3, a4, a5, a6, a7] := by
  simp [mSeq, mE, mIf, mRet, mAsg, mDrop, mAug, mPar, mPar3, mNext, mBreak, mCont, setD, setCons, setTup, setNil, mOp, mUn, mCb, mArg, mTest, mTru, mAnd, mOr, mNot, mIfE, mChain, mTupD, mLstD, mLstO, mSetO, mPart, mSl, mAndV, mOrV, mNotV, bnd, PD.ret, lft, rd, rdD, asB, asI, mIxO, ixOwn, ownAt, ownSet, mSetAtO, mSetAt, mMeth, mLenO, mTruO, mCall, mCallP, locsP, runF, okEnd, isPin, clean, cleanL, noPin, pin0, mTup, mLst, mCbO, mOpO, asL, asO, mLc, inB, mFor, mForE, mForR, mRaiseE, mRaise, mTold, Own.d, dInt, dInt2, dSub, dDiv, dMod, dLt, dLe, dGt, dGe, dNeg, dIpAdd, dLen, dIntOf, dAbs, dMax2, dTuple, dList, dIsN, elems, dFmt, dStrI, List.getElem?_cons_zero, List.getElem?_cons_succ, List.set_cons_zero, List.set_cons_succ, List.length_cons, List.length_nil, List.cons_append, List.nil_append, List.map_cons, List.map_nil, List.replicate_succ, List.replicate_zero, List.take_succ_cons, List.take_zero, if_true, if_false, ite_true, ite_false, Bool.and_true, Bool.true_and, Bool.false_eq_true, reduceIte, Option.map_some, Option.bind_some, Nat.reduceAdd, Nat.reduceSub, Nat.reduceLT, Nat.reduceLeDiff, decide_true, decide_false, Bool.not_true, Bool.not_false, Bool.or_true, Bool.or_false, Bool.false_or, Bool.true_or, eqD_int, eqD_str, dEq, dNe, Option.map_none, atI_0, atI_1, atI_2, mulOk_a, mulOk_b, cap, restE, wipeE, dMul, dAdd, ixN30, ixN31, ixN32, List.range_succ_eq_map, mStar, h, hl]
theorem pt_3 (X Y a4 a5 a6 a7 : PD.Loc) (R : List D) (k : Int) (hl : R.length < 100000) :
    mIf (mTest (mOp dGt (rd 3) (PD.ret (.int 1))))
    (mDrop (mMeth 2 mdAppend (mArg (mTupD (mArg (PD.ret (.str "keep")) (mArg (mOp dSub (rd 3) (PD.ret (.int 1))) (PD.ret [])))) (PD.ret []))))
    mNext [X, Y, .own (.lst R), .dat (.int k), a4, a5, a6, a7] = some (.nx [X, Y, .own (.lst (R ++ if 1 < k then [.tup [.str "keep", .int (k - 1)]] else [])), .dat (.int k), a4, a5, a6, a7]) := by
  by_cases c : 1 < k
  · simp [mSeq, mE, mIf, mRet, mAsg, mDrop, mAug, mPar, mPar3, mNext, mBreak, mCont, setD, setCons, setTup, setNil, mOp, mUn, mCb, mArg, mTest, mTru, mAnd, mOr, mNot, mIfE, mChain, mTupD, mLstD, mLstO, mSetO, mPart, mSl, mAndV, mOrV, mNotV, bnd, PD.ret, lft, rd, rdD, asB, asI, mIxO, ixOwn, ownAt, ownSet, mSetAtO, mSetAt, mMeth, mLenO, mTruO, mCall, mCallP, locsP, runF, okEnd, isPin, clean, cleanL, noPin, pin0, mTup, mLst, mCbO, mOpO, asL, asO, mLc, inB, mFor, mForE, mForR, mRaiseE, mRaise, mTold, Own.d, dInt, dInt2, dSub, dDiv, dMod, dLt, dLe, dGt, dGe, dNeg, dIpAdd, dLen, dIntOf, dAbs, dMax2, dTuple, dList, dIsN, elems, dFmt, dStrI, List.getElem?_cons_zero, List.getElem?_cons_succ, List.set_cons_zero, List.set_cons_succ, List.length_cons, List.length_nil, List.cons_append, List.nil_append, List.map_cons, List.map_nil, List.replicate_succ, List.replicate_zero, List.take_succ_cons, List.take_zero, if_true, if_false, ite_true, ite_false, Bool.and_true, Bool.true_and, Bool.false_eq_true, reduceIte, Option.map_some, Option.bind_some, Nat.reduceAdd, Nat.reduceSub, Nat.reduceLT, Nat.reduceLeDiff, decide_true, decide_false, Bool.not_true, Bool.not_false, Bool.or_true, Bool.or_false, Bool.false_or, Bool.true_or, eqD_int, eqD_str, dEq, dNe, Option.map_none, atI_0, atI_1, atI_2, mulOk_a, mulOk_b, cap, restE, wipeE, dMul, dAdd, ixN30, ixN31, ixN32, List.range_succ_eq_map, mdAppend, hl, c]
  · simp [mSeq, mE, mIf, mRet, mAsg, mDrop, mAug, mPar, mPar3, mNext, mBreak, mCont, setD, setCons, setTup, setNil, mOp, mUn, mCb, mArg, mTest, mTru, mAnd, mOr, mNot, mIfE, mChain, mTupD, mLstD, mLstO, mSetO, mPart, mSl, mAndV, mOrV, mNotV, bnd, PD.ret, lft, rd, rdD, asB, asI, mIxO, ixOwn, ownAt, ownSet, mSetAtO, mSetAt, mMeth, mLenO, mTruO, mCall, mCallP, locsP, runF, okEnd, isPin, clean, cleanL, noPin, pin0, mTup, mLst, mCbO, mOpO, asL, asO, mLc, inB, mFor, mForE, mForR, mRaiseE, mRaise, mTold, Own.d, dInt, dInt2, dSub, dDiv, dMod, dLt, dLe, dGt, dGe, dNeg, dIpAdd, dLen, dIntOf, dAbs, dMax2, dTuple, dList, dIsN, elems, dFmt, dStrI, List.getElem?_cons_zero, List.getElem?_cons_succ, List.set_cons_zero, List.set_cons_succ, List.length_cons, List.length_nil, List.cons_append, List.nil_append, List.map_cons, List.map_nil, List.replicate_succ, List.replicate_zero, List.take_succ_cons, List.take_zero, if_true, if_false, ite_true, ite_false, Bool.and_true, Bool.true_and, Bool.false_eq_true, reduceIte, Option.map_some, Option.bind_some, Nat.reduceAdd, Nat.reduceSub, Nat.reduceLT, Nat.reduceLeDiff, decide_true, decide_false, Bool.not_true, Bool.not_false, Bool.or_true, Bool.or_false, Bool.false_or, Bool.true_or, eqD_int, eqD_str, dEq, dNe, Option.map_none, atI_0, atI_1, atI_2, mulOk_a, mulOk_b, cap, restE, wipeE, dMul, dAdd, ixN30, ixN31, ixN32, List.range_succ_eq_map, c]
theorem pt_4 (X Y a3 a4 a5 a6 a7 : PD.Loc) (R : List D) : mRet (mCb dTuple (mArg (rd 2) (PD.ret []))) [X, Y, .own (.lst R), a3, a4, a5, a6, a7] = some (.rt (.tup R) [X, Y, .dat (.lst R), a3, a4, a5, a6, a7]) := rfl
def allP (xs ys : List Str) : List (Nat × Nat) := gw xs ys 0 0 ++ [(xs.length, ys.length)]
def patch (xs ys : List Str) : List Op := (pbL xs ys (allP xs ys) 0 0 0).1 ++ fin (pbL xs ys (allP xs ys) 0 0 0).2
/-- pairs of equal lines that go up -/
def MW (xs ys : List Str) : List (Nat × Nat) → Nat → Nat → Prop
  | [], _, _ => True
  | (o, q) :: ps, h, t => h ≤ o ∧ t ≤ q ∧ (∃ (h1 : o < xs.length) (h2 : q < ys.length), xs[o] = ys[q]) ∧ MW xs ys ps (o + 1) (q + 1)
theorem MW.mono {xs ys : List Str} : ∀ {l : List (Nat × Nat)} {h t h' t' : Nat}, h' ≤ h → t' ≤ t → MW xs ys l h t → MW xs ys l h' t'
  | [], _, _, _, _, _, _, _ => trivial
  | (o, q) :: ps, h, t, h', t', e1, e2, m => ⟨by have := m.1; omega, by have := m.2.1; omega, m.2.2⟩
theorem gw_mw (xs ys : List Str) : ∀ (n a b : Nat), xs.length + ys.length ≤ n + a + b → MW xs ys (gw (xs.drop a) (ys.drop b) a b) a b
  | n, a, b, hn => by
    by_cases ha : a < xs.length
    · by_cases hb : b < ys.length
      · cases n with
        | zero => omega
        | succ n =>
          rw [drop_at ha, drop_at hb, gw_cons, ← drop_at ha, ← drop_at hb]
          by_cases e : xs[a] = ys[b]
          · rw [if_pos e]
            exact ⟨Nat.le_refl _, Nat.le_refl _, ⟨ha, hb, e⟩, gw_mw xs ys n (a + 1) (b + 1) (by omega)⟩
          · rw [if_neg e]
            split
            · exact (gw_mw xs ys n (a + 1) b (by omega)).mono (by omega) (by omega)
            · exact (gw_mw xs ys n a (b + 1) (by omega)).mono (by omega) (by omega)
      · rw [List.drop_eq_nil_of_le (by omega : ys.length ≤ b), gw_nil]; trivial
    · rw [List.drop_eq_nil_of_le (by omega : xs.length ≤ a), gw_nil']; trivial
theorem gw_mw0 (xs ys : List Str) : MW xs ys (gw xs ys 0 0) 0 0 := by
  have := gw_mw xs ys (xs.length + ys.length) 0 0 (by omega)
  rwa [List.drop_zero, List.drop_zero] at this
theorem MW.asc {xs ys : List Str} : ∀ {l : List (Nat × Nat)} {h t : Nat}, MW xs ys l h t → h ≤ xs.length → t ≤ ys.length → Asc xs.length ys.length (l ++ [(xs.length, ys.length)]) h t
  | [], h, t, _, h1, h2 => ⟨h1, h2, Nat.le_refl _, Nat.le_refl _, trivial⟩
  | (o, q) :: ps, h, t, m, _, _ => by
    obtain ⟨m1, m2, ⟨m3, m4, _⟩, m5⟩ := m
    exact ⟨m1, m2, by omega, by omega, m5.asc (by omega) (by omega)⟩
theorem lcs_le : ∀ (n : Nat) (xs ys : List Str), xs.length + ys.length ≤ n → lcs xs ys ≤ xs.length
  | _, [], ys, _ => by simp [lcs]
  | _, x :: xs, [], _ => by simp [lcs]
  | 0, x :: xs, y :: ys, h => by simp at h
  | n + 1, x :: xs, y :: ys, h => by
    simp only [List.length_cons] at h
    have h1 := lcs_le n xs ys (by omega)
    have h2 := lcs_le n xs (y :: ys) (by simp; omega)
    have h3 := lcs_le n (x :: xs) ys (by simp; omega)
    rw [lcs_cons]
    simp only [List.length_cons] at h3 ⊢
    split <;> omega
theorem patch_ok (xs ys : List Str) (hx : xs.length ≤ 500) (hy : ys.length ≤ 500) : F_patch_between [.dat (linesT xs), .dat (linesT ys)] = some (.ok (patchD (patch xs ys)) [.non, .non]) := by
  have hm := matches_ok xs ys hx hy
  have hlen : (gw xs ys 0 0).length ≤ 500 := by
    rw [gw_len _ xs ys 0 0 (Nat.le_refl _)]
    have := lcs_le _ xs ys (Nat.le_refl _)
    omega
  obtain ⟨u4, u5, u6, u7, hl⟩ := pb_loop xs ys (allP xs ys) [] 0 0 0 .non .non ((gw_mw0 xs ys).asc (by omega) (by omega)) (by unfold allP; simp; omega)
  have e0 : mSetO 2 (mLstO (PD.ret [])) [.dat (linesT xs), .dat (linesT ys), .non, .non, .non, .non, .non, .non] = some (.nx [.dat (linesT xs), .dat (linesT ys), .own (.lst []), .non, .non, .non, .non, .non]) := by
    simp [mSeq, mE, mIf, mRet, mAsg, mDrop, mAug, mPar, mPar3, mNext, mBreak, mCont, setD, setCons, setTup, setNil, mOp, mUn, mCb, mArg, mTest, mTru, mAnd, mOr, mNot, mIfE, mChain, mTupD, mLstD, mLstO, mSetO, mPart, mSl, mAndV, mOrV, mNotV, bnd, PD.ret, lft, rd, rdD, asB, asI, mIxO, ixOwn, ownAt, ownSet, mSetAtO, mSetAt, mMeth, mLenO, mTruO, mCall, mCallP, locsP, runF, okEnd, isPin, clean, cleanL, noPin, pin0, mTup, mLst, mCbO, mOpO, asL, asO, mLc, inB, mFor, mForE, mForR, mRaiseE, mRaise, mTold, Own.d, dInt, dInt2, dSub, dDiv, dMod, dLt, dLe, dGt, dGe, dNeg, dIpAdd, dLen, dIntOf, dAbs, dMax2, dTuple, dList, dIsN, elems, dFmt, dStrI, List.getElem?_cons_zero, List.getElem?_cons_succ, List.set_cons_zero, List.set_cons_succ, List.length_cons, List.length_nil, List.cons_append, List.nil_append, List.map_cons, List.map_nil, List.replicate_succ, List.replicate_zero, List.take_succ_cons, List.take_zero, if_true, if_false, ite_true, ite_false, Bool.and_true, Bool.true_and, Bool.false_eq_true, reduceIte, Option.map_some, Option.bind_some, Nat.reduceAdd, Nat.reduceSub, Nat.reduceLT, Nat.reduceLeDiff, decide_true, decide_false, Bool.not_true, Bool.not_false, Bool.or_true, Bool.or_false, Bool.false_or, Bool.true_or, eqD_int, eqD_str, dEq, dNe, Option.map_none, atI_0, atI_1, atI_2, mulOk_a, mulOk_b, cap, restE, wipeE, dMul, dAdd, ixN30, ixN31, ixN32, List.range_succ_eq_map]
  have e1 : mAsg (mTupD (mArg (PD.ret (.int 0)) (mArg (PD.ret (.int 0)) (mArg (PD.ret (.int 0)) (PD.ret []))))) (setTup 3 (setCons (setD 3) (setCons (setD 4) (setCons (setD 5) setNil)))) [.dat (linesT xs), .dat (linesT ys), .own (.lst []), .non, .non, .non, .non, .non] = some (.nx [.dat (linesT xs), .dat (linesT ys), .own (.lst []), .dat (.int ((0 : Nat) : Int)), .dat (.int ((0 : Nat) : Int)), .dat (.int ((0 : Nat) : Int)), .non, .non]) := by
    simp [mSeq, mE, mIf, mRet, mAsg, mDrop, mAug, mPar, mPar3, mNext, mBreak, mCont, setD, setCons, setTup, setNil, mOp, mUn, mCb, mArg, mTest, mTru, mAnd, mOr, mNot, mIfE, mChain, mTupD, mLstD, mLstO, mSetO, mPart, mSl, mAndV, mOrV, mNotV, bnd, PD.ret, lft, rd, rdD, asB, asI, mIxO, ixOwn, ownAt, ownSet, mSetAtO, mSetAt, mMeth, mLenO, mTruO, mCall, mCallP, locsP, runF, okEnd, isPin, clean, cleanL, noPin, pin0, mTup, mLst, mCbO, mOpO, asL, asO, mLc, inB, mFor, mForE, mForR, mRaiseE, mRaise, mTold, Own.d, dInt, dInt2, dSub, dDiv, dMod, dLt, dLe, dGt, dGe, dNeg, dIpAdd, dLen, dIntOf, dAbs, dMax2, dTuple, dList, dIsN, elems, dFmt, dStrI, List.getElem?_cons_zero, List.getElem?_cons_succ, List.set_cons_zero, List.set_cons_succ, List.length_cons, List.length_nil, List.cons_append, List.nil_append, List.map_cons, List.map_nil, List.replicate_succ, List.replicate_zero, List.take_succ_cons, List.take_zero, if_true, if_false, ite_true, ite_false, Bool.and_true, Bool.true_and, Bool.false_eq_true, reduceIte, Option.map_some, Option.bind_some, Nat.reduceAdd, Nat.reduceSub, Nat.reduceLT, Nat.reduceLeDiff, decide_true, decide_false, Bool.not_true, Bool.not_false, Bool.or_true, Bool.or_false, Bool.false_or, Bool.true_or, eqD_int, eqD_str, dEq, dNe, Option.map_none, atI_0, atI_1, atI_2, mulOk_a, mulOk_b, cap, restE, wipeE, dMul, dAdd, ixN30, ixN31, ixN32, List.range_succ_eq_map]
  have em : (gw xs ys 0 0).map pairD ++ [.tup [.int (xs.map D.str).length, .int (ys.map D.str).length]] = (allP xs ys).map pairD := by
    unfold allP pairD
    simp
  have e2 := pt_2 F_matches tgt m_patch_between_b1 (xs.map .str) (ys.map .str) ((gw xs ys 0 0).map pairD) _ (.own (.lst [])) (.dat (.int ((0 : Nat) : Int))) (.dat (.int ((0 : Nat) : Int))) (.dat (.int ((0 : Nat) : Int))) .non .non hm (by rw [List.length_map]; omega)
  rw [em] at e2
  have e2' := e2.trans hl
  rw [List.nil_append] at e2'
  have hpl : ∀ (l : List (Nat × Nat)) (k h t : Nat), (pbL xs ys l k h t).1.length ≤ 3 * l.length := by
    intro l
    induction l with
    | nil => intro k h t; simp [pbL]
    | cons p ps ih =>
      intro k h t
      obtain ⟨o, n⟩ := p
      have := preO_len xs ys k h t o n
      have := ih (nextK k h t o n) (o + 1) (n + 1)
      simp only [pbL, List.length_append, List.length_cons]
      omega
  have hpl2 := hpl (allP xs ys) 0 0 0
  have e3 := pt_3 (.dat (linesT xs)) (.dat (linesT ys)) u4 u5 u6 u7 ((pbL xs ys (allP xs ys) 0 0 0).1.map opD) (pbL xs ys (allP xs ys) 0 0 0).2 (by rw [List.length_map]; unfold allP at hpl2 ⊢; simp at hpl2; omega)
  have ef : ((pbL xs ys (allP xs ys) 0 0 0).1.map opD ++ if (1 : Int) < ((pbL xs ys (allP xs ys) 0 0 0).2 : Int) then [D.tup [.str "keep", .int (((pbL xs ys (allP xs ys) 0 0 0).2 : Int) - 1)]] else []) = (patch xs ys).map opD := by
    unfold patch fin
    rw [List.map_append]
    congr 1
    by_cases c : 1 < (pbL xs ys (allP xs ys) 0 0 0).2
    · rw [if_pos c, if_pos (by omega)]
      show _ = [D.tup [.str "keep", .int (((pbL xs ys (allP xs ys) 0 0 0).2 - 1 : Nat) : Int)]]
      rw [show (((pbL xs ys (allP xs ys) 0 0 0).2 - 1 : Nat) : Int) = ((pbL xs ys (allP xs ys) 0 0 0).2 : Int) - 1 by omega]
    · rw [if_neg c, if_neg (by omega)]
      rfl
  rw [ef] at e3
  have body : m_patch_between [.dat (linesT xs), .dat (linesT ys), .non, .non, .non, .non, .non, .non] = some (.rt (patchD (patch xs ys)) [.dat (linesT xs), .dat (linesT ys), .dat (.lst ((patch xs ys).map opD)), .dat (.int (pbL xs ys (allP xs ys) 0 0 0).2), u4, u5, u6, u7]) := by
    unfold m_patch_between
    rw [mSeq_nx e0, mSeq_nx e1]
    refine (mSeq_nx e2').trans ?_
    rw [mSeq_nx e3]
    exact pt_4 _ _ _ _ _ _ _ _
  exact runF_rt (n := 2) (N := 8) (ρ0 := [.dat (linesT xs), .dat (linesT ys), .non, .non, .non, .non, .non, .non]) rfl body rfl
end K02
end
section
set_option maxHeartbeats 0
namespace K02
open PySem L2 PD
/-- a patch that leads from the one to the other, no row of it empty -/
inductive Leads : List Op → List Str → List Str → Prop
  | nil : Leads [] [] []
  | keep (ks : List Str) {p : List Op} {xs ys : List Str} : ks ≠ [] → Leads p xs ys → Leads (.keep ks.length :: p) (ks ++ xs) (ks ++ ys)
  | drop (ls : List Str) {p : List Op} {xs ys : List Str} : ls ≠ [] → Leads p xs ys → Leads (.drop ls :: p) (ls ++ xs) ys
  | add (ls : List Str) {p : List Op} {xs ys : List Str} : ls ≠ [] → Leads p xs ys → Leads (.add ls :: p) xs (ls ++ ys)
theorem slc_len {xs : List Str} {h o : Nat} (h2 : o ≤ xs.length) : (slc xs h o).length = o - h := by
  unfold slc
  rw [List.length_take, List.length_drop]
  omega
theorem slc_drop {xs : List Str} {h o : Nat} (h1 : h ≤ o) : xs.drop h = slc xs h o ++ xs.drop o := by
  unfold slc
  have := List.take_append_drop (o - h) (xs.drop h)
  rw [List.drop_drop, show h + (o - h) = o by omega] at this
  exact this.symm
theorem slc_self {xs : List Str} {h : Nat} : slc xs h h = [] := by
  unfold slc
  rw [Nat.sub_self, List.take_zero]
theorem slc_ne {xs : List Str} {h o : Nat} (h1 : h < o) (h2 : o ≤ xs.length) : slc xs h o ≠ [] := fun z => by
  have := slc_len (xs := xs) (h := h) h2
  rw [z, List.length_nil] at this
  omega
theorem slc_snoc {xs : List Str} {h o : Nat} (h1 : h ≤ o) (h2 : o < xs.length) : slc xs h (o + 1) = slc xs h o ++ [xs[o]] := by
  have e1 := slc_drop (xs := xs) (h := h) (o := o + 1) (by omega)
  have e2 := slc_drop (xs := xs) (h := h) (o := o) h1
  rw [drop_at h2] at e2
  rw [e1, show xs[o] :: xs.drop (o + 1) = [xs[o]] ++ xs.drop (o + 1) from rfl, ← List.append_assoc] at e2
  exact List.append_cancel_right e2
theorem pre_leads {xs ys : List Str} {k h t o n : Nat} {rest : List Op} (hk : 0 < k → h < o ∨ t < n) (k1 : k ≤ h) (k2 : k ≤ t) (h1 : h ≤ o) (h2 : o ≤ xs.length) (t1 : t ≤ n) (t2 : n ≤ ys.length) (e : slc xs (h - k) h = slc ys (t - k) t)
    (L : Leads rest (xs.drop o) (ys.drop n)) : Leads (preO xs ys k h t o n ++ rest) (xs.drop (h - k)) (ys.drop (t - k)) := by
  have a1 : Leads ((if t < n then [Op.add (slc ys t n)] else []) ++ rest) (xs.drop o) (ys.drop t) := by
    rw [slc_drop (xs := ys) t1]
    by_cases c : t < n
    · rw [if_pos c]; exact .add _ (slc_ne c t2) L
    · rw [if_neg c, show t = n by omega, slc_self]; exact L
  have a2 : Leads ((if h < o then [Op.drop (slc xs h o)] else []) ++ ((if t < n then [Op.add (slc ys t n)] else []) ++ rest)) (xs.drop h) (ys.drop t) := by
    rw [slc_drop (xs := xs) h1]
    by_cases c : h < o
    · rw [if_pos c]; exact .drop _ (slc_ne c h2) a1
    · rw [if_neg c, show h = o by omega, slc_self]; exact a1
  unfold preO
  rw [List.append_assoc, List.append_assoc]
  by_cases c : 0 < k
  · rw [if_pos ⟨c, hk c⟩, slc_drop (xs := xs) (h := h - k) (o := h) (by omega), slc_drop (xs := ys) (h := t - k) (o := t) (by omega), ← e]
    have len : (slc xs (h - k) h).length = k := by rw [slc_len (by omega)]; omega
    have := Leads.keep (slc xs (h - k) h) (slc_ne (by omega) (by omega)) a2
    rw [len] at this
    exact this
  · rw [if_neg (fun z => c z.1), show k = 0 by omega]
    exact a2
theorem pb_leads (xs ys : List Str) : ∀ (l : List (Nat × Nat)) (k h t : Nat), k ≤ h → k ≤ t → h ≤ xs.length → t ≤ ys.length → slc xs (h - k) h = slc ys (t - k) t → MW xs ys l h t →
    Leads ((pbL xs ys (l ++ [(xs.length, ys.length)]) k h t).1 ++ fin (pbL xs ys (l ++ [(xs.length, ys.length)]) k h t).2) (xs.drop (h - k)) (ys.drop (t - k))
  | [], k, h, t, k1, k2, h1, h2, e, _ => by
    have z : Leads [] (xs.drop xs.length) (ys.drop ys.length) := by
      rw [List.drop_length, List.drop_length]; exact .nil
    simp only [List.nil_append, pbL]
    by_cases c : 0 < k ∧ ¬ (h < xs.length ∨ t < ys.length)
    · have c1 : h = xs.length := by omega
      have c2 : t = ys.length := by omega
      subst c1 c2
      have p0 : preO xs ys k xs.length ys.length xs.length ys.length = [] := by unfold preO; simp
      have n0 : nextK k xs.length ys.length xs.length ys.length = k + 1 := by unfold nextK; simp
      rw [p0, n0]
      unfold fin
      rw [if_pos (by omega), slc_drop (xs := xs) (h := xs.length - k) (o := xs.length) (by omega), slc_drop (xs := ys) (h := ys.length - k) (o := ys.length) (by omega), ← e]
      have len : (slc xs (xs.length - k) xs.length).length = k := by rw [slc_len (by omega)]; omega
      have := Leads.keep (slc xs (xs.length - k) xs.length) (slc_ne (by omega) (by omega)) z
      rw [len] at this
      exact this
    · have n0 : nextK k h t xs.length ys.length = 1 := by
        unfold nextK
        by_cases c2 : 0 < k
        · rw [if_pos ⟨c2, by omega⟩]
        · rw [if_neg (fun z => c2 z.1)]; omega
      rw [n0]
      unfold fin
      rw [if_neg (by omega), List.append_nil]
      exact pre_leads (fun c2 => by omega) k1 k2 h1 (Nat.le_refl _) h2 (Nat.le_refl _) e z
  | (o, n) :: ps, k, h, t, k1, k2, h1, h2, e, m => by
    obtain ⟨m1, m2, ⟨m3, m4, m5⟩, m6⟩ := m
    simp only [List.cons_append, pbL]
    by_cases c : 0 < k ∧ ¬ (h < o ∨ t < n)
    · have c1 : h = o := by omega
      have c2 : t = n := by omega
      subst c1 c2
      have p0 : preO xs ys k h t h t = [] := by unfold preO; simp
      have n0 : nextK k h t h t = k + 1 := by unfold nextK; simp
      rw [p0, n0]
      have := pb_leads xs ys ps (k + 1) (h + 1) (t + 1) (by omega) (by omega) (by omega) (by omega) (by
        rw [show h + 1 - (k + 1) = h - k by omega, show t + 1 - (k + 1) = t - k by omega, slc_snoc (by omega) m3, slc_snoc (by omega) m4, e, m5]) m6
      rw [show h + 1 - (k + 1) = h - k by omega, show t + 1 - (k + 1) = t - k by omega] at this
      exact this
    · have n0 : nextK k h t o n = 1 := by
        unfold nextK
        by_cases c2 : 0 < k
        · rw [if_pos ⟨c2, by omega⟩]
        · rw [if_neg (fun z => c2 z.1)]; omega
      rw [n0, List.append_assoc]
      have := pb_leads xs ys ps 1 (o + 1) (n + 1) (by omega) (by omega) (by omega) (by omega) (by
        rw [show o + 1 - 1 = o by omega, show n + 1 - 1 = n by omega, slc_snoc (Nat.le_refl _) m3, slc_snoc (Nat.le_refl _) m4, slc_self, slc_self, m5]) m6
      exact pre_leads (fun c2 => by omega) k1 k2 m1 (by omega) m2 (by omega) e this
theorem patch_leads (xs ys : List Str) : Leads (patch xs ys) xs ys := by
  have := pb_leads xs ys (gw xs ys 0 0) 0 0 0 (by omega) (by omega) (by omega) (by omega) rfl (gw_mw0 xs ys)
  exact this
/-! ### no two rows of one kind side by side, none that was added ahead of what was dropped -/
def kind : Op → Nat
  | .keep _ => 0
  | .drop _ => 1
  | .add _ => 2
def okk (a : Option Nat) (b : Nat) : Prop := ∀ x, a = some x → x ≠ b ∧ ¬ (x = 2 ∧ b = 1)
def WF : Option Nat → List Op → Prop
  | _, [] => True
  | a, o :: p => okk a (kind o) ∧ WF (some (kind o)) p
theorem pb_wf (xs ys : List Str) : ∀ (l : List (Nat × Nat)) (k h t : Nat) (a : Option Nat), a ≠ some 0 → (k = 0 → a = none) → l ≠ [] → WF a ((pbL xs ys l k h t).1 ++ fin (pbL xs ys l k h t).2) := by
  have key : ∀ (l : List (Nat × Nat)) (k h t : Nat) (a : Option Nat), a ≠ some 0 → (k = 0 → a = none) → WF a ((pbL xs ys l k h t).1 ++ fin (pbL xs ys l k h t).2) := by
    intro l
    induction l with
    | nil =>
      intro k h t a h1 h2
      simp only [pbL, List.nil_append]
      unfold fin
      split
      · exact ⟨fun x e => ⟨fun z => h1 (by rw [e, z]; rfl), fun z => by simp [kind] at z⟩, trivial⟩
      · trivial
    | cons p ps ih =>
      intro k h t a h1 h2
      obtain ⟨o, n⟩ := p
      simp only [pbL]
      rw [List.append_assoc]
      have nk : nextK k h t o n ≠ 0 := by unfold nextK; omega
      generalize hr : (pbL xs ys ps (nextK k h t o n) (o + 1) (n + 1)).1 ++ fin (pbL xs ys ps (nextK k h t o n) (o + 1) (n + 1)).2 = rest
      have hrest : ∀ b : Option Nat, b ≠ some 0 → WF b rest := fun b hb => hr ▸ ih _ _ _ b hb (fun z => absurd z nk)
      have a1 : ∀ b : Option Nat, b ≠ some 2 → b = none ∨ b = some 0 ∨ b = some 1 → (t < n ∨ b ≠ some 0) → WF b ((if t < n then [Op.add (slc ys t n)] else []) ++ rest) := by
        intro b hb hb2 hb3
        by_cases c : t < n
        · rw [if_pos c]
          exact ⟨fun x e => ⟨fun z => hb (by rw [e, z]; rfl), fun z => by simp [kind] at z⟩, hrest _ (by simp [kind])⟩
        · rw [if_neg c]
          rcases hb3 with z | z
          · exact absurd z c
          · exact hrest b z
      have a2 : ∀ b : Option Nat, b = none ∨ b = some 0 → (h < o ∨ t < n ∨ b ≠ some 0) → WF b ((if h < o then [Op.drop (slc xs h o)] else []) ++ ((if t < n then [Op.add (slc ys t n)] else []) ++ rest)) := by
        intro b hb hb3
        by_cases c : h < o
        · rw [if_pos c]
          refine ⟨fun x e => ?_, a1 (some 1) (by simp) (.inr (.inr rfl)) (.inr (by simp))⟩
          rcases hb with rfl | rfl
          · cases e
          · cases e; simp [kind]
        · rw [if_neg c]
          refine a1 b (by rcases hb with rfl | rfl <;> simp) (by rcases hb with rfl | rfl <;> simp) ?_
          rcases hb3 with z | z | z
          · exact absurd z c
          · exact .inl z
          · exact .inr z
      unfold preO
      rw [List.append_assoc, List.append_assoc]
      by_cases c : 0 < k ∧ (h < o ∨ t < n)
      · rw [if_pos c]
        refine ⟨fun x e => ⟨fun z => h1 (by rw [e, z]; rfl), fun z => by simp [kind] at z⟩, ?_⟩
        exact a2 (some 0) (.inr rfl) (by rcases c.2 with z | z <;> simp [z])
      · rw [if_neg c]
        by_cases k0 : k = 0
        · rw [h2 k0]
          exact a2 none (.inl rfl) (.inr (.inr (by simp)))
        · have c1 : ¬ h < o := fun z => c ⟨by omega, .inl z⟩
          have c2 : ¬ t < n := fun z => c ⟨by omega, .inr z⟩
          rw [if_neg c1, if_neg c2]
          exact hrest a h1
  exact fun l k h t a h1 h2 _ => key l k h t a h1 h2
theorem patch_wf (xs ys : List Str) : WF none (patch xs ys) := pb_wf xs ys (allP xs ys) 0 0 0 none (by simp) (fun _ => rfl) (by unfold allP; simp)
end K02
end
section
set_option maxHeartbeats 0
namespace K02
open PySem L2 PD
theorem s_ka : ¬ (("keep" : Str) = "add") := by decide +kernel
theorem s_da : ¬ (("drop" : Str) = "add") := by decide +kernel
theorem s_dk : ¬ (("drop" : Str) = "keep") := by decide +kernel
theorem s_kd : ¬ (("keep" : Str) = "drop") := by decide +kernel
theorem eqD_lines : ∀ (xs ys : List Str), eqD (linesT xs) (linesT ys) = some (decide (xs = ys)) := by
  have fl : ∀ xs : List Str, flat 1 (linesT xs) = true := fun xs => by
    unfold linesT
    simp only [flat, flats_all, List.all_map]
    rw [List.all_eq_true]
    intro x _
    simp [flat]
  have key : ∀ xs ys : List Str, PyData.eqvAll (toPs (xs.map .str)) (toPs (ys.map .str)) = decide (xs = ys) := by
    intro xs
    induction xs with
    | nil => intro ys; cases ys <;> simp [toPs, PyData.eqvAll]
    | cons x xs ih =>
      intro ys
      cases ys with
      | nil => simp [toPs, PyData.eqvAll]
      | cons y ys =>
        simp only [List.map_cons, toPs, PyData.eqvAll, ih, toP, PyData.eqv]
        by_cases e : x = y <;> by_cases e2 : xs = ys <;> simp [e, e2]
  intro xs ys
  obtain ⟨h1, h2⟩ := flat_ok _ _ (fl xs)
  obtain ⟨k1, k2⟩ := flat_ok _ _ (fl ys)
  unfold eqD
  rw [if_pos ⟨h1, k1, by omega⟩]
  unfold linesT
  simp only [toP, PyData.eqv]
  rw [key]
theorem numLen : ∀ n : Nat, n < 1100 → (toString ((n : Nat) : Int) : Str).length ≤ 20 := by
  have h : (List.range 1100).all (fun n => decide ((toString ((n : Nat) : Int) : Str).length ≤ 20)) = true := by decide +kernel
  intro n hn
  exact of_decide_eq_true (List.all_eq_true.mp h n (List.mem_range.mpr hn))
theorem strLen_append (x y : Str) : (x ++ y).length = x.length + y.length := Array.size_append
theorem mRaiseE_ok {x : Str} {m : MM D} {ρ ρ' : PD.Env} {d : D} (h : m ρ = some (.ok d ρ')) : mRaiseE x m ρ = some (.er x ρ') := by
  unfold mRaiseE mE
  rw [h]
theorem mSeq_er {m n : MS} {x : Str} {ρ ρ' : PD.Env} (h : m ρ = some (.er x ρ')) : mSeq m n ρ = some (.er x ρ') := by
  unfold mSeq
  rw [h]
theorem mSeq_ct {m n : MS} {ρ ρ' : PD.Env} (h : m ρ = some (.ct ρ')) : mSeq m n ρ = some (.ct ρ') := by
  unfold mSeq
  rw [h]
theorem mSeq_rt {m n : MS} {ρ ρ' : PD.Env} {d : D} (h : m ρ = some (.rt d ρ')) : mSeq m n ρ = some (.rt d ρ') := by
  unfold mSeq
  rw [h]
def fitL : List Op → List Str → Option (List Str × List Str)
  | [], zs => some ([], zs)
  | .keep n :: p, zs => if n ≤ zs.length then (fitL p (zs.drop n)).map fun r => (zs.take n ++ r.1, r.2) else none
  | .drop ls :: p, zs => if ls.length ≤ zs.length ∧ zs.take ls.length = ls then fitL p (zs.drop ls.length) else none
  | .add ls :: p, zs => (fitL p zs).map fun r => (ls ++ r.1, r.2)
def fit (p : List Op) (zs : List Str) : Option (List Str) := match fitL p zs with
  | some (f, []) => some f
  | _ => none
/-! ### apply_patch -/
theorem ap_add (X P s6 s7 : PD.Loc) (R L : List D) (p : Int) (h : R.length + L.length ≤ 100000) : m_apply_patch_b1 [X, P, .own (.lst R), .dat (.int p), .dat (.str "add"), .dat (.tup L), s6, s7] = some (.ct [X, P, .own (.lst (R ++ L)), .dat (.int p), .dat (.str "add"), .dat (.tup L), s6, s7]) := by
  have e1 : mIf (mTest (mOp dEq (rd 4) (PD.ret (.str "add")))) (mSeq (mDrop (mMeth 2 mdExtend (mArg (rd 5) (PD.ret [])))) mCont) mNext [X, P, .own (.lst R), .dat (.int p), .dat (.str "add"), .dat (.tup L), s6, s7] = some (.ct [X, P, .own (.lst (R ++ L)), .dat (.int p), .dat (.str "add"), .dat (.tup L), s6, s7]) := by
    simp [mSeq, mE, mIf, mRet, mAsg, mDrop, mAug, mPar, mPar3, mNext, mBreak, mCont, setD, setCons, setTup, setNil, mOp, mUn, mCb, mArg, mTest, mTru, mAnd, mOr, mNot, mIfE, mChain, mTupD, mLstD, mLstO, mSetO, mPart, mSl, mAndV, mOrV, mNotV, bnd, PD.ret, lft, rd, rdD, asB, asI, mIxO, ixOwn, ownAt, ownSet, mSetAtO, mSetAt, mMeth, mLenO, mTruO, mCall, mCallP, locsP, runF, okEnd, isPin, clean, cleanL, noPin, pin0, mTup, mLst, mCbO, mOpO, asL, asO, mLc, inB, mFor, mForE, mForR, mRaiseE, mRaise, mTold, Own.d, dInt, dInt2, dSub, dDiv, dMod, dLt, dLe, dGt, dGe, dNeg, dIpAdd, dLen, dIntOf, dAbs, dMax2, dTuple, dList, dIsN, elems, dFmt, dStrI, List.getElem?_cons_zero, List.getElem?_cons_succ, List.set_cons_zero, List.set_cons_succ, List.length_cons, List.length_nil, List.cons_append, List.nil_append, List.map_cons, List.map_nil, List.replicate_succ, List.replicate_zero, List.take_succ_cons, List.take_zero, if_true, if_false, ite_true, ite_false, Bool.and_true, Bool.true_and, Bool.false_eq_true, reduceIte, Option.map_some, Option.bind_some, Nat.reduceAdd, Nat.reduceSub, Nat.reduceLT, Nat.reduceLeDiff, decide_true, decide_false, Bool.not_true, Bool.not_false, Bool.or_true, Bool.or_false, Bool.false_or, Bool.true_or, eqD_int, eqD_str, dEq, dNe, Option.map_none, atI_0, atI_1, atI_2, mulOk_a, mulOk_b, cap, restE, wipeE, dMul, dAdd, ixN30, ixN31, ixN32, List.range_succ_eq_map, mdExtend, h]
  unfold m_apply_patch_b1
  exact mSeq_ct e1
/-- a row that is kept or dropped -/
theorem ap_row (X P s6 s7 : PD.Loc) (R Z S : List D) (p n : Int) (w : Str) (v : D) (b : Bool) (hw : ¬ (w = "add")) (hX : X = .dat (.tup Z)) (hn : mIfE (mTest (mOp dEq (rd 4) (PD.ret (.str "keep")))) (rd 5) (mCb dLen (mArg (rd 5) (PD.ret []))) [X, P, .own (.lst R), .dat (.int p), .dat (.str w), .dat v, s6, s7] = some (.ok (.int n) [X, P, .own (.lst R), .dat (.int p), .dat (.str w), .dat v, s6, s7]))
    (hs : dSl (.tup Z) (some p) (some (p + n)) = some (.tup S))
    (hc : mOr (mTest (mOp dGt (mOp dAdd (rd 3) (rd 6)) (mCb dLen (mArg (rd 0) (PD.ret []))))) (mAnd (mTest (mOp dEq (rd 4) (PD.ret (.str "drop")))) (mTest (mOp dNe (rd 7) (mCb dTuple (mArg (rd 5) (PD.ret [])))))) [X, P, .own (.lst R), .dat (.int p), .dat (.str w), .dat v, .dat (.int n), .dat (.tup S)] = some (.ok b [X, P, .own (.lst R), .dat (.int p), .dat (.str w), .dat v, .dat (.int n), .dat (.tup S)]))
    (hp : ∃ k : Nat, p = k ∧ k < 1100) (hl : R.length + S.length ≤ 100000) :
    m_apply_patch_b1 [X, P, .own (.lst R), .dat (.int p), .dat (.str w), .dat v, s6, s7] = if b = true then some (.er "PatchError" [X, P, .own (.lst R), .dat (.int p), .dat (.str w), .dat v, .dat (.int n), .dat (.tup S)])
      else some (.nx [X, P, .own (.lst (R ++ if w = "keep" then S else [])), .dat (.int (p + n)), .dat (.str w), .dat v, .dat (.int n), .dat (.tup S)]) := by
  subst hX
  have c1 : mTest (mOp dEq (rd 4) (PD.ret (.str "add"))) [.dat (.tup Z), P, .own (.lst R), .dat (.int p), .dat (.str w), .dat v, s6, s7] = some (.ok false [.dat (.tup Z), P, .own (.lst R), .dat (.int p), .dat (.str w), .dat v, s6, s7]) := by
    simp [mSeq, mE, mIf, mRet, mAsg, mDrop, mAug, mPar, mPar3, mNext, mBreak, mCont, setD, setCons, setTup, setNil, mOp, mUn, mCb, mArg, mTest, mTru, mAnd, mOr, mNot, mIfE, mChain, mTupD, mLstD, mLstO, mSetO, mPart, mSl, mAndV, mOrV, mNotV, bnd, PD.ret, lft, rd, rdD, asB, asI, mIxO, ixOwn, ownAt, ownSet, mSetAtO, mSetAt, mMeth, mLenO, mTruO, mCall, mCallP, locsP, runF, okEnd, isPin, clean, cleanL, noPin, pin0, mTup, mLst, mCbO, mOpO, asL, asO, mLc, inB, mFor, mForE, mForR, mRaiseE, mRaise, mTold, Own.d, dInt, dInt2, dSub, dDiv, dMod, dLt, dLe, dGt, dGe, dNeg, dIpAdd, dLen, dIntOf, dAbs, dMax2, dTuple, dList, dIsN, elems, dFmt, dStrI, List.getElem?_cons_zero, List.getElem?_cons_succ, List.set_cons_zero, List.set_cons_succ, List.length_cons, List.length_nil, List.cons_append, List.nil_append, List.map_cons, List.map_nil, List.replicate_succ, List.replicate_zero, List.take_succ_cons, List.take_zero, if_true, if_false, ite_true, ite_false, Bool.and_true, Bool.true_and, Bool.false_eq_true, reduceIte, Option.map_some, Option.bind_some, Nat.reduceAdd, Nat.reduceSub, Nat.reduceLT, Nat.reduceLeDiff, decide_true, decide_false, Bool.not_true, Bool.not_false, Bool.or_true, Bool.or_false, Bool.false_or, Bool.true_or, eqD_int, eqD_str, dEq, dNe, Option.map_none, atI_0, atI_1, atI_2, mulOk_a, mulOk_b, cap, restE, wipeE, dMul, dAdd, ixN30, ixN31, ixN32, List.range_succ_eq_map, hw]
  have e1 : ∀ m : MS, mIf (mTest (mOp dEq (rd 4) (PD.ret (.str "add")))) m mNext [.dat (.tup Z), P, .own (.lst R), .dat (.int p), .dat (.str w), .dat v, s6, s7] = some (.nx [.dat (.tup Z), P, .own (.lst R), .dat (.int p), .dat (.str w), .dat v, s6, s7]) := fun m => by
    rw [mIf_f c1]; rfl
  have e2 : mAsg (mIfE (mTest (mOp dEq (rd 4) (PD.ret (.str "keep")))) (rd 5) (mCb dLen (mArg (rd 5) (PD.ret [])))) (setD 6) [.dat (.tup Z), P, .own (.lst R), .dat (.int p), .dat (.str w), .dat v, s6, s7] = some (.nx [.dat (.tup Z), P, .own (.lst R), .dat (.int p), .dat (.str w), .dat v, .dat (.int n), s7]) := by
    unfold mAsg
    rw [mE_ok hn]
    rfl
  have e3 : mAsg (mCb dTuple (mArg (mSl (rd 0) (mPart (rd 3)) (mPart (mOp dAdd (rd 3) (rd 6)))) (PD.ret []))) (setD 7) [.dat (.tup Z), P, .own (.lst R), .dat (.int p), .dat (.str w), .dat v, .dat (.int n), s7] = some (.nx [.dat (.tup Z), P, .own (.lst R), .dat (.int p), .dat (.str w), .dat v, .dat (.int n), .dat (.tup S)]) := by
    simp [mSeq, mE, mIf, mRet, mAsg, mDrop, mAug, mPar, mPar3, mNext, mBreak, mCont, setD, setCons, setTup, setNil, mOp, mUn, mCb, mArg, mTest, mTru, mAnd, mOr, mNot, mIfE, mChain, mTupD, mLstD, mLstO, mSetO, mPart, mSl, mAndV, mOrV, mNotV, bnd, PD.ret, lft, rd, rdD, asB, asI, mIxO, ixOwn, ownAt, ownSet, mSetAtO, mSetAt, mMeth, mLenO, mTruO, mCall, mCallP, locsP, runF, okEnd, isPin, clean, cleanL, noPin, pin0, mTup, mLst, mCbO, mOpO, asL, asO, mLc, inB, mFor, mForE, mForR, mRaiseE, mRaise, mTold, Own.d, dInt, dInt2, dSub, dDiv, dMod, dLt, dLe, dGt, dGe, dNeg, dIpAdd, dLen, dIntOf, dAbs, dMax2, dTuple, dList, dIsN, elems, dFmt, dStrI, List.getElem?_cons_zero, List.getElem?_cons_succ, List.set_cons_zero, List.set_cons_succ, List.length_cons, List.length_nil, List.cons_append, List.nil_append, List.map_cons, List.map_nil, List.replicate_succ, List.replicate_zero, List.take_succ_cons, List.take_zero, if_true, if_false, ite_true, ite_false, Bool.and_true, Bool.true_and, Bool.false_eq_true, reduceIte, Option.map_some, Option.bind_some, Nat.reduceAdd, Nat.reduceSub, Nat.reduceLT, Nat.reduceLeDiff, decide_true, decide_false, Bool.not_true, Bool.not_false, Bool.or_true, Bool.or_false, Bool.false_or, Bool.true_or, eqD_int, eqD_str, dEq, dNe, Option.map_none, atI_0, atI_1, atI_2, mulOk_a, mulOk_b, cap, restE, wipeE, dMul, dAdd, ixN30, ixN31, ixN32, List.range_succ_eq_map, hs]
  unfold m_apply_patch_b1
  rw [mSeq_nx (e1 _), mSeq_nx e2, mSeq_nx e3]
  cases b with
  | true =>
    obtain ⟨k, rfl, hk⟩ := hp
    have ej : joinM [(PD.ret (.str "a patch does not fit at line ")), (mUn dFmt (rd 3))] Str.empty [.dat (.tup Z), P, .own (.lst R), .dat (.int (k : Int)), .dat (.str w), .dat v, .dat (.int n), .dat (.tup S)] = some (.ok (.str (Str.empty ++ "a patch does not fit at line " ++ toString (k : Int))) [.dat (.tup Z), P, .own (.lst R), .dat (.int (k : Int)), .dat (.str w), .dat v, .dat (.int n), .dat (.tup S)]) := by
      have l0 : (Str.empty ++ ("a patch does not fit at line " : Str)).length ≤ 100 := by decide +kernel
      have l1 := numLen k hk
      have l2 : (Str.empty ++ ("a patch does not fit at line " : Str)).length ≤ cap := by unfold cap; omega
      have l3 : (Str.empty ++ ("a patch does not fit at line " : Str) ++ (toString (k : Int) : Str)).length ≤ cap := by
        rw [strLen_append]; unfold cap; omega
      have lg : ((k : Int)).natAbs.log2 < 1920 := by
        have : Nat.log2 k ≤ k := Nat.log2_le_self k
        show Nat.log2 k < 1920
        omega
      have f1 : dFmt (.int (k : Int)) = some (.str (toString (k : Int))) := if_pos lg
      simp only [joinM, mUn, bnd, PD.ret, lft, rd, List.getElem?_cons_succ, List.getElem?_cons_zero, f1, if_pos l2, if_pos l3]
    have e4 : mIf (mOr (mTest (mOp dGt (mOp dAdd (rd 3) (rd 6)) (mCb dLen (mArg (rd 0) (PD.ret []))))) (mAnd (mTest (mOp dEq (rd 4) (PD.ret (.str "drop")))) (mTest (mOp dNe (rd 7) (mCb dTuple (mArg (rd 5) (PD.ret []))))))) (mRaiseE "PatchError" (joinM [(PD.ret (.str "a patch does not fit at line ")), (mUn dFmt (rd 3))] Str.empty)) mNext [.dat (.tup Z), P, .own (.lst R), .dat (.int (k : Int)), .dat (.str w), .dat v, .dat (.int n), .dat (.tup S)] = some (.er "PatchError" [.dat (.tup Z), P, .own (.lst R), .dat (.int (k : Int)), .dat (.str w), .dat v, .dat (.int n), .dat (.tup S)]) := by
      rw [mIf_t hc]
      exact mRaiseE_ok ej
    rw [mSeq_er e4, if_pos rfl]
  | false =>
    have e4 : ∀ m : MS, mIf (mOr (mTest (mOp dGt (mOp dAdd (rd 3) (rd 6)) (mCb dLen (mArg (rd 0) (PD.ret []))))) (mAnd (mTest (mOp dEq (rd 4) (PD.ret (.str "drop")))) (mTest (mOp dNe (rd 7) (mCb dTuple (mArg (rd 5) (PD.ret []))))))) m mNext [.dat (.tup Z), P, .own (.lst R), .dat (.int p), .dat (.str w), .dat v, .dat (.int n), .dat (.tup S)] = some (.nx [.dat (.tup Z), P, .own (.lst R), .dat (.int p), .dat (.str w), .dat v, .dat (.int n), .dat (.tup S)]) := fun m => by
      rw [mIf_f hc]; rfl
    rw [mSeq_nx (e4 _), if_neg Bool.false_ne_true]
    by_cases c : w = "keep"
    · simp [mSeq, mE, mIf, mRet, mAsg, mDrop, mAug, mPar, mPar3, mNext, mBreak, mCont, setD, setCons, setTup, setNil, mOp, mUn, mCb, mArg, mTest, mTru, mAnd, mOr, mNot, mIfE, mChain, mTupD, mLstD, mLstO, mSetO, mPart, mSl, mAndV, mOrV, mNotV, bnd, PD.ret, lft, rd, rdD, asB, asI, mIxO, ixOwn, ownAt, ownSet, mSetAtO, mSetAt, mMeth, mLenO, mTruO, mCall, mCallP, locsP, runF, okEnd, isPin, clean, cleanL, noPin, pin0, mTup, mLst, mCbO, mOpO, asL, asO, mLc, inB, mFor, mForE, mForR, mRaiseE, mRaise, mTold, Own.d, dInt, dInt2, dSub, dDiv, dMod, dLt, dLe, dGt, dGe, dNeg, dIpAdd, dLen, dIntOf, dAbs, dMax2, dTuple, dList, dIsN, elems, dFmt, dStrI, List.getElem?_cons_zero, List.getElem?_cons_succ, List.set_cons_zero, List.set_cons_succ, List.length_cons, List.length_nil, List.cons_append, List.nil_append, List.map_cons, List.map_nil, List.replicate_succ, List.replicate_zero, List.take_succ_cons, List.take_zero, if_true, if_false, ite_true, ite_false, Bool.and_true, Bool.true_and, Bool.false_eq_true, reduceIte, Option.map_some, Option.bind_some, Nat.reduceAdd, Nat.reduceSub, Nat.reduceLT, Nat.reduceLeDiff, decide_true, decide_false, Bool.not_true, Bool.not_false, Bool.or_true, Bool.or_false, Bool.false_or, Bool.true_or, eqD_int, eqD_str, dEq, dNe, Option.map_none, atI_0, atI_1, atI_2, mulOk_a, mulOk_b, cap, restE, wipeE, dMul, dAdd, ixN30, ixN31, ixN32, List.range_succ_eq_map, mdExtend, c, hl]
    · simp [mSeq, mE, mIf, mRet, mAsg, mDrop, mAug, mPar, mPar3, mNext, mBreak, mCont, setD, setCons, setTup, setNil, mOp, mUn, mCb, mArg, mTest, mTru, mAnd, mOr, mNot, mIfE, mChain, mTupD, mLstD, mLstO, mSetO, mPart, mSl, mAndV, mOrV, mNotV, bnd, PD.ret, lft, rd, rdD, asB, asI, mIxO, ixOwn, ownAt, ownSet, mSetAtO, mSetAt, mMeth, mLenO, mTruO, mCall, mCallP, locsP, runF, okEnd, isPin, clean, cleanL, noPin, pin0, mTup, mLst, mCbO, mOpO, asL, asO, mLc, inB, mFor, mForE, mForR, mRaiseE, mRaise, mTold, Own.d, dInt, dInt2, dSub, dDiv, dMod, dLt, dLe, dGt, dGe, dNeg, dIpAdd, dLen, dIntOf, dAbs, dMax2, dTuple, dList, dIsN, elems, dFmt, dStrI, List.getElem?_cons_zero, List.getElem?_cons_succ, List.set_cons_zero, List.set_cons_succ, List.length_cons, List.length_nil, List.cons_append, List.nil_append, List.map_cons, List.map_nil, List.replicate_succ, List.replicate_zero, List.take_succ_cons, List.take_zero, if_true, if_false, ite_true, ite_false, Bool.and_true, Bool.true_and, Bool.false_eq_true, reduceIte, Option.map_some, Option.bind_some, Nat.reduceAdd, Nat.reduceSub, Nat.reduceLT, Nat.reduceLeDiff, decide_true, decide_false, Bool.not_true, Bool.not_false, Bool.or_true, Bool.or_false, Bool.false_or, Bool.true_or, eqD_int, eqD_str, dEq, dNe, Option.map_none, atI_0, atI_1, atI_2, mulOk_a, mulOk_b, cap, restE, wipeE, dMul, dAdd, ixN30, ixN31, ixN32, List.range_succ_eq_map, mdExtend, c]
end K02
end
section
set_option maxHeartbeats 0
namespace K02
open PySem L2 PD
theorem sl_any (zs : List Str) {p n : Nat} (h : p ≤ zs.length) : dSl (linesT zs) (some (p : Int)) (some ((p : Int) + (n : Int))) = some (linesT ((zs.drop p).take n)) := by
  unfold linesT
  show some (D.tup (cutD (zs.map D.str) (some (p : Int)) (some ((p : Int) + (n : Int))))) = _
  congr 2
  unfold cutD
  rw [show (p : Int) + (n : Int) = ((p + n : Nat) : Int) by omega, HT.sIx_nat, HT.sIx_nat, List.length_map, Nat.min_eq_left h, List.map_take, List.map_drop]
  by_cases c : p + n ≤ zs.length
  · rw [Nat.min_eq_left c, show p + n - p = n by omega]
  · rw [Nat.min_eq_right (by omega), List.take_of_length_le (by simp), List.take_of_length_le (by simp; omega)]
abbrev tg2 : D → PD.Env → Option PD.Env := setTup 2 (setCons (setD 4) (setCons (setD 5) setNil))
theorem tg2_ok (a0 a1 a2 a3 a4 a5 a6 a7 : PD.Loc) (x y : D) : tg2 (.tup [x, y]) [a0, a1, a2, a3, a4, a5, a6, a7] = some [a0, a1, a2, a3, .dat x, .dat y, a6, a7] := rfl
abbrev apC : MM Bool := mOr (mTest (mOp dGt (mOp dAdd (rd 3) (rd 6)) (mCb dLen (mArg (rd 0) (PD.ret []))))) (mAnd (mTest (mOp dEq (rd 4) (PD.ret (.str "drop")))) (mTest (mOp dNe (rd 7) (mCb dTuple (mArg (rd 5) (PD.ret []))))))
theorem apC_keep (P A : PD.Loc) (Z S : List D) (p n : Int) : apC [.dat (.tup Z), P, A, .dat (.int p), .dat (.str "keep"), .dat (.int n), .dat (.int n), .dat (.tup S)] = some (.ok (decide ((Z.length : Int) < p + n)) [.dat (.tup Z), P, A, .dat (.int p), .dat (.str "keep"), .dat (.int n), .dat (.int n), .dat (.tup S)]) := by
  by_cases c : (Z.length : Int) < p + n
  · simp [mSeq, mE, mIf, mRet, mAsg, mDrop, mAug, mPar, mPar3, mNext, mBreak, mCont, setD, setCons, setTup, setNil, mOp, mUn, mCb, mArg, mTest, mTru, mAnd, mOr, mNot, mIfE, mChain, mTupD, mLstD, mLstO, mSetO, mPart, mSl, mAndV, mOrV, mNotV, bnd, PD.ret, lft, rd, rdD, asB, asI, mIxO, ixOwn, ownAt, ownSet, mSetAtO, mSetAt, mMeth, mLenO, mTruO, mCall, mCallP, locsP, runF, okEnd, isPin, clean, cleanL, noPin, pin0, mTup, mLst, mCbO, mOpO, asL, asO, mLc, inB, mFor, mForE, mForR, mRaiseE, mRaise, mTold, Own.d, dInt, dInt2, dSub, dDiv, dMod, dLt, dLe, dGt, dGe, dNeg, dIpAdd, dLen, dIntOf, dAbs, dMax2, dTuple, dList, dIsN, elems, dFmt, dStrI, List.getElem?_cons_zero, List.getElem?_cons_succ, List.set_cons_zero, List.set_cons_succ, List.length_cons, List.length_nil, List.cons_append, List.nil_append, List.map_cons, List.map_nil, List.replicate_succ, List.replicate_zero, List.take_succ_cons, List.take_zero, if_true, if_false, ite_true, ite_false, Bool.and_true, Bool.true_and, Bool.false_eq_true, reduceIte, Option.map_some, Option.bind_some, Nat.reduceAdd, Nat.reduceSub, Nat.reduceLT, Nat.reduceLeDiff, decide_true, decide_false, Bool.not_true, Bool.not_false, Bool.or_true, Bool.or_false, Bool.false_or, Bool.true_or, eqD_int, eqD_str, dEq, dNe, Option.map_none, atI_0, atI_1, atI_2, mulOk_a, mulOk_b, cap, restE, wipeE, dMul, dAdd, ixN30, ixN31, ixN32, List.range_succ_eq_map, c]
  · simp [mSeq, mE, mIf, mRet, mAsg, mDrop, mAug, mPar, mPar3, mNext, mBreak, mCont, setD, setCons, setTup, setNil, mOp, mUn, mCb, mArg, mTest, mTru, mAnd, mOr, mNot, mIfE, mChain, mTupD, mLstD, mLstO, mSetO, mPart, mSl, mAndV, mOrV, mNotV, bnd, PD.ret, lft, rd, rdD, asB, asI, mIxO, ixOwn, ownAt, ownSet, mSetAtO, mSetAt, mMeth, mLenO, mTruO, mCall, mCallP, locsP, runF, okEnd, isPin, clean, cleanL, noPin, pin0, mTup, mLst, mCbO, mOpO, asL, asO, mLc, inB, mFor, mForE, mForR, mRaiseE, mRaise, mTold, Own.d, dInt, dInt2, dSub, dDiv, dMod, dLt, dLe, dGt, dGe, dNeg, dIpAdd, dLen, dIntOf, dAbs, dMax2, dTuple, dList, dIsN, elems, dFmt, dStrI, List.getElem?_cons_zero, List.getElem?_cons_succ, List.set_cons_zero, List.set_cons_succ, List.length_cons, List.length_nil, List.cons_append, List.nil_append, List.map_cons, List.map_nil, List.replicate_succ, List.replicate_zero, List.take_succ_cons, List.take_zero, if_true, if_false, ite_true, ite_false, Bool.and_true, Bool.true_and, Bool.false_eq_true, reduceIte, Option.map_some, Option.bind_some, Nat.reduceAdd, Nat.reduceSub, Nat.reduceLT, Nat.reduceLeDiff, decide_true, decide_false, Bool.not_true, Bool.not_false, Bool.or_true, Bool.or_false, Bool.false_or, Bool.true_or, eqD_int, eqD_str, dEq, dNe, Option.map_none, atI_0, atI_1, atI_2, mulOk_a, mulOk_b, cap, restE, wipeE, dMul, dAdd, ixN30, ixN31, ixN32, List.range_succ_eq_map, c, s_kd]
theorem apC_drop (P A : PD.Loc) (Z S L : List D) (p n : Int) (b : Bool) (he : eqD (.tup S) (.tup L) = some b) : apC [.dat (.tup Z), P, A, .dat (.int p), .dat (.str "drop"), .dat (.tup L), .dat (.int n), .dat (.tup S)] = some (.ok (decide ((Z.length : Int) < p + n) || !b) [.dat (.tup Z), P, A, .dat (.int p), .dat (.str "drop"), .dat (.tup L), .dat (.int n), .dat (.tup S)]) := by
  by_cases c : (Z.length : Int) < p + n
  · simp [mSeq, mE, mIf, mRet, mAsg, mDrop, mAug, mPar, mPar3, mNext, mBreak, mCont, setD, setCons, setTup, setNil, mOp, mUn, mCb, mArg, mTest, mTru, mAnd, mOr, mNot, mIfE, mChain, mTupD, mLstD, mLstO, mSetO, mPart, mSl, mAndV, mOrV, mNotV, bnd, PD.ret, lft, rd, rdD, asB, asI, mIxO, ixOwn, ownAt, ownSet, mSetAtO, mSetAt, mMeth, mLenO, mTruO, mCall, mCallP, locsP, runF, okEnd, isPin, clean, cleanL, noPin, pin0, mTup, mLst, mCbO, mOpO, asL, asO, mLc, inB, mFor, mForE, mForR, mRaiseE, mRaise, mTold, Own.d, dInt, dInt2, dSub, dDiv, dMod, dLt, dLe, dGt, dGe, dNeg, dIpAdd, dLen, dIntOf, dAbs, dMax2, dTuple, dList, dIsN, elems, dFmt, dStrI, List.getElem?_cons_zero, List.getElem?_cons_succ, List.set_cons_zero, List.set_cons_succ, List.length_cons, List.length_nil, List.cons_append, List.nil_append, List.map_cons, List.map_nil, List.replicate_succ, List.replicate_zero, List.take_succ_cons, List.take_zero, if_true, if_false, ite_true, ite_false, Bool.and_true, Bool.true_and, Bool.false_eq_true, reduceIte, Option.map_some, Option.bind_some, Nat.reduceAdd, Nat.reduceSub, Nat.reduceLT, Nat.reduceLeDiff, decide_true, decide_false, Bool.not_true, Bool.not_false, Bool.or_true, Bool.or_false, Bool.false_or, Bool.true_or, eqD_int, eqD_str, dEq, dNe, Option.map_none, atI_0, atI_1, atI_2, mulOk_a, mulOk_b, cap, restE, wipeE, dMul, dAdd, ixN30, ixN31, ixN32, List.range_succ_eq_map, c]
  · simp [mSeq, mE, mIf, mRet, mAsg, mDrop, mAug, mPar, mPar3, mNext, mBreak, mCont, setD, setCons, setTup, setNil, mOp, mUn, mCb, mArg, mTest, mTru, mAnd, mOr, mNot, mIfE, mChain, mTupD, mLstD, mLstO, mSetO, mPart, mSl, mAndV, mOrV, mNotV, bnd, PD.ret, lft, rd, rdD, asB, asI, mIxO, ixOwn, ownAt, ownSet, mSetAtO, mSetAt, mMeth, mLenO, mTruO, mCall, mCallP, locsP, runF, okEnd, isPin, clean, cleanL, noPin, pin0, mTup, mLst, mCbO, mOpO, asL, asO, mLc, inB, mFor, mForE, mForR, mRaiseE, mRaise, mTold, Own.d, dInt, dInt2, dSub, dDiv, dMod, dLt, dLe, dGt, dGe, dNeg, dIpAdd, dLen, dIntOf, dAbs, dMax2, dTuple, dList, dIsN, elems, dFmt, dStrI, List.getElem?_cons_zero, List.getElem?_cons_succ, List.set_cons_zero, List.set_cons_succ, List.length_cons, List.length_nil, List.cons_append, List.nil_append, List.map_cons, List.map_nil, List.replicate_succ, List.replicate_zero, List.take_succ_cons, List.take_zero, if_true, if_false, ite_true, ite_false, Bool.and_true, Bool.true_and, Bool.false_eq_true, reduceIte, Option.map_some, Option.bind_some, Nat.reduceAdd, Nat.reduceSub, Nat.reduceLT, Nat.reduceLeDiff, decide_true, decide_false, Bool.not_true, Bool.not_false, Bool.or_true, Bool.or_false, Bool.false_or, Bool.true_or, eqD_int, eqD_str, dEq, dNe, Option.map_none, atI_0, atI_1, atI_2, mulOk_a, mulOk_b, cap, restE, wipeE, dMul, dAdd, ixN30, ixN31, ixN32, List.range_succ_eq_map, c, he]
def wt : List Op → Nat
  | [] => 0
  | .add ls :: p => ls.length + wt p
  | _ :: p => wt p
theorem ap_keep (zs : List Str) (P : PD.Loc) (R : List Str) (pl n : Nat) (s6 s7 : PD.Loc) (h : pl ≤ zs.length) (hz : zs.length ≤ 1000) (hl : R.length + n ≤ 99000) :
    m_apply_patch_b1 [.dat (linesT zs), P, .own (.lst (R.map .str)), .dat (.int pl), .dat (.str "keep"), .dat (.int n), s6, s7] = if zs.length < pl + n then some (.er "PatchError" [.dat (linesT zs), P, .own (.lst (R.map .str)), .dat (.int pl), .dat (.str "keep"), .dat (.int n), .dat (.int n), .dat (linesT ((zs.drop pl).take n))])
      else some (.nx [.dat (linesT zs), P, .own (.lst ((R ++ (zs.drop pl).take n).map .str)), .dat (.int ((pl + n : Nat) : Int)), .dat (.str "keep"), .dat (.int n), .dat (.int n), .dat (linesT ((zs.drop pl).take n))]) := by
  have z := ap_row (.dat (linesT zs)) P s6 s7 (R.map .str) (zs.map .str) (((zs.drop pl).take n).map .str) pl n "keep" (.int n) _ s_ka rfl (by simp [mSeq, mE, mIf, mRet, mAsg, mDrop, mAug, mPar, mPar3, mNext, mBreak, mCont, setD, setCons, setTup, setNil, mOp, mUn, mCb, mArg, mTest, mTru, mAnd, mOr, mNot, mIfE, mChain, mTupD, mLstD, mLstO, mSetO, mPart, mSl, mAndV, mOrV, mNotV, bnd, PD.ret, lft, rd, rdD, asB, asI, mIxO, ixOwn, ownAt, ownSet, mSetAtO, mSetAt, mMeth, mLenO, mTruO, mCall, mCallP, locsP, runF, okEnd, isPin, clean, cleanL, noPin, pin0, mTup, mLst, mCbO, mOpO, asL, asO, mLc, inB, mFor, mForE, mForR, mRaiseE, mRaise, mTold, Own.d, dInt, dInt2, dSub, dDiv, dMod, dLt, dLe, dGt, dGe, dNeg, dIpAdd, dLen, dIntOf, dAbs, dMax2, dTuple, dList, dIsN, elems, dFmt, dStrI, List.getElem?_cons_zero, List.getElem?_cons_succ, List.set_cons_zero, List.set_cons_succ, List.length_cons, List.length_nil, List.cons_append, List.nil_append, List.map_cons, List.map_nil, List.replicate_succ, List.replicate_zero, List.take_succ_cons, List.take_zero, if_true, if_false, ite_true, ite_false, Bool.and_true, Bool.true_and, Bool.false_eq_true, reduceIte, Option.map_some, Option.bind_some, Nat.reduceAdd, Nat.reduceSub, Nat.reduceLT, Nat.reduceLeDiff, decide_true, decide_false, Bool.not_true, Bool.not_false, Bool.or_true, Bool.or_false, Bool.false_or, Bool.true_or, eqD_int, eqD_str, dEq, dNe, Option.map_none, atI_0, atI_1, atI_2, mulOk_a, mulOk_b, cap, restE, wipeE, dMul, dAdd, ixN30, ixN31, ixN32, List.range_succ_eq_map]) (sl_any zs h) (apC_keep _ _ _ _ _ _) ⟨pl, rfl, by omega⟩ (by simp; omega)
  rw [List.length_map] at z
  refine z.trans ?_
  by_cases c : zs.length < pl + n
  · rw [if_pos c, if_pos (by rw [decide_eq_true_eq]; omega)]
    rfl
  · rw [if_neg c, if_neg (by rw [decide_eq_true_eq]; omega), if_pos rfl, List.map_append]
    rfl
theorem ap_drop (zs ls : List Str) (P : PD.Loc) (R : List Str) (pl : Nat) (s6 s7 : PD.Loc) (h : pl ≤ zs.length) (hz : zs.length ≤ 1000) (hl : R.length + ls.length ≤ 99000) :
    m_apply_patch_b1 [.dat (linesT zs), P, .own (.lst (R.map .str)), .dat (.int pl), .dat (.str "drop"), .dat (linesT ls), s6, s7] = if ¬ (pl + ls.length ≤ zs.length ∧ (zs.drop pl).take ls.length = ls) then some (.er "PatchError" [.dat (linesT zs), P, .own (.lst (R.map .str)), .dat (.int pl), .dat (.str "drop"), .dat (linesT ls), .dat (.int ls.length), .dat (linesT ((zs.drop pl).take ls.length))])
      else some (.nx [.dat (linesT zs), P, .own (.lst (R.map .str)), .dat (.int ((pl + ls.length : Nat) : Int)), .dat (.str "drop"), .dat (linesT ls), .dat (.int ls.length), .dat (linesT ((zs.drop pl).take ls.length))]) := by
  have he := eqD_lines ((zs.drop pl).take ls.length) ls
  have z := ap_row (.dat (linesT zs)) P s6 s7 (R.map .str) (zs.map .str) (((zs.drop pl).take ls.length).map .str) pl ls.length "drop" (linesT ls) _ s_da rfl (by unfold linesT; simp [mSeq, mE, mIf, mRet, mAsg, mDrop, mAug, mPar, mPar3, mNext, mBreak, mCont, setD, setCons, setTup, setNil, mOp, mUn, mCb, mArg, mTest, mTru, mAnd, mOr, mNot, mIfE, mChain, mTupD, mLstD, mLstO, mSetO, mPart, mSl, mAndV, mOrV, mNotV, bnd, PD.ret, lft, rd, rdD, asB, asI, mIxO, ixOwn, ownAt, ownSet, mSetAtO, mSetAt, mMeth, mLenO, mTruO, mCall, mCallP, locsP, runF, okEnd, isPin, clean, cleanL, noPin, pin0, mTup, mLst, mCbO, mOpO, asL, asO, mLc, inB, mFor, mForE, mForR, mRaiseE, mRaise, mTold, Own.d, dInt, dInt2, dSub, dDiv, dMod, dLt, dLe, dGt, dGe, dNeg, dIpAdd, dLen, dIntOf, dAbs, dMax2, dTuple, dList, dIsN, elems, dFmt, dStrI, List.getElem?_cons_zero, List.getElem?_cons_succ, List.set_cons_zero, List.set_cons_succ, List.length_cons, List.length_nil, List.cons_append, List.nil_append, List.map_cons, List.map_nil, List.replicate_succ, List.replicate_zero, List.take_succ_cons, List.take_zero, if_true, if_false, ite_true, ite_false, Bool.and_true, Bool.true_and, Bool.false_eq_true, reduceIte, Option.map_some, Option.bind_some, Nat.reduceAdd, Nat.reduceSub, Nat.reduceLT, Nat.reduceLeDiff, decide_true, decide_false, Bool.not_true, Bool.not_false, Bool.or_true, Bool.or_false, Bool.false_or, Bool.true_or, eqD_int, eqD_str, dEq, dNe, Option.map_none, atI_0, atI_1, atI_2, mulOk_a, mulOk_b, cap, restE, wipeE, dMul, dAdd, ixN30, ixN31, ixN32, List.range_succ_eq_map, s_dk]) (sl_any zs h) (apC_drop _ _ _ _ _ _ _ _ he) ⟨pl, rfl, by omega⟩ (by simp; omega)
  rw [List.length_map, if_neg s_dk, List.append_nil] at z
  refine z.trans ?_
  by_cases c : pl + ls.length ≤ zs.length ∧ (zs.drop pl).take ls.length = ls
  · rw [if_neg (c := ¬ (pl + ls.length ≤ zs.length ∧ (zs.drop pl).take ls.length = ls)) (fun k => k c), if_neg (by simp; exact ⟨by omega, c.2⟩)]
    rfl
  · rw [if_pos c, if_pos (by
      simp
      by_cases c1 : zs.length < pl + ls.length
      · exact .inl (by omega)
      · exact .inr fun k => c ⟨by omega, k⟩)]
    rfl
theorem ap_loop (zs : List Str) (Pd : D) (hz : zs.length ≤ 1000) : ∀ (p : List Op) (pl : Nat) (R : List Str) (s4 s5 s6 s7 : PD.Loc), pl ≤ zs.length → R.length + wt p + (zs.length - pl) ≤ 50000 → (∀ o ∈ p, ∀ ls, o = .drop ls → ls.length ≤ 1000) → (∀ o ∈ p, ∀ n, o = .keep n → n ≤ 1000) →
    (∀ f rest, fitL p (zs.drop pl) = some (f, rest) → rest.length ≤ zs.length ∧ ∃ u4 u5 u6 u7, loopL tg2 m_apply_patch_b1 (p.map opD) [.dat (linesT zs), .dat Pd, .own (.lst (R.map .str)), .dat (.int pl), s4, s5, s6, s7] = some (.nx [.dat (linesT zs), .dat Pd, .own (.lst ((R ++ f).map .str)), .dat (.int ((zs.length - rest.length : Nat) : Int)), u4, u5, u6, u7])) ∧
    (fitL p (zs.drop pl) = none → ∃ ρ, okEnd noPin 2 ρ = true ∧ loopL tg2 m_apply_patch_b1 (p.map opD) [.dat (linesT zs), .dat Pd, .own (.lst (R.map .str)), .dat (.int pl), s4, s5, s6, s7] = some (.er "PatchError" ρ))
  | [], pl, R, s4, s5, s6, s7, h, _, _, _ => by
    constructor
    · intro f rest e
      cases e
      refine ⟨by simp, s4, s5, s6, s7, ?_⟩
      rw [List.map_nil, loopL_nil, List.append_nil, List.length_drop, show zs.length - (zs.length - pl) = pl by omega]
    · intro e; cases e
  | .add ls :: p, pl, R, s4, s5, s6, s7, h, hl, hd, hk => by
    simp only [wt] at hl
    have st := ap_add (.dat (linesT zs)) (.dat Pd) s6 s7 (R.map .str) (ls.map .str) pl (by simp; omega)
    have ih := ap_loop zs Pd hz p pl (R ++ ls) (.dat (.str "add")) (.dat (linesT ls)) s6 s7 h (by rw [List.length_append]; omega) (fun o ho => hd o (List.mem_cons_of_mem _ ho)) (fun o ho => hk o (List.mem_cons_of_mem _ ho))
    have go : loopL tg2 m_apply_patch_b1 ((Op.add ls :: p).map opD) [.dat (linesT zs), .dat Pd, .own (.lst (R.map .str)), .dat (.int pl), s4, s5, s6, s7] = loopL tg2 m_apply_patch_b1 (p.map opD) [.dat (linesT zs), .dat Pd, .own (.lst ((R ++ ls).map .str)), .dat (.int pl), .dat (.str "add"), .dat (linesT ls), s6, s7] := by
      rw [List.map_cons, List.map_append]
      exact loopL_ct (tg2_ok _ _ _ _ _ _ _ _ _ _) st
    constructor
    · intro f rest e
      simp only [fitL] at e
      obtain ⟨⟨f', r'⟩, e1, e2⟩ := Option.map_eq_some_iff.mp e
      cases e2
      obtain ⟨k1, u4, u5, u6, u7, k2⟩ := ih.1 f' r' e1
      exact ⟨k1, u4, u5, u6, u7, by rw [go, k2, List.append_assoc]⟩
    · intro e
      simp only [fitL] at e
      obtain ⟨ρ, k1, k2⟩ := ih.2 (Option.map_eq_none_iff.mp e)
      exact ⟨ρ, k1, go.trans k2⟩
  | .keep n :: p, pl, R, s4, s5, s6, s7, h, hl, hd, hk => by
    simp only [wt] at hl
    have hn := hk _ List.mem_cons_self n rfl
    have st := ap_keep zs (.dat Pd) R pl n s6 s7 h hz (by omega)
    by_cases c : zs.length < pl + n
    · rw [if_pos c] at st
      have e0 : fitL (.keep n :: p) (zs.drop pl) = none := by
        simp only [fitL]
        rw [if_neg (by rw [List.length_drop]; omega)]
      constructor
      · intro f rest e; rw [e0] at e; cases e
      · intro _
        exact ⟨_, rfl, by rw [List.map_cons]; exact loopL_er (tg2_ok _ _ _ _ _ _ _ _ _ _) st⟩
    · rw [if_neg c] at st
      have len : ((zs.drop pl).take n).length = n := by simp; omega
      have ih := ap_loop zs Pd hz p (pl + n) (R ++ (zs.drop pl).take n) (.dat (.str "keep")) (.dat (.int n)) (.dat (.int n)) (.dat (linesT ((zs.drop pl).take n))) (by omega) (by rw [List.length_append, len]; omega) (fun o ho => hd o (List.mem_cons_of_mem _ ho)) (fun o ho => hk o (List.mem_cons_of_mem _ ho))
      have e0 : fitL (.keep n :: p) (zs.drop pl) = (fitL p (zs.drop (pl + n))).map fun r => ((zs.drop pl).take n ++ r.1, r.2) := by
        simp only [fitL]
        rw [if_pos (by rw [List.length_drop]; omega), List.drop_drop]
      have go := loopL_nx (ds := p.map opD) (tg2_ok (.dat (linesT zs)) (.dat Pd) (.own (.lst (R.map .str))) (.dat (.int pl)) s4 s5 s6 s7 _ _) st
      constructor
      · intro f rest e
        rw [e0] at e
        obtain ⟨⟨f', r'⟩, e1, e2⟩ := Option.map_eq_some_iff.mp e
        cases e2
        obtain ⟨k1, u4, u5, u6, u7, k2⟩ := ih.1 f' r' e1
        exact ⟨k1, u4, u5, u6, u7, by rw [List.append_assoc] at k2; exact go.trans k2⟩
      · intro e
        rw [e0] at e
        obtain ⟨ρ, k1, k2⟩ := ih.2 (Option.map_eq_none_iff.mp e)
        exact ⟨ρ, k1, go.trans k2⟩
  | .drop ls :: p, pl, R, s4, s5, s6, s7, h, hl, hd, hk => by
    simp only [wt] at hl
    have hn := hd _ List.mem_cons_self ls rfl
    have st := ap_drop zs ls (.dat Pd) R pl s6 s7 h hz (by omega)
    by_cases c : pl + ls.length ≤ zs.length ∧ (zs.drop pl).take ls.length = ls
    · rw [if_neg (fun k => k c)] at st
      have ih := ap_loop zs Pd hz p (pl + ls.length) R (.dat (.str "drop")) (.dat (linesT ls)) (.dat (.int ls.length)) (.dat (linesT ((zs.drop pl).take ls.length))) c.1 (by omega) (fun o ho => hd o (List.mem_cons_of_mem _ ho)) (fun o ho => hk o (List.mem_cons_of_mem _ ho))
      have e0 : fitL (.drop ls :: p) (zs.drop pl) = fitL p (zs.drop (pl + ls.length)) := by
        simp only [fitL]
        rw [if_pos ⟨by rw [List.length_drop]; omega, c.2⟩, List.drop_drop]
      have go := loopL_nx (ds := p.map opD) (tg2_ok (.dat (linesT zs)) (.dat Pd) (.own (.lst (R.map .str))) (.dat (.int pl)) s4 s5 s6 s7 _ _) st
      constructor
      · intro f rest e
        rw [e0] at e
        obtain ⟨k1, u4, u5, u6, u7, k2⟩ := ih.1 f rest e
        exact ⟨k1, u4, u5, u6, u7, go.trans k2⟩
      · intro e
        rw [e0] at e
        obtain ⟨ρ, k1, k2⟩ := ih.2 e
        exact ⟨ρ, k1, go.trans k2⟩
    · rw [if_pos c] at st
      have e0 : fitL (.drop ls :: p) (zs.drop pl) = none := by
        simp only [fitL]
        rw [if_neg (fun k => c ⟨by have := k.1; rw [List.length_drop] at this; omega, k.2⟩)]
      constructor
      · intro f rest e; rw [e0] at e; cases e
      · intro _
        exact ⟨_, rfl, by rw [List.map_cons]; exact loopL_er (tg2_ok _ _ _ _ _ _ _ _ _ _) st⟩
end K02
end
section
set_option maxHeartbeats 0
namespace K02
open PySem L2 PD
structure Sized (zs : List Str) (p : List Op) : Prop where
  z : zs.length ≤ 1000
  w : wt p ≤ 10000
  d : ∀ o ∈ p, ∀ ls, o = .drop ls → ls.length ≤ 1000
  k : ∀ o ∈ p, ∀ n, o = .keep n → n ≤ 1000
theorem ne_len (a b : Nat) : eqD (.int a) (.int b) = some (decide (a = b)) := by
  rw [eqD_int]
  congr 1
  rw [decide_eq_decide]
  omega
theorem ap_end (zs : List Str) (P A u4 u5 u6 u7 : PD.Loc) (k : Nat) : mTest (mOp dNe (rd 3) (mCb dLen (mArg (rd 0) (PD.ret [])))) [.dat (linesT zs), P, A, .dat (.int k), u4, u5, u6, u7] = some (.ok (!decide (k = zs.length)) [.dat (linesT zs), P, A, .dat (.int k), u4, u5, u6, u7]) := by
  have h := ne_len k zs.length
  rw [eqD_int] at h
  unfold linesT
  simp only [mSeq, mE, mIf, mRet, mAsg, mDrop, mAug, mPar, mPar3, mNext, mBreak, mCont, setD, setCons, setTup, setNil, mOp, mUn, mCb, mArg, mTest, mTru, mAnd, mOr, mNot, mIfE, mChain, mTupD, mLstD, mLstO, mSetO, mPart, mSl, mAndV, mOrV, mNotV, bnd, PD.ret, lft, rd, rdD, asB, asI, mIxO, ixOwn, ownAt, ownSet, mSetAtO, mSetAt, mMeth, mLenO, mTruO, mCall, mCallP, locsP, runF, okEnd, isPin, clean, cleanL, noPin, pin0, mTup, mLst, mCbO, mOpO, asL, asO, mLc, inB, mFor, mForE, mForR, mRaiseE, mRaise, mTold, Own.d, dInt, dInt2, dSub, dDiv, dMod, dLt, dLe, dGt, dGe, dNeg, dIpAdd, dLen, dIntOf, dAbs, dMax2, dTuple, dList, dIsN, elems, dFmt, dStrI, List.getElem?_cons_zero, List.getElem?_cons_succ, List.set_cons_zero, List.set_cons_succ, List.length_cons, List.length_nil, List.cons_append, List.nil_append, List.map_cons, List.map_nil, List.replicate_succ, List.replicate_zero, List.take_succ_cons, List.take_zero, if_true, if_false, ite_true, ite_false, Bool.and_true, Bool.true_and, Bool.false_eq_true, reduceIte, Option.map_some, Option.bind_some, Nat.reduceAdd, Nat.reduceSub, Nat.reduceLT, Nat.reduceLeDiff, decide_true, decide_false, Bool.not_true, Bool.not_false, Bool.or_true, Bool.or_false, Bool.false_or, Bool.true_or, eqD_int, eqD_str, dEq, dNe, Option.map_none, atI_0, atI_1, atI_2, mulOk_a, mulOk_b, cap, restE, wipeE, dMul, dAdd, ixN30, ixN31, ixN32, List.range_succ_eq_map, List.length_map]
  rw [Option.some.inj h]
theorem apply_ok (zs : List Str) (p : List Op) (S : Sized zs p) :
    (∀ r, fit p zs = some r → F_apply_patch [.dat (linesT zs), .dat (patchD p)] = some (.ok (linesT r) [.non, .non])) ∧ (fit p zs = none → ∃ e, F_apply_patch [.dat (linesT zs), .dat (patchD p)] = some (.er "PatchError" e)) := by
  have L := ap_loop zs (patchD p) S.z p 0 [] .non .non .non .non (by omega) (by have := S.w; have := S.z; simp; omega) S.d S.k
  rw [List.drop_zero] at L
  have e0 : mSetO 2 (mLstO (PD.ret [])) [.dat (linesT zs), .dat (patchD p), .non, .non, .non, .non, .non, .non] = some (.nx [.dat (linesT zs), .dat (patchD p), .own (.lst (([] : List Str).map .str)), .non, .non, .non, .non, .non]) := by
    simp [mSeq, mE, mIf, mRet, mAsg, mDrop, mAug, mPar, mPar3, mNext, mBreak, mCont, setD, setCons, setTup, setNil, mOp, mUn, mCb, mArg, mTest, mTru, mAnd, mOr, mNot, mIfE, mChain, mTupD, mLstD, mLstO, mSetO, mPart, mSl, mAndV, mOrV, mNotV, bnd, PD.ret, lft, rd, rdD, asB, asI, mIxO, ixOwn, ownAt, ownSet, mSetAtO, mSetAt, mMeth, mLenO, mTruO, mCall, mCallP, locsP, runF, okEnd, isPin, clean, cleanL, noPin, pin0, mTup, mLst, mCbO, mOpO, asL, asO, mLc, inB, mFor, mForE, mForR, mRaiseE, mRaise, mTold, Own.d, dInt, dInt2, dSub, dDiv, dMod, dLt, dLe, dGt, dGe, dNeg, dIpAdd, dLen, dIntOf, dAbs, dMax2, dTuple, dList, dIsN, elems, dFmt, dStrI, List.getElem?_cons_zero, List.getElem?_cons_succ, List.set_cons_zero, List.set_cons_succ, List.length_cons, List.length_nil, List.cons_append, List.nil_append, List.map_cons, List.map_nil, List.replicate_succ, List.replicate_zero, List.take_succ_cons, List.take_zero, if_true, if_false, ite_true, ite_false, Bool.and_true, Bool.true_and, Bool.false_eq_true, reduceIte, Option.map_some, Option.bind_some, Nat.reduceAdd, Nat.reduceSub, Nat.reduceLT, Nat.reduceLeDiff, decide_true, decide_false, Bool.not_true, Bool.not_false, Bool.or_true, Bool.or_false, Bool.false_or, Bool.true_or, eqD_int, eqD_str, dEq, dNe, Option.map_none, atI_0, atI_1, atI_2, mulOk_a, mulOk_b, cap, restE, wipeE, dMul, dAdd, ixN30, ixN31, ixN32, List.range_succ_eq_map]
  have e1 : mAsg (PD.ret (.int 0)) (setD 3) [.dat (linesT zs), .dat (patchD p), .own (.lst (([] : List Str).map .str)), .non, .non, .non, .non, .non] = some (.nx [.dat (linesT zs), .dat (patchD p), .own (.lst (([] : List Str).map .str)), .dat (.int ((0 : Nat) : Int)), .non, .non, .non, .non]) := rfl
  have e2 : mFor (rd 1) tg2 m_apply_patch_b1 [.dat (linesT zs), .dat (patchD p), .own (.lst (([] : List Str).map .str)), .dat (.int ((0 : Nat) : Int)), .non, .non, .non, .non] = loopL tg2 m_apply_patch_b1 (p.map opD) [.dat (linesT zs), .dat (patchD p), .own (.lst (([] : List Str).map .str)), .dat (.int ((0 : Nat) : Int)), .non, .non, .non, .non] := rfl
  have fin2 : ∀ f rest, fitL p zs = some (f, rest) → ∃ u4 u5 u6 u7, m_apply_patch [.dat (linesT zs), .dat (patchD p), .non, .non, .non, .non, .non, .non] = if rest = [] then some (.rt (linesT f) [.dat (linesT zs), .dat (patchD p), .dat (.lst (f.map .str)), .dat (.int ((zs.length - rest.length : Nat) : Int)), u4, u5, u6, u7]) else some (.er "PatchError" [.dat (linesT zs), .dat (patchD p), .own (.lst (f.map .str)), .dat (.int ((zs.length - rest.length : Nat) : Int)), u4, u5, u6, u7]) := by
    intro f rest e
    obtain ⟨k1, u4, u5, u6, u7, k2⟩ := L.1 f rest e
    refine ⟨u4, u5, u6, u7, ?_⟩
    rw [List.nil_append] at k2
    unfold m_apply_patch
    rw [mSeq_nx e0, mSeq_nx e1, mSeq_nx (e2.trans k2)]
    have t := ap_end zs (.dat (patchD p)) (.own (.lst (f.map .str))) u4 u5 u6 u7 (zs.length - rest.length)
    by_cases c : rest = []
    · rw [if_pos c]
      have e3 : ∀ m : MS, mIf (mTest (mOp dNe (rd 3) (mCb dLen (mArg (rd 0) (PD.ret []))))) m mNext [.dat (linesT zs), .dat (patchD p), .own (.lst (f.map .str)), .dat (.int ((zs.length - rest.length : Nat) : Int)), u4, u5, u6, u7] = some (.nx [.dat (linesT zs), .dat (patchD p), .own (.lst (f.map .str)), .dat (.int ((zs.length - rest.length : Nat) : Int)), u4, u5, u6, u7]) := fun m => by
        rw [decide_eq_true (by rw [c]; simp)] at t
        rw [mIf_f t]; rfl
      rw [mSeq_nx (e3 _)]
      rfl
    · rw [if_neg c]
      have hl : 0 < rest.length := List.length_pos_iff.mpr c
      have e3 : mIf (mTest (mOp dNe (rd 3) (mCb dLen (mArg (rd 0) (PD.ret []))))) (mRaiseE "PatchError" (PD.ret (.str "a patch ends too early"))) mNext [.dat (linesT zs), .dat (patchD p), .own (.lst (f.map .str)), .dat (.int ((zs.length - rest.length : Nat) : Int)), u4, u5, u6, u7] = some (.er "PatchError" [.dat (linesT zs), .dat (patchD p), .own (.lst (f.map .str)), .dat (.int ((zs.length - rest.length : Nat) : Int)), u4, u5, u6, u7]) := by
        rw [decide_eq_false (by omega)] at t
        rw [mIf_t t]; rfl
      rw [mSeq_er e3]
  constructor
  · intro r e
    cases e3 : fitL p zs with
    | none => unfold fit at e; rw [e3] at e; cases e
    | some fr =>
      obtain ⟨f, rest⟩ := fr
      cases rest with
      | cons x xs => unfold fit at e; rw [e3] at e; cases e
      | nil =>
        unfold fit at e
        rw [e3] at e
        cases e
        obtain ⟨u4, u5, u6, u7, k⟩ := fin2 _ [] e3
        rw [if_pos rfl] at k
        exact runF_rt (n := 2) (N := 8) (ρ0 := [.dat (linesT zs), .dat (patchD p), .non, .non, .non, .non, .non, .non]) rfl k rfl
  · intro e
    cases e3 : fitL p zs with
    | none =>
      obtain ⟨ρ, k1, k2⟩ := L.2 e3
      have k : m_apply_patch [.dat (linesT zs), .dat (patchD p), .non, .non, .non, .non, .non, .non] = some (.er "PatchError" ρ) := by
        unfold m_apply_patch
        rw [mSeq_nx e0, mSeq_nx e1]
        exact mSeq_er (e2.trans k2)
      exact ⟨_, runF_er (n := 2) (N := 8) (ρ0 := [.dat (linesT zs), .dat (patchD p), .non, .non, .non, .non, .non, .non]) rfl k k1⟩
    | some fr =>
      obtain ⟨f, rest⟩ := fr
      obtain ⟨u4, u5, u6, u7, k⟩ := fin2 f rest e3
      have c : rest ≠ [] := fun z => by
        unfold fit at e
        rw [e3, z] at e
        cases e
      rw [if_neg c] at k
      exact ⟨_, runF_er (n := 2) (N := 8) (ρ0 := [.dat (linesT zs), .dat (patchD p), .non, .non, .non, .non, .non, .non]) rfl k rfl⟩
theorem fitL_leads {p : List Op} {xs ys : List Str} (h : Leads p xs ys) : fitL p xs = some (ys, []) := by
  induction h with
  | nil => rfl
  | keep ks _ _ ih =>
    simp only [fitL]
    rw [if_pos (by simp), List.drop_left, ih, List.take_left]
    rfl
  | drop ls _ _ ih =>
    simp only [fitL]
    rw [if_pos ⟨by simp, List.take_left⟩, List.drop_left, ih]
  | add ls _ _ ih =>
    simp only [fitL]
    rw [ih]
    rfl
theorem fit_leads {p : List Op} {xs ys : List Str} (h : Leads p xs ys) : fit p xs = some ys := by
  unfold fit
  rw [fitL_leads h]
end K02
end
section
set_option maxHeartbeats 0
namespace K02
open PySem L2 PD
def word : Op → Str
  | .keep _ => "keep"
  | .drop _ => "drop"
  | .add _ => "add"
def valD : Op → D
  | .keep n => .int n
  | .drop ls => linesT ls
  | .add ls => linesT ls
theorem opD_eq (o : Op) : opD o = .tup [.str (word o), valD o] := by cases o <;> rfl
def back : Op → Op
  | .keep n => .keep n
  | .drop ls => .add ls
  | .add ls => .drop ls
theorem wback (o : Op) : dWGet kv_WORDS_BACK (.str (word o)) = some (.str (word (back o))) := by
  cases o with
  | keep n => simp [dWGet, kv_WORDS_BACK, List.find?, word, back]
  | drop ls =>
    have h : ¬ (("keep" : Str) = "drop") := s_kd
    simp [dWGet, kv_WORDS_BACK, List.find?, word, back, h]
  | add ls =>
    have h : ¬ (("keep" : Str) = "add") := s_ka
    have h2 : ¬ (("drop" : Str) = "add") := s_da
    simp [dWGet, kv_WORDS_BACK, List.find?, word, back, h, h2]
abbrev tuC : MM Bool := mAnd (mTest (mOp dEq (rd 2) (PD.ret (.str "add")))) (mAnd (mTruO 1) (mTest (mOp dEq (mOp dIx (mIxO 1 (mUn dNeg (PD.ret (.int 1)))) (PD.ret (.int 0))) (PD.ret (.str "add")))))
theorem tuC_word (P v : PD.Loc) (R : List D) (w : Str) (h : ¬ w = "add") : tuC [P, .own (.lst R), .dat (.str w), v] = some (.ok false [P, .own (.lst R), .dat (.str w), v]) := by
  simp [mSeq, mE, mIf, mRet, mAsg, mDrop, mAug, mPar, mPar3, mNext, mBreak, mCont, setD, setCons, setTup, setNil, mOp, mUn, mCb, mArg, mTest, mTru, mAnd, mOr, mNot, mIfE, mChain, mTupD, mLstD, mLstO, mSetO, mPart, mSl, mAndV, mOrV, mNotV, bnd, PD.ret, lft, rd, rdD, asB, asI, mIxO, ixOwn, ownAt, ownSet, mSetAtO, mSetAt, mMeth, mLenO, mTruO, mCall, mCallP, locsP, runF, okEnd, isPin, clean, cleanL, noPin, pin0, mTup, mLst, mCbO, mOpO, asL, asO, mLc, inB, mFor, mForE, mForR, mRaiseE, mRaise, mTold, Own.d, dInt, dInt2, dSub, dDiv, dMod, dLt, dLe, dGt, dGe, dNeg, dIpAdd, dLen, dIntOf, dAbs, dMax2, dTuple, dList, dIsN, elems, dFmt, dStrI, List.getElem?_cons_zero, List.getElem?_cons_succ, List.set_cons_zero, List.set_cons_succ, List.length_cons, List.length_nil, List.cons_append, List.nil_append, List.map_cons, List.map_nil, List.replicate_succ, List.replicate_zero, List.take_succ_cons, List.take_zero, if_true, if_false, ite_true, ite_false, Bool.and_true, Bool.true_and, Bool.false_eq_true, reduceIte, Option.map_some, Option.bind_some, Nat.reduceAdd, Nat.reduceSub, Nat.reduceLT, Nat.reduceLeDiff, decide_true, decide_false, Bool.not_true, Bool.not_false, Bool.or_true, Bool.or_false, Bool.false_or, Bool.true_or, eqD_int, eqD_str, dEq, dNe, Option.map_none, atI_0, atI_1, atI_2, mulOk_a, mulOk_b, cap, restE, wipeE, dMul, dAdd, ixN30, ixN31, ixN32, List.range_succ_eq_map, h]
theorem tuC_nil (P v : PD.Loc) (w : Str) : tuC [P, .own (.lst []), .dat (.str w), v] = some (.ok false [P, .own (.lst []), .dat (.str w), v]) := by
  by_cases h : w = "add"
  · simp [mSeq, mE, mIf, mRet, mAsg, mDrop, mAug, mPar, mPar3, mNext, mBreak, mCont, setD, setCons, setTup, setNil, mOp, mUn, mCb, mArg, mTest, mTru, mAnd, mOr, mNot, mIfE, mChain, mTupD, mLstD, mLstO, mSetO, mPart, mSl, mAndV, mOrV, mNotV, bnd, PD.ret, lft, rd, rdD, asB, asI, mIxO, ixOwn, ownAt, ownSet, mSetAtO, mSetAt, mMeth, mLenO, mTruO, mCall, mCallP, locsP, runF, okEnd, isPin, clean, cleanL, noPin, pin0, mTup, mLst, mCbO, mOpO, asL, asO, mLc, inB, mFor, mForE, mForR, mRaiseE, mRaise, mTold, Own.d, dInt, dInt2, dSub, dDiv, dMod, dLt, dLe, dGt, dGe, dNeg, dIpAdd, dLen, dIntOf, dAbs, dMax2, dTuple, dList, dIsN, elems, dFmt, dStrI, List.getElem?_cons_zero, List.getElem?_cons_succ, List.set_cons_zero, List.set_cons_succ, List.length_cons, List.length_nil, List.cons_append, List.nil_append, List.map_cons, List.map_nil, List.replicate_succ, List.replicate_zero, List.take_succ_cons, List.take_zero, if_true, if_false, ite_true, ite_false, Bool.and_true, Bool.true_and, Bool.false_eq_true, reduceIte, Option.map_some, Option.bind_some, Nat.reduceAdd, Nat.reduceSub, Nat.reduceLT, Nat.reduceLeDiff, decide_true, decide_false, Bool.not_true, Bool.not_false, Bool.or_true, Bool.or_false, Bool.false_or, Bool.true_or, eqD_int, eqD_str, dEq, dNe, Option.map_none, atI_0, atI_1, atI_2, mulOk_a, mulOk_b, cap, restE, wipeE, dMul, dAdd, ixN30, ixN31, ixN32, List.range_succ_eq_map, h]
  · simp [mSeq, mE, mIf, mRet, mAsg, mDrop, mAug, mPar, mPar3, mNext, mBreak, mCont, setD, setCons, setTup, setNil, mOp, mUn, mCb, mArg, mTest, mTru, mAnd, mOr, mNot, mIfE, mChain, mTupD, mLstD, mLstO, mSetO, mPart, mSl, mAndV, mOrV, mNotV, bnd, PD.ret, lft, rd, rdD, asB, asI, mIxO, ixOwn, ownAt, ownSet, mSetAtO, mSetAt, mMeth, mLenO, mTruO, mCall, mCallP, locsP, runF, okEnd, isPin, clean, cleanL, noPin, pin0, mTup, mLst, mCbO, mOpO, asL, asO, mLc, inB, mFor, mForE, mForR, mRaiseE, mRaise, mTold, Own.d, dInt, dInt2, dSub, dDiv, dMod, dLt, dLe, dGt, dGe, dNeg, dIpAdd, dLen, dIntOf, dAbs, dMax2, dTuple, dList, dIsN, elems, dFmt, dStrI, List.getElem?_cons_zero, List.getElem?_cons_succ, List.set_cons_zero, List.set_cons_succ, List.length_cons, List.length_nil, List.cons_append, List.nil_append, List.map_cons, List.map_nil, List.replicate_succ, List.replicate_zero, List.take_succ_cons, List.take_zero, if_true, if_false, ite_true, ite_false, Bool.and_true, Bool.true_and, Bool.false_eq_true, reduceIte, Option.map_some, Option.bind_some, Nat.reduceAdd, Nat.reduceSub, Nat.reduceLT, Nat.reduceLeDiff, decide_true, decide_false, Bool.not_true, Bool.not_false, Bool.or_true, Bool.or_false, Bool.false_or, Bool.true_or, eqD_int, eqD_str, dEq, dNe, Option.map_none, atI_0, atI_1, atI_2, mulOk_a, mulOk_b, cap, restE, wipeE, dMul, dAdd, ixN30, ixN31, ixN32, List.range_succ_eq_map, h]
theorem tuC_last (P v : PD.Loc) (R : List D) (w u : Str) (x : D) : tuC [P, .own (.lst (R ++ [.tup [.str u, x]])), .dat (.str w), v] = some (.ok (decide (w = "add") && decide (u = "add")) [P, .own (.lst (R ++ [.tup [.str u, x]])), .dat (.str w), v]) := by
  by_cases h : w = "add"
  · simp [mSeq, mE, mIf, mRet, mAsg, mDrop, mAug, mPar, mPar3, mNext, mBreak, mCont, setD, setCons, setTup, setNil, mOp, mUn, mCb, mArg, mTest, mTru, mAnd, mOr, mNot, mIfE, mChain, mTupD, mLstD, mLstO, mSetO, mPart, mSl, mAndV, mOrV, mNotV, bnd, PD.ret, lft, rd, rdD, asB, asI, mIxO, ixOwn, ownAt, ownSet, mSetAtO, mSetAt, mMeth, mLenO, mTruO, mCall, mCallP, locsP, runF, okEnd, isPin, clean, cleanL, noPin, pin0, mTup, mLst, mCbO, mOpO, asL, asO, mLc, inB, mFor, mForE, mForR, mRaiseE, mRaise, mTold, Own.d, dInt, dInt2, dSub, dDiv, dMod, dLt, dLe, dGt, dGe, dNeg, dIpAdd, dLen, dIntOf, dAbs, dMax2, dTuple, dList, dIsN, elems, dFmt, dStrI, List.getElem?_cons_zero, List.getElem?_cons_succ, List.set_cons_zero, List.set_cons_succ, List.length_cons, List.length_nil, List.cons_append, List.nil_append, List.map_cons, List.map_nil, List.replicate_succ, List.replicate_zero, List.take_succ_cons, List.take_zero, if_true, if_false, ite_true, ite_false, Bool.and_true, Bool.true_and, Bool.false_eq_true, reduceIte, Option.map_some, Option.bind_some, Nat.reduceAdd, Nat.reduceSub, Nat.reduceLT, Nat.reduceLeDiff, decide_true, decide_false, Bool.not_true, Bool.not_false, Bool.or_true, Bool.or_false, Bool.false_or, Bool.true_or, eqD_int, eqD_str, dEq, dNe, Option.map_none, atI_0, atI_1, atI_2, mulOk_a, mulOk_b, cap, restE, wipeE, dMul, dAdd, ixN30, ixN31, ixN32, List.range_succ_eq_map, h, atI_neg1, dIx]
  · simp [mSeq, mE, mIf, mRet, mAsg, mDrop, mAug, mPar, mPar3, mNext, mBreak, mCont, setD, setCons, setTup, setNil, mOp, mUn, mCb, mArg, mTest, mTru, mAnd, mOr, mNot, mIfE, mChain, mTupD, mLstD, mLstO, mSetO, mPart, mSl, mAndV, mOrV, mNotV, bnd, PD.ret, lft, rd, rdD, asB, asI, mIxO, ixOwn, ownAt, ownSet, mSetAtO, mSetAt, mMeth, mLenO, mTruO, mCall, mCallP, locsP, runF, okEnd, isPin, clean, cleanL, noPin, pin0, mTup, mLst, mCbO, mOpO, asL, asO, mLc, inB, mFor, mForE, mForR, mRaiseE, mRaise, mTold, Own.d, dInt, dInt2, dSub, dDiv, dMod, dLt, dLe, dGt, dGe, dNeg, dIpAdd, dLen, dIntOf, dAbs, dMax2, dTuple, dList, dIsN, elems, dFmt, dStrI, List.getElem?_cons_zero, List.getElem?_cons_succ, List.set_cons_zero, List.set_cons_succ, List.length_cons, List.length_nil, List.cons_append, List.nil_append, List.map_cons, List.map_nil, List.replicate_succ, List.replicate_zero, List.take_succ_cons, List.take_zero, if_true, if_false, ite_true, ite_false, Bool.and_true, Bool.true_and, Bool.false_eq_true, reduceIte, Option.map_some, Option.bind_some, Nat.reduceAdd, Nat.reduceSub, Nat.reduceLT, Nat.reduceLeDiff, decide_true, decide_false, Bool.not_true, Bool.not_false, Bool.or_true, Bool.or_false, Bool.false_or, Bool.true_or, eqD_int, eqD_str, dEq, dNe, Option.map_none, atI_0, atI_1, atI_2, mulOk_a, mulOk_b, cap, restE, wipeE, dMul, dAdd, ixN30, ixN31, ixN32, List.range_succ_eq_map, h]
theorem tu_app (P : PD.Loc) (R : List D) (o : Op) (hl : R.length < 100000) : mDrop (mMeth 1 mdAppend (mArg (mTupD (mArg (mUn (dWGet kv_WORDS_BACK) (rd 2)) (mArg (rd 3) (PD.ret [])))) (PD.ret []))) [P, .own (.lst R), .dat (.str (word o)), .dat (valD o)] = some (.nx [P, .own (.lst (R ++ [opD (back o)])), .dat (.str (word o)), .dat (valD o)]) := by
  have e : opD (back o) = .tup [.str (word (back o)), valD o] := by rw [opD_eq]; cases o <;> rfl
  rw [e]
  simp [mSeq, mE, mIf, mRet, mAsg, mDrop, mAug, mPar, mPar3, mNext, mBreak, mCont, setD, setCons, setTup, setNil, mOp, mUn, mCb, mArg, mTest, mTru, mAnd, mOr, mNot, mIfE, mChain, mTupD, mLstD, mLstO, mSetO, mPart, mSl, mAndV, mOrV, mNotV, bnd, PD.ret, lft, rd, rdD, asB, asI, mIxO, ixOwn, ownAt, ownSet, mSetAtO, mSetAt, mMeth, mLenO, mTruO, mCall, mCallP, locsP, runF, okEnd, isPin, clean, cleanL, noPin, pin0, mTup, mLst, mCbO, mOpO, asL, asO, mLc, inB, mFor, mForE, mForR, mRaiseE, mRaise, mTold, Own.d, dInt, dInt2, dSub, dDiv, dMod, dLt, dLe, dGt, dGe, dNeg, dIpAdd, dLen, dIntOf, dAbs, dMax2, dTuple, dList, dIsN, elems, dFmt, dStrI, List.getElem?_cons_zero, List.getElem?_cons_succ, List.set_cons_zero, List.set_cons_succ, List.length_cons, List.length_nil, List.cons_append, List.nil_append, List.map_cons, List.map_nil, List.replicate_succ, List.replicate_zero, List.take_succ_cons, List.take_zero, if_true, if_false, ite_true, ite_false, Bool.and_true, Bool.true_and, Bool.false_eq_true, reduceIte, Option.map_some, Option.bind_some, Nat.reduceAdd, Nat.reduceSub, Nat.reduceLT, Nat.reduceLeDiff, decide_true, decide_false, Bool.not_true, Bool.not_false, Bool.or_true, Bool.or_false, Bool.false_or, Bool.true_or, eqD_int, eqD_str, dEq, dNe, Option.map_none, atI_0, atI_1, atI_2, mulOk_a, mulOk_b, cap, restE, wipeE, dMul, dAdd, ixN30, ixN31, ixN32, List.range_succ_eq_map, wback, mdAppend, hl]
theorem ins_last {α : Type} (R : List α) (a b : α) : (R ++ [a]).take R.length ++ [b] ++ (R ++ [a]).drop R.length = R ++ [b, a] := by simp
theorem tu_ins (P : PD.Loc) (R : List D) (x : D) (v w : D) (hl : R.length < 10000) : mDrop (mMeth 1 mdInsert (mArg (mOp dSub (mLenO 1) (PD.ret (.int 1))) (mArg (mTupD (mArg (PD.ret (.str "drop")) (mArg (rd 3) (PD.ret [])))) (PD.ret [])))) [P, .own (.lst (R ++ [x])), .dat w, .dat v] = some (.nx [P, .own (.lst (R ++ [.tup [.str "drop", v], x])), .dat w, .dat v]) := by
  have e : mdInsert (R ++ [x]) [.int (R.length : Int), .tup [.str "drop", v]] = some (R ++ [.tup [.str "drop", v], x], .non) := by
    have c : (R ++ [x]).length < cap ∧ 0 ≤ (R.length : Int) ∧ (R.length : Int) < 2 ^ 63 := ⟨by rw [List.length_append, List.length_singleton]; unfold cap; omega, by omega, by omega⟩
    show (if (R ++ [x]).length < cap ∧ 0 ≤ (R.length : Int) ∧ (R.length : Int) < 2 ^ 63 then some ((R ++ [x]).take (R.length : Int).toNat ++ [.tup [.str "drop", v]] ++ (R ++ [x]).drop (R.length : Int).toNat, D.non) else none) = _
    rw [if_pos c, Int.toNat_natCast, ins_last]
  have l : (((R ++ [x]).length : Nat) : Int) - 1 = (R.length : Int) := by rw [List.length_append, List.length_singleton]; omega
  simp only [mSeq, mE, mIf, mRet, mAsg, mDrop, mAug, mPar, mPar3, mNext, mBreak, mCont, setD, setCons, setTup, setNil, mOp, mUn, mCb, mArg, mTest, mTru, mAnd, mOr, mNot, mIfE, mChain, mTupD, mLstD, mLstO, mSetO, mPart, mSl, mAndV, mOrV, mNotV, bnd, PD.ret, lft, rd, rdD, asB, asI, mIxO, ixOwn, ownAt, ownSet, mSetAtO, mSetAt, mMeth, mLenO, mTruO, mCall, mCallP, locsP, runF, okEnd, isPin, clean, cleanL, noPin, pin0, mTup, mLst, mCbO, mOpO, asL, asO, mLc, inB, mFor, mForE, mForR, mRaiseE, mRaise, mTold, Own.d, dInt, dInt2, dSub, dDiv, dMod, dLt, dLe, dGt, dGe, dNeg, dIpAdd, dLen, dIntOf, dAbs, dMax2, dTuple, dList, dIsN, elems, dFmt, dStrI, List.getElem?_cons_zero, List.getElem?_cons_succ, List.set_cons_zero, List.set_cons_succ, List.length_cons, List.length_nil, List.cons_append, List.nil_append, List.map_cons, List.map_nil, List.replicate_succ, List.replicate_zero, List.take_succ_cons, List.take_zero, if_true, if_false, ite_true, ite_false, Bool.and_true, Bool.true_and, Bool.false_eq_true, reduceIte, Option.map_some, Option.bind_some, Nat.reduceAdd, Nat.reduceSub, Nat.reduceLT, Nat.reduceLeDiff, decide_true, decide_false, Bool.not_true, Bool.not_false, Bool.or_true, Bool.or_false, Bool.false_or, Bool.true_or, eqD_int, eqD_str, dEq, dNe, Option.map_none, atI_0, atI_1, atI_2, mulOk_a, mulOk_b, cap, restE, wipeE, dMul, dAdd, ixN30, ixN31, ixN32, List.range_succ_eq_map, l, e]
theorem tu_row (P : PD.Loc) (R : List Op) (o : Op) (hl : R.length < 1000) (hb : ∀ (Q : List Op) (ls ms : List Str), R = Q ++ [Op.add ls] → o ≠ Op.add ms) : m_turned_b1 [P, .own (.lst (R.map opD)), .dat (.str (word o)), .dat (valD o)] = some (.nx [P, .own (.lst ((R ++ [back o]).map opD)), .dat (.str (word o)), .dat (valD o)]) := by
  have c : tuC [P, .own (.lst (R.map opD)), .dat (.str (word o)), .dat (valD o)] = some (.ok false [P, .own (.lst (R.map opD)), .dat (.str (word o)), .dat (valD o)]) := by
    by_cases hw : word o = "add"
    · rcases List.eq_nil_or_concat R with rfl | ⟨Q, r, rfl⟩
      · exact tuC_nil _ _ _
      · rw [List.concat_eq_append, List.map_append, List.map_cons, List.map_nil, opD_eq, tuC_last]
        have : decide (word r = "add") = false := by
          rw [decide_eq_false_iff_not]
          cases r with
          | keep n => exact s_ka
          | drop ls => exact s_da
          | add ls =>
            cases o with
            | keep n => exact absurd hw s_ka
            | drop ms => exact absurd hw s_da
            | add ms => exact absurd rfl (hb Q ls ms (by rw [List.concat_eq_append]))
        rw [this, Bool.and_false]
    · exact tuC_word _ _ _ _ hw
  unfold m_turned_b1
  rw [mIf_f c, List.map_append]
  exact tu_app _ _ _ (by rw [List.length_map]; omega)
theorem tu_add (P : PD.Loc) (R : List Op) (ls ms : List Str) (hl : R.length < 1000) : m_turned_b1 [P, .own (.lst ((R ++ [Op.add ls]).map opD)), .dat (.str "add"), .dat (linesT ms)] = some (.nx [P, .own (.lst ((R ++ [Op.drop ms, Op.add ls]).map opD)), .dat (.str "add"), .dat (linesT ms)]) := by
  have c := tuC_last P (.dat (linesT ms)) (R.map opD) "add" "add" (linesT ls)
  rw [decide_eq_true rfl, Bool.and_self] at c
  unfold m_turned_b1
  rw [List.map_append, List.map_append]
  exact (mIf_t c).trans (tu_ins _ _ _ _ _ (by rw [List.length_map]; omega))
end K02
end
section
set_option maxHeartbeats 0
namespace K02
open PySem L2 PD
def turn : List Op → List Op
  | [] => []
  | .drop a :: .add b :: p => .drop b :: .add a :: turn p
  | .drop a :: p => .add a :: turn p
  | .add b :: p => .drop b :: turn p
  | .keep n :: p => .keep n :: turn p
abbrev tg1 : D → PD.Env → Option PD.Env := setTup 2 (setCons (setD 2) (setCons (setD 3) setNil))
theorem tg1_ok (a0 a1 a2 a3 : PD.Loc) (o : Op) : tg1 (opD o) [a0, a1, a2, a3] = some [a0, a1, .dat (.str (word o)), .dat (valD o)] := by cases o <;> rfl
def NoAdd (p : List Op) : Prop := ∀ b q, p ≠ Op.add b :: q
theorem noAdd_of {a : Nat} {p : List Op} (h : WF (some a) p) (ha : a = 2 ∨ a = 2) : NoAdd p := by
  rintro b q rfl
  exact (h.1 a rfl).1 (by rcases ha with z | z <;> simp [z, kind])
theorem tu_loop (P : PD.Loc) : ∀ (n : Nat) (p R : List Op) (a : Option Nat) (s2 s3 : PD.Loc), p.length ≤ n → WF a p → R.length + p.length < 900 → ((∃ (Q : List Op) (ls : List Str), R = Q ++ [Op.add ls]) → NoAdd p) →
    ∃ u2 u3, loopL tg1 m_turned_b1 (p.map opD) [P, .own (.lst (R.map opD)), s2, s3] = some (.nx [P, .own (.lst ((R ++ turn p).map opD)), u2, u3])
  | _, [], R, a, s2, s3, _, _, _, _ => ⟨s2, s3, by rw [List.map_nil, loopL_nil]; simp [turn]⟩
  | 0, o :: p, R, a, s2, s3, hn, _, _, _ => by simp at hn
  | n + 1, .keep k :: p, R, a, s2, s3, hn, hw, hl, hb => by
    simp only [List.length_cons] at hn hl
    have st := tu_row P R (.keep k) (by omega) (fun Q ls ms _ z => by cases z)
    obtain ⟨u2, u3, ih⟩ := tu_loop P n p (R ++ [.keep k]) _ (.dat (.str (word (.keep k)))) (.dat (valD (.keep k))) (by omega) hw.2 (by rw [List.length_append, List.length_singleton]; omega) (fun ⟨Q, ls, e⟩ => by
      have := List.append_inj_right' e rfl
      simp at this)
    refine ⟨u2, u3, ?_⟩
    rw [List.map_cons, loopL_nx (tg1_ok _ _ _ _ _) st]
    simp only [turn, back] at ih ⊢
    rw [ih, List.append_assoc]
    rfl
  | n + 1, .add b :: p, R, a, s2, s3, hn, hw, hl, hb => by
    simp only [List.length_cons] at hn hl
    have st := tu_row P R (.add b) (by omega) (fun Q ls ms e z => (hb ⟨Q, ls, e⟩ b p) rfl)
    obtain ⟨u2, u3, ih⟩ := tu_loop P n p (R ++ [.drop b]) _ (.dat (.str (word (.add b)))) (.dat (valD (.add b))) (by omega) hw.2 (by rw [List.length_append, List.length_singleton]; omega) (fun ⟨Q, ls, e⟩ => by
      have := List.append_inj_right' e rfl
      simp at this)
    refine ⟨u2, u3, ?_⟩
    rw [List.map_cons, loopL_nx (tg1_ok _ _ _ _ _) st]
    simp only [turn, back] at ih ⊢
    rw [ih, List.append_assoc]
    rfl
  | n + 1, .drop d :: .add b :: p, R, a, s2, s3, hn, hw, hl, hb => by
    simp only [List.length_cons] at hn hl
    have st := tu_row P R (.drop d) (by omega) (fun Q ls ms _ z => by cases z)
    have st2 := tu_add P R d b (by omega)
    have hw2 := hw.2.2
    cases n with
    | zero => omega
    | succ n =>
      obtain ⟨u2, u3, ih⟩ := tu_loop P n p (R ++ [.drop b, .add d]) _ (.dat (.str "add")) (.dat (linesT b)) (by omega) hw2 (by rw [List.length_append]; simp; omega) (fun _ => noAdd_of hw2 (.inl rfl))
      refine ⟨u2, u3, ?_⟩
      rw [List.map_cons, loopL_nx (tg1_ok _ _ _ _ _) st, List.map_cons]
      refine (loopL_nx (tg1_ok _ _ _ _ _) st2).trans ?_
      simp only [turn]
      rw [ih, List.append_assoc]
      rfl
  | n + 1, .drop d :: [], R, a, s2, s3, hn, hw, hl, hb => by
    simp only [List.length_cons] at hn hl
    have st := tu_row P R (.drop d) (by omega) (fun Q ls ms _ z => by cases z)
    refine ⟨.dat (.str (word (.drop d))), .dat (valD (.drop d)), ?_⟩
    rw [List.map_cons, loopL_nx (tg1_ok _ _ _ _ _) st, List.map_nil, loopL_nil]
    rfl
  | n + 1, .drop d :: .keep k :: p, R, a, s2, s3, hn, hw, hl, hb => by
    simp only [List.length_cons] at hn hl
    have st := tu_row P R (.drop d) (by omega) (fun Q ls ms _ z => by cases z)
    obtain ⟨u2, u3, ih⟩ := tu_loop P n (.keep k :: p) (R ++ [.add d]) _ (.dat (.str (word (.drop d)))) (.dat (valD (.drop d))) (by simp; omega) hw.2 (by rw [List.length_append, List.length_singleton, List.length_cons]; omega) (fun _ => fun b q z => by cases z)
    refine ⟨u2, u3, ?_⟩
    rw [List.map_cons, loopL_nx (tg1_ok _ _ _ _ _) st]
    simp only [turn, back] at ih ⊢
    rw [ih, List.append_assoc]
    rfl
  | n + 1, .drop d :: .drop k :: p, R, a, s2, s3, hn, hw, hl, hb => absurd rfl (hw.2.1 1 rfl).1
theorem turned_ok (p : List Op) (hw : WF none p) (hl : p.length < 900) : F_turned [.dat (patchD p)] = some (.ok (patchD (turn p)) [.non]) := by
  obtain ⟨u2, u3, h⟩ := tu_loop (.dat (patchD p)) p.length p [] none .non .non (Nat.le_refl _) hw (by simpa using hl) (fun ⟨Q, ls, e⟩ => by simp at e)
  have e0 : mSetO 1 (mLstO (PD.ret [])) [.dat (patchD p), .non, .non, .non] = some (.nx [.dat (patchD p), .own (.lst (([] : List Op).map opD)), .non, .non]) := by
    simp [mSeq, mE, mIf, mRet, mAsg, mDrop, mAug, mPar, mPar3, mNext, mBreak, mCont, setD, setCons, setTup, setNil, mOp, mUn, mCb, mArg, mTest, mTru, mAnd, mOr, mNot, mIfE, mChain, mTupD, mLstD, mLstO, mSetO, mPart, mSl, mAndV, mOrV, mNotV, bnd, PD.ret, lft, rd, rdD, asB, asI, mIxO, ixOwn, ownAt, ownSet, mSetAtO, mSetAt, mMeth, mLenO, mTruO, mCall, mCallP, locsP, runF, okEnd, isPin, clean, cleanL, noPin, pin0, mTup, mLst, mCbO, mOpO, asL, asO, mLc, inB, mFor, mForE, mForR, mRaiseE, mRaise, mTold, Own.d, dInt, dInt2, dSub, dDiv, dMod, dLt, dLe, dGt, dGe, dNeg, dIpAdd, dLen, dIntOf, dAbs, dMax2, dTuple, dList, dIsN, elems, dFmt, dStrI, List.getElem?_cons_zero, List.getElem?_cons_succ, List.set_cons_zero, List.set_cons_succ, List.length_cons, List.length_nil, List.cons_append, List.nil_append, List.map_cons, List.map_nil, List.replicate_succ, List.replicate_zero, List.take_succ_cons, List.take_zero, if_true, if_false, ite_true, ite_false, Bool.and_true, Bool.true_and, Bool.false_eq_true, reduceIte, Option.map_some, Option.bind_some, Nat.reduceAdd, Nat.reduceSub, Nat.reduceLT, Nat.reduceLeDiff, decide_true, decide_false, Bool.not_true, Bool.not_false, Bool.or_true, Bool.or_false, Bool.false_or, Bool.true_or, eqD_int, eqD_str, dEq, dNe, Option.map_none, atI_0, atI_1, atI_2, mulOk_a, mulOk_b, cap, restE, wipeE, dMul, dAdd, ixN30, ixN31, ixN32, List.range_succ_eq_map]
  have e1 : mFor (rd 0) tg1 m_turned_b1 [.dat (patchD p), .own (.lst (([] : List Op).map opD)), .non, .non] = loopL tg1 m_turned_b1 (p.map opD) [.dat (patchD p), .own (.lst (([] : List Op).map opD)), .non, .non] := rfl
  rw [List.nil_append] at h
  have body : m_turned [.dat (patchD p), .non, .non, .non] = some (.rt (patchD (turn p)) [.dat (patchD p), .dat (.lst ((turn p).map opD)), u2, u3]) := by
    unfold m_turned
    rw [mSeq_nx e0, mSeq_nx (e1.trans h)]
    rfl
  exact runF_rt (n := 1) (N := 4) (ρ0 := [.dat (patchD p), .non, .non, .non]) rfl body rfl
theorem leads_turn : ∀ (n : Nat) {p : List Op} {xs ys : List Str}, p.length ≤ n → Leads p xs ys → Leads (turn p) ys xs
  | _, [], xs, ys, _, h => by cases h; exact .nil
  | 0, o :: p, xs, ys, hn, _ => by simp at hn
  | n + 1, .keep k :: p, xs, ys, hn, h => by
    simp only [List.length_cons] at hn
    cases h with
    | keep ks h1 h2 => exact .keep ks h1 (leads_turn n (by omega) h2)
  | n + 1, .add b :: p, xs, ys, hn, h => by
    simp only [List.length_cons] at hn
    cases h with
    | add ls h1 h2 => exact .drop _ h1 (leads_turn n (by omega) h2)
  | n + 1, .drop d :: .add b :: p, xs, ys, hn, h => by
    simp only [List.length_cons] at hn
    cases h with
    | drop ls h1 h2 =>
      cases h2 with
      | add ms k1 k2 => exact .drop _ k1 (.add _ h1 (leads_turn n (by omega) k2))
  | n + 1, .drop d :: [], xs, ys, hn, h => by
    cases h with
    | drop ls h1 h2 => cases h2; exact .add _ h1 .nil
  | n + 1, .drop d :: .keep k :: p, xs, ys, hn, h => by
    simp only [List.length_cons] at hn
    cases h with
    | drop ls h1 h2 => exact .add _ h1 (leads_turn n (p := .keep k :: p) (by simp; omega) h2)
  | n + 1, .drop d :: .drop k :: p, xs, ys, hn, h => by
    simp only [List.length_cons] at hn
    cases h with
    | drop ls h1 h2 => exact .add _ h1 (leads_turn n (p := .drop k :: p) (by simp; omega) h2)
theorem turn_turn : ∀ (n : Nat) {p : List Op} {a : Option Nat}, p.length ≤ n → WF a p → turn (turn p) = p
  | _, [], a, _, _ => rfl
  | 0, o :: p, a, hn, _ => by simp at hn
  | n + 1, .keep k :: p, a, hn, h => by
    simp only [List.length_cons] at hn
    simp only [turn]
    rw [turn_turn n (by omega) h.2]
  | n + 1, .add b :: [], a, hn, h => rfl
  | n + 1, .add b :: .keep k :: p, a, hn, h => by
    simp only [List.length_cons] at hn
    simp only [turn]
    rw [turn_turn n (by omega) h.2.2]
  | n + 1, .add b :: .add k :: p, a, hn, h => absurd rfl (h.2.1 2 rfl).1
  | n + 1, .add b :: .drop k :: p, a, hn, h => absurd ⟨rfl, rfl⟩ (h.2.1 2 rfl).2
  | n + 1, .drop d :: .add b :: p, a, hn, h => by
    simp only [List.length_cons] at hn
    simp only [turn]
    rw [turn_turn n (by omega) h.2.2]
  | n + 1, .drop d :: [], a, hn, h => rfl
  | n + 1, .drop d :: .keep k :: p, a, hn, h => by
    simp only [List.length_cons] at hn
    simp only [turn]
    rw [turn_turn n (by omega) h.2.2]
  | n + 1, .drop d :: .drop k :: p, a, hn, h => absurd rfl (h.2.1 1 rfl).1
end K02
end
section
set_option maxHeartbeats 0
namespace K02
open PySem L2 PD
def isKeep : List Op → Prop
  | .keep _ :: _ => True
  | _ => False
theorem after2 {p : List Op} (h : WF (some 2) p) : p = [] ∨ isKeep p := by
  cases p with
  | nil => exact .inl rfl
  | cons o p =>
    cases o with
    | keep n => exact .inr trivial
    | drop ls => exact absurd ⟨rfl, rfl⟩ (h.1 2 rfl).2
    | add ls => exact absurd rfl (h.1 2 rfl).1
theorem wf_turn : ∀ (n : Nat) {p : List Op} {a b : Option Nat}, p.length ≤ n → WF a p → (b ≠ some 0 ∨ ¬ isKeep p) → (b = none ∨ b = some 0 ∨ p = [] ∨ isKeep p) → WF b (turn p)
  | _, [], a, b, _, _, _, _ => trivial
  | 0, o :: p, a, b, hn, _, _, _ => by simp at hn
  | n + 1, .keep k :: p, a, b, hn, h, h1, h2 => by
    simp only [List.length_cons] at hn
    have hb : b ≠ some 0 := h1.elim id fun z => absurd trivial z
    refine ⟨fun x e => ⟨fun z => hb (by rw [e, z]; rfl), fun z => by simp [kind] at z⟩, wf_turn n (b := some 0) (by omega) h.2 (.inr fun z => ?_) (.inr (.inl rfl))⟩
    cases p with
    | nil => exact z
    | cons o p =>
      cases o with
      | keep m => exact (h.2.1 0 rfl).1 rfl
      | drop ls => exact z
      | add ls => exact z
  | n + 1, .add e :: p, a, b, hn, h, h1, h2 => by
    simp only [List.length_cons] at hn
    have hb : b = none ∨ b = some 0 := by
      rcases h2 with z | z | z | z
      · exact .inl z
      · exact .inr z
      · cases z
      · exact absurd z id
    refine ⟨fun x q => ?_, wf_turn n (b := some 1) (by omega) h.2 (.inl (by simp)) (.inr (.inr (after2 h.2)))⟩
    rcases hb with z | z <;> rw [z] at q <;> cases q
    simp [kind]
  | n + 1, .drop d :: .add e :: p, a, b, hn, h, h1, h2 => by
    simp only [List.length_cons] at hn
    have hb : b = none ∨ b = some 0 := by
      rcases h2 with z | z | z | z
      · exact .inl z
      · exact .inr z
      · cases z
      · exact absurd z id
    refine ⟨fun x q => ?_, fun x q => ?_, wf_turn n (b := some 2) (by omega) h.2.2 (.inl (by simp)) (.inr (.inr (after2 h.2.2)))⟩
    · rcases hb with z | z <;> rw [z] at q <;> cases q
      simp [kind]
    · cases q
      simp [kind]
  | n + 1, .drop d :: [], a, b, hn, h, h1, h2 => by
    have hb : b = none ∨ b = some 0 := by
      rcases h2 with z | z | z | z
      · exact .inl z
      · exact .inr z
      · cases z
      · exact absurd z id
    refine ⟨fun x q => ?_, trivial⟩
    rcases hb with z | z <;> rw [z] at q <;> cases q
    simp [kind]
  | n + 1, .drop d :: .keep k :: p, a, b, hn, h, h1, h2 => by
    simp only [List.length_cons] at hn
    have hb : b = none ∨ b = some 0 := by
      rcases h2 with z | z | z | z
      · exact .inl z
      · exact .inr z
      · cases z
      · exact absurd z id
    refine ⟨fun x q => ?_, wf_turn n (p := .keep k :: p) (b := some 2) (by simp; omega) h.2 (.inl (by simp)) (.inr (.inr (.inr trivial)))⟩
    rcases hb with z | z <;> rw [z] at q <;> cases q
    simp [kind]
  | n + 1, .drop d :: .drop k :: p, a, b, hn, h, h1, h2 => absurd rfl (h.2.1 1 rfl).1
theorem wf_turn0 {p : List Op} (h : WF none p) : WF none (turn p) := wf_turn p.length (Nat.le_refl _) h (.inl (by simp)) (.inl rfl)
theorem turn_len : ∀ (n : Nat) {p : List Op}, p.length ≤ n → (turn p).length = p.length
  | _, [], _ => rfl
  | 0, o :: p, hn => by simp at hn
  | n + 1, .keep k :: p, hn => by simp only [List.length_cons] at hn ⊢; simp only [turn, List.length_cons]; rw [turn_len n (by omega)]
  | n + 1, .add b :: p, hn => by simp only [List.length_cons] at hn ⊢; simp only [turn, List.length_cons]; rw [turn_len n (by omega)]
  | n + 1, .drop d :: .add b :: p, hn => by simp only [List.length_cons] at hn ⊢; simp only [turn, List.length_cons]; rw [turn_len n (by omega)]
  | n + 1, .drop d :: [], hn => rfl
  | n + 1, .drop d :: .keep k :: p, hn => by
    have := turn_len n (p := .keep k :: p) (by simp only [List.length_cons] at hn ⊢; omega)
    simp only [turn, List.length_cons] at this ⊢
    omega
  | n + 1, .drop d :: .drop k :: p, hn => by
    have := turn_len n (p := .drop k :: p) (by simp only [List.length_cons] at hn ⊢; omega)
    simp only [turn, List.length_cons]
    simp only [List.length_cons] at this
    omega
/-! ### sizes of what leads from the one to the other -/
theorem leads_sized {p : List Op} {xs ys : List Str} (h : Leads p xs ys) : wt p ≤ ys.length ∧ p.length ≤ xs.length + ys.length ∧ (∀ o ∈ p, ∀ ls, o = .drop ls → ls.length ≤ xs.length) ∧ (∀ o ∈ p, ∀ ls, o = .add ls → ls.length ≤ ys.length) ∧ (∀ o ∈ p, ∀ n, o = .keep n → 0 < n ∧ n ≤ xs.length) := by
  induction h with
  | nil => exact ⟨Nat.le_refl _, Nat.le_refl _, (fun o ho => nomatch ho), (fun o ho => nomatch ho), (fun o ho => nomatch ho)⟩
  | @keep ks p xs ys h1 h2 ih =>
    obtain ⟨i1, i2, i3, i4, i5⟩ := ih
    have l := List.length_pos_iff.mpr h1
    simp only [wt, List.length_append, List.length_cons]
    refine ⟨by omega, by omega, fun o ho ls e => ?_, fun o ho ls e => ?_, fun o ho n e => ?_⟩
    · rcases List.mem_cons.mp ho with rfl | ho
      · cases e
      · have := i3 o ho ls e; omega
    · rcases List.mem_cons.mp ho with rfl | ho
      · cases e
      · have := i4 o ho ls e; omega
    · rcases List.mem_cons.mp ho with rfl | ho
      · cases e; omega
      · have := i5 o ho n e; omega
  | @drop ds p xs ys h1 h2 ih =>
    obtain ⟨i1, i2, i3, i4, i5⟩ := ih
    have l := List.length_pos_iff.mpr h1
    simp only [wt, List.length_append, List.length_cons]
    refine ⟨by omega, by omega, fun o ho ls e => ?_, fun o ho ls e => ?_, fun o ho n e => ?_⟩
    · rcases List.mem_cons.mp ho with rfl | ho
      · cases e; omega
      · have := i3 o ho ls e; omega
    · rcases List.mem_cons.mp ho with rfl | ho
      · cases e
      · have := i4 o ho ls e; omega
    · rcases List.mem_cons.mp ho with rfl | ho
      · cases e
      · have := i5 o ho n e; omega
  | @add as p xs ys h1 h2 ih =>
    obtain ⟨i1, i2, i3, i4, i5⟩ := ih
    have l := List.length_pos_iff.mpr h1
    simp only [wt, List.length_append, List.length_cons]
    refine ⟨by omega, by omega, fun o ho ls e => ?_, fun o ho ls e => ?_, fun o ho n e => ?_⟩
    · rcases List.mem_cons.mp ho with rfl | ho
      · cases e
      · have := i3 o ho ls e; omega
    · rcases List.mem_cons.mp ho with rfl | ho
      · cases e; omega
      · have := i4 o ho ls e; omega
    · rcases List.mem_cons.mp ho with rfl | ho
      · cases e
      · have := i5 o ho n e; omega
end K02
end
section
set_option maxHeartbeats 0
namespace K02
open PySem L2 PD
theorem compL_gen {α : Type} {g : D → PD.Env → Option PD.Env} {t : MM Bool} {e : MM D} {vs : List Nat} (emb : α → D) (E : PD.Env) (E1 : α → PD.Env) (b : α → Bool) (y : α → D) (h1 : ∀ o, g (emb o) E = some (E1 o)) (h2 : ∀ o, t (E1 o) = some (.ok (b o) (E1 o)))
    (h4 : ∀ o, wipeE (E1 o) vs = E) : ∀ (p : List α) (acc : List D), (∀ o ∈ p, b o = true → e (E1 o) = some (.ok (y o) (E1 o))) → acc.length + p.length < 100000 → compL g t e vs (p.map emb) acc E = some (acc ++ (p.filter b).map y, E)
  | [], acc, _, _ => by simp [compL]
  | o :: p, acc, h3, hl => by
    rw [List.length_cons] at hl
    have ih := compL_gen (e := e) emb E E1 b y h1 h2 h4 p
    cases hb : b o with
    | true =>
      rw [List.map_cons, compL_yes (h1 o) (by rw [h2 o, hb]) (h3 o List.mem_cons_self hb) (by unfold cap; omega), h4 o, ih (acc ++ [y o]) (fun q hq => h3 q (List.mem_cons_of_mem _ hq)) (by rw [List.length_append, List.length_singleton]; omega)]
      rw [List.filter_cons_of_pos hb]
      simp
    | false =>
      rw [List.map_cons, compL_no (h1 o) (by rw [h2 o, hb]), h4 o, ih acc (fun q hq => h3 q (List.mem_cons_of_mem _ hq)) (by omega)]
      rw [List.filter_cons_of_neg (by rw [hb]; simp)]
def isAdd : Op → Bool
  | .add _ => true
  | _ => false
def isDrop : Op → Bool
  | .drop _ => true
  | _ => false
def isKp : Op → Bool
  | .keep _ => true
  | _ => false
def size : Op → Nat
  | .keep n => n
  | .drop ls => ls.length
  | .add ls => ls.length
def total (b : Op → Bool) (p : List Op) : Nat := ((p.filter b).map size).sum
theorem word_add (o : Op) : decide (word o = "add") = isAdd o := by
  cases o with
  | keep n => exact decide_eq_false s_ka
  | drop ls => exact decide_eq_false s_da
  | add ls => exact decide_eq_true rfl
theorem word_drop (o : Op) : decide (word o = "drop") = isDrop o := by
  cases o with
  | keep n => exact decide_eq_false s_kd
  | drop ls => exact decide_eq_true rfl
  | add ls => exact decide_eq_false fun z => s_da z.symm
theorem word_keep (o : Op) : decide (word o = "keep") = isKp o := by
  cases o with
  | keep n => exact decide_eq_true rfl
  | drop ls => exact decide_eq_false s_dk
  | add ls => exact decide_eq_false fun z => s_ka z.symm
theorem intsD_map : ∀ ns : List Nat, intsD (ns.map fun (n : Nat) => D.int (n : Int)) = some (ns.map fun (n : Nat) => (n : Int))
  | [] => rfl
  | n :: ns => by
    simp only [List.map_cons, intsD, intsD_map ns]
    rfl
theorem sum_map (ns : List Nat) : (ns.map fun (n : Nat) => (n : Int)).sum = ((ns.sum : Nat) : Int) := by
  induction ns with
  | nil => rfl
  | cons n ns ih => rw [List.map_cons, List.sum_cons, List.sum_cons, ih]; omega
theorem dSum_map (ns : List Nat) : dSum [.lst (ns.map fun (n : Nat) => D.int (n : Int))] = some (.int (ns.sum : Nat)) := by
  show (intsD _).map (fun ns => D.int ns.sum) = _
  rw [intsD_map, Option.map_some, sum_map]
theorem valD_len (o : Op) (h : isKp o = false) : dLen [valD o] = some (.int (size o : Nat)) := by
  cases o with
  | keep n => cases h
  | drop ls => unfold valD linesT size; simp [dLen]
  | add ls => unfold valD linesT size; simp [dLen]
theorem counts_ok (p : List Op) (hl : p.length < 90000) : F_counts [.dat (patchD p)] = some (.ok (.tup [.int (total isAdd p : Nat), .int (total isDrop p : Nat)]) [.non]) := by
  have c1 := compL_gen (g := tg1) (t := m_counts_c1) (e := m_counts_e1) (vs := [2, 3]) opD [.dat (patchD p), .non, .non, .non, .non] (fun o => [.dat (patchD p), .non, .dat (.str (word o)), .dat (valD o), .non]) isAdd (fun o => .int (size o : Nat)) (fun o => by cases o <;> rfl) (fun o => by
      unfold m_counts_c1
      simp only [mSeq, mE, mIf, mRet, mAsg, mDrop, mAug, mPar, mPar3, mNext, mBreak, mCont, setD, setCons, setTup, setNil, mOp, mUn, mCb, mArg, mTest, mTru, mAnd, mOr, mNot, mIfE, mChain, mTupD, mLstD, mLstO, mSetO, mPart, mSl, mAndV, mOrV, mNotV, bnd, PD.ret, lft, rd, rdD, asB, asI, mIxO, ixOwn, ownAt, ownSet, mSetAtO, mSetAt, mMeth, mLenO, mTruO, mCall, mCallP, locsP, runF, okEnd, isPin, clean, cleanL, noPin, pin0, mTup, mLst, mCbO, mOpO, asL, asO, mLc, inB, mFor, mForE, mForR, mRaiseE, mRaise, mTold, Own.d, dInt, dInt2, dSub, dDiv, dMod, dLt, dLe, dGt, dGe, dNeg, dIpAdd, dLen, dIntOf, dAbs, dMax2, dTuple, dList, dIsN, elems, dFmt, dStrI, List.getElem?_cons_zero, List.getElem?_cons_succ, List.set_cons_zero, List.set_cons_succ, List.length_cons, List.length_nil, List.cons_append, List.nil_append, List.map_cons, List.map_nil, List.replicate_succ, List.replicate_zero, List.take_succ_cons, List.take_zero, if_true, if_false, ite_true, ite_false, Bool.and_true, Bool.true_and, Bool.false_eq_true, reduceIte, Option.map_some, Option.bind_some, Nat.reduceAdd, Nat.reduceSub, Nat.reduceLT, Nat.reduceLeDiff, decide_true, decide_false, Bool.not_true, Bool.not_false, Bool.or_true, Bool.or_false, Bool.false_or, Bool.true_or, eqD_int, eqD_str, dEq, dNe, Option.map_none, atI_0, atI_1, atI_2, mulOk_a, mulOk_b, cap, restE, wipeE, dMul, dAdd, ixN30, ixN31, ixN32, List.range_succ_eq_map, word_add]) (fun o => rfl) p [] (fun o _ hb => by
      unfold m_counts_e1
      have := valD_len o (by cases o <;> first | rfl | cases hb)
      simp only [mCb, mArg, bnd, rd, PD.ret, lft, List.getElem?_cons_succ, List.getElem?_cons_zero, this]) (by simp; omega)
  have c2 := compL_gen (g := tg1) (t := m_counts_c2) (e := m_counts_e2) (vs := [2, 3]) opD [.dat (patchD p), .dat (.int (total isAdd p : Nat)), .non, .non, .non] (fun o => [.dat (patchD p), .dat (.int (total isAdd p : Nat)), .dat (.str (word o)), .dat (valD o), .non]) isDrop (fun o => .int (size o : Nat)) (fun o => by cases o <;> rfl) (fun o => by
      unfold m_counts_c2
      simp only [mSeq, mE, mIf, mRet, mAsg, mDrop, mAug, mPar, mPar3, mNext, mBreak, mCont, setD, setCons, setTup, setNil, mOp, mUn, mCb, mArg, mTest, mTru, mAnd, mOr, mNot, mIfE, mChain, mTupD, mLstD, mLstO, mSetO, mPart, mSl, mAndV, mOrV, mNotV, bnd, PD.ret, lft, rd, rdD, asB, asI, mIxO, ixOwn, ownAt, ownSet, mSetAtO, mSetAt, mMeth, mLenO, mTruO, mCall, mCallP, locsP, runF, okEnd, isPin, clean, cleanL, noPin, pin0, mTup, mLst, mCbO, mOpO, asL, asO, mLc, inB, mFor, mForE, mForR, mRaiseE, mRaise, mTold, Own.d, dInt, dInt2, dSub, dDiv, dMod, dLt, dLe, dGt, dGe, dNeg, dIpAdd, dLen, dIntOf, dAbs, dMax2, dTuple, dList, dIsN, elems, dFmt, dStrI, List.getElem?_cons_zero, List.getElem?_cons_succ, List.set_cons_zero, List.set_cons_succ, List.length_cons, List.length_nil, List.cons_append, List.nil_append, List.map_cons, List.map_nil, List.replicate_succ, List.replicate_zero, List.take_succ_cons, List.take_zero, if_true, if_false, ite_true, ite_false, Bool.and_true, Bool.true_and, Bool.false_eq_true, reduceIte, Option.map_some, Option.bind_some, Nat.reduceAdd, Nat.reduceSub, Nat.reduceLT, Nat.reduceLeDiff, decide_true, decide_false, Bool.not_true, Bool.not_false, Bool.or_true, Bool.or_false, Bool.false_or, Bool.true_or, eqD_int, eqD_str, dEq, dNe, Option.map_none, atI_0, atI_1, atI_2, mulOk_a, mulOk_b, cap, restE, wipeE, dMul, dAdd, ixN30, ixN31, ixN32, List.range_succ_eq_map, word_drop]) (fun o => rfl) p [] (fun o _ hb => by
      unfold m_counts_e2
      have := valD_len o (by cases o <;> first | rfl | cases hb)
      simp only [mCb, mArg, bnd, rd, PD.ret, lft, List.getElem?_cons_succ, List.getElem?_cons_zero, this]) (by simp; omega)
  have sA : ∀ b : Op → Bool, (p.filter b).map (fun o => D.int (size o : Nat)) = ((p.filter b).map size).map fun (n : Nat) => D.int (n : Int) := fun b => by rw [List.map_map]; rfl
  rw [List.nil_append, sA] at c1 c2
  have e1 : mAsg (mCb dSum (mArg (asL (mLc (rd 0) elems [2, 3] tg1 m_counts_c1 m_counts_e1)) (PD.ret []))) (setD 1) [.dat (patchD p), .non, .non, .non, .non] = some (.nx [.dat (patchD p), .dat (.int (total isAdd p : Nat)), .non, .non, .non]) := by
    have d := dSum_map ((p.filter isAdd).map size)
    unfold patchD at c1 ⊢
    simp only [mSeq, mE, mIf, mRet, mAsg, mDrop, mAug, mPar, mPar3, mNext, mBreak, mCont, setD, setCons, setTup, setNil, mOp, mUn, mCb, mArg, mTest, mTru, mAnd, mOr, mNot, mIfE, mChain, mTupD, mLstD, mLstO, mSetO, mPart, mSl, mAndV, mOrV, mNotV, bnd, PD.ret, lft, rd, rdD, asB, asI, mIxO, ixOwn, ownAt, ownSet, mSetAtO, mSetAt, mMeth, mLenO, mTruO, mCall, mCallP, locsP, runF, okEnd, isPin, clean, cleanL, noPin, pin0, mTup, mLst, mCbO, mOpO, asL, asO, mLc, inB, mFor, mForE, mForR, mRaiseE, mRaise, mTold, Own.d, dInt, dInt2, dSub, dDiv, dMod, dLt, dLe, dGt, dGe, dNeg, dIpAdd, dLen, dIntOf, dAbs, dMax2, dTuple, dList, dIsN, elems, dFmt, dStrI, List.getElem?_cons_zero, List.getElem?_cons_succ, List.set_cons_zero, List.set_cons_succ, List.length_cons, List.length_nil, List.cons_append, List.nil_append, List.map_cons, List.map_nil, List.replicate_succ, List.replicate_zero, List.take_succ_cons, List.take_zero, if_true, if_false, ite_true, ite_false, Bool.and_true, Bool.true_and, Bool.false_eq_true, reduceIte, Option.map_some, Option.bind_some, Nat.reduceAdd, Nat.reduceSub, Nat.reduceLT, Nat.reduceLeDiff, decide_true, decide_false, Bool.not_true, Bool.not_false, Bool.or_true, Bool.or_false, Bool.false_or, Bool.true_or, eqD_int, eqD_str, dEq, dNe, Option.map_none, atI_0, atI_1, atI_2, mulOk_a, mulOk_b, cap, restE, wipeE, dMul, dAdd, ixN30, ixN31, ixN32, List.range_succ_eq_map, List.all_cons, List.all_nil, Bool.and_self, c1, d]
    rfl
  have e2 : mAsg (mCb dSum (mArg (asL (mLc (rd 0) elems [2, 3] tg1 m_counts_c2 m_counts_e2)) (PD.ret []))) (setD 4) [.dat (patchD p), .dat (.int (total isAdd p : Nat)), .non, .non, .non] = some (.nx [.dat (patchD p), .dat (.int (total isAdd p : Nat)), .non, .non, .dat (.int (total isDrop p : Nat))]) := by
    have d := dSum_map ((p.filter isDrop).map size)
    unfold patchD at c2 ⊢
    simp only [mSeq, mE, mIf, mRet, mAsg, mDrop, mAug, mPar, mPar3, mNext, mBreak, mCont, setD, setCons, setTup, setNil, mOp, mUn, mCb, mArg, mTest, mTru, mAnd, mOr, mNot, mIfE, mChain, mTupD, mLstD, mLstO, mSetO, mPart, mSl, mAndV, mOrV, mNotV, bnd, PD.ret, lft, rd, rdD, asB, asI, mIxO, ixOwn, ownAt, ownSet, mSetAtO, mSetAt, mMeth, mLenO, mTruO, mCall, mCallP, locsP, runF, okEnd, isPin, clean, cleanL, noPin, pin0, mTup, mLst, mCbO, mOpO, asL, asO, mLc, inB, mFor, mForE, mForR, mRaiseE, mRaise, mTold, Own.d, dInt, dInt2, dSub, dDiv, dMod, dLt, dLe, dGt, dGe, dNeg, dIpAdd, dLen, dIntOf, dAbs, dMax2, dTuple, dList, dIsN, elems, dFmt, dStrI, List.getElem?_cons_zero, List.getElem?_cons_succ, List.set_cons_zero, List.set_cons_succ, List.length_cons, List.length_nil, List.cons_append, List.nil_append, List.map_cons, List.map_nil, List.replicate_succ, List.replicate_zero, List.take_succ_cons, List.take_zero, if_true, if_false, ite_true, ite_false, Bool.and_true, Bool.true_and, Bool.false_eq_true, reduceIte, Option.map_some, Option.bind_some, Nat.reduceAdd, Nat.reduceSub, Nat.reduceLT, Nat.reduceLeDiff, decide_true, decide_false, Bool.not_true, Bool.not_false, Bool.or_true, Bool.or_false, Bool.false_or, Bool.true_or, eqD_int, eqD_str, dEq, dNe, Option.map_none, atI_0, atI_1, atI_2, mulOk_a, mulOk_b, cap, restE, wipeE, dMul, dAdd, ixN30, ixN31, ixN32, List.range_succ_eq_map, List.all_cons, List.all_nil, Bool.and_self, c2, d]
    rfl
  have body : m_counts [.dat (patchD p), .non, .non, .non, .non] = some (.rt (.tup [.int (total isAdd p : Nat), .int (total isDrop p : Nat)]) [.dat (patchD p), .dat (.int (total isAdd p : Nat)), .non, .non, .dat (.int (total isDrop p : Nat))]) := by
    unfold m_counts
    rw [mSeq_nx e1, mSeq_nx e2]
    rfl
  exact runF_rt (n := 1) (N := 5) (ρ0 := [.dat (patchD p), .non, .non, .non, .non]) rfl body rfl
theorem leads_total {p : List Op} {xs ys : List Str} (h : Leads p xs ys) : total isAdd p + total isKp p = ys.length ∧ total isDrop p + total isKp p = xs.length := by
  induction h with
  | nil => exact ⟨rfl, rfl⟩
  | keep ks _ _ ih => simp only [total, List.filter, isAdd, isDrop, isKp, size, List.map_cons, List.sum_cons, List.length_append] at ih ⊢; omega
  | drop ls _ _ ih => simp only [total, List.filter, isAdd, isDrop, isKp, size, List.map_cons, List.sum_cons, List.length_append] at ih ⊢; omega
  | add ls _ _ ih => simp only [total, List.filter, isAdd, isDrop, isKp, size, List.map_cons, List.sum_cons, List.length_append] at ih ⊢; omega
theorem total_append (b : Op → Bool) (p q : List Op) : total b (p ++ q) = total b p + total b q := by
  simp [total]
theorem pb_kept (xs ys : List Str) : ∀ (l : List (Nat × Nat)) (k h t : Nat), total isKp (pbL xs ys l k h t).1 + (pbL xs ys l k h t).2 = k + l.length
  | [], k, h, t => by simp [pbL, total]
  | (o, n) :: ps, k, h, t => by
    have ih := pb_kept xs ys ps (nextK k h t o n) (o + 1) (n + 1)
    have e : total isKp (preO xs ys k h t o n) + nextK k h t o n = k + 1 := by
      unfold preO nextK
      rw [total_append, total_append]
      have z1 : total isKp (if h < o then [Op.drop (slc xs h o)] else []) = 0 := by split <;> rfl
      have z2 : total isKp (if t < n then [Op.add (slc ys t n)] else []) = 0 := by split <;> rfl
      rw [z1, z2]
      by_cases c : 0 < k ∧ (h < o ∨ t < n)
      · rw [if_pos c, if_pos c]
        simp [total, isKp, size, List.filter]
      · rw [if_neg c, if_neg c]
        simp [total]
    simp only [pbL, total_append, List.length_cons]
    omega
theorem patch_kept (xs ys : List Str) : total isKp (patch xs ys) = (gw xs ys 0 0).length := by
  have h := pb_kept xs ys (allP xs ys) 0 0 0
  have l : (allP xs ys).length = (gw xs ys 0 0).length + 1 := by unfold allP; simp
  have nz : 0 < (pbL xs ys (allP xs ys) 0 0 0).2 := by
    have key : ∀ (ps : List (Nat × Nat)) (k h t : Nat), 0 < k ∨ ps ≠ [] → 0 < (pbL xs ys ps k h t).2 := by
      intro ps
      induction ps with
      | nil => intro k h t z; rcases z with z | z
               · exact z
               · exact absurd rfl z
      | cons q ps ih => intro k h t _; obtain ⟨o, n⟩ := q; exact ih _ _ _ (.inl (by unfold nextK; omega))
    exact key _ _ _ _ (.inr (by unfold allP; simp))
  unfold patch
  rw [total_append]
  have f : total isKp (fin (pbL xs ys (allP xs ys) 0 0 0).2) = (pbL xs ys (allP xs ys) 0 0 0).2 - 1 := by
    unfold fin
    split
    · simp [total, isKp, size, List.filter]
    · simp [total]; omega
  omega
end K02
end
section
set_option maxHeartbeats 0
namespace K02
open PySem L2 PD
theorem lf_add (X P s6 s7 : PD.Loc) (R L : List D) (p : D) (h : R.length + L.length ≤ 100000) : m__law_fitted_b1 [X, P, .dat (.tup R), .dat p, .dat (.str "add"), .dat (.tup L), s6, s7] = some (.nx [X, P, .dat (.tup (R ++ L)), .dat p, .dat (.str "add"), .dat (.tup L), s6, s7]) := by
  have c1 : mTest (mOp dEq (rd 4) (PD.ret (.str "add"))) [X, P, .dat (.tup R), .dat p, .dat (.str "add"), .dat (.tup L), s6, s7] = some (.ok true [X, P, .dat (.tup R), .dat p, .dat (.str "add"), .dat (.tup L), s6, s7]) := by
    simp [mSeq, mE, mIf, mRet, mAsg, mDrop, mAug, mPar, mPar3, mNext, mBreak, mCont, setD, setCons, setTup, setNil, mOp, mUn, mCb, mArg, mTest, mTru, mAnd, mOr, mNot, mIfE, mChain, mTupD, mLstD, mLstO, mSetO, mPart, mSl, mAndV, mOrV, mNotV, bnd, PD.ret, lft, rd, rdD, asB, asI, mIxO, ixOwn, ownAt, ownSet, mSetAtO, mSetAt, mMeth, mLenO, mTruO, mCall, mCallP, locsP, runF, okEnd, isPin, clean, cleanL, noPin, pin0, mTup, mLst, mCbO, mOpO, asL, asO, mLc, inB, mFor, mForE, mForR, mRaiseE, mRaise, mTold, Own.d, dInt, dInt2, dSub, dDiv, dMod, dLt, dLe, dGt, dGe, dNeg, dIpAdd, dLen, dIntOf, dAbs, dMax2, dTuple, dList, dIsN, elems, dFmt, dStrI, List.getElem?_cons_zero, List.getElem?_cons_succ, List.set_cons_zero, List.set_cons_succ, List.length_cons, List.length_nil, List.cons_append, List.nil_append, List.map_cons, List.map_nil, List.replicate_succ, List.replicate_zero, List.take_succ_cons, List.take_zero, if_true, if_false, ite_true, ite_false, Bool.and_true, Bool.true_and, Bool.false_eq_true, reduceIte, Option.map_some, Option.bind_some, Nat.reduceAdd, Nat.reduceSub, Nat.reduceLT, Nat.reduceLeDiff, decide_true, decide_false, Bool.not_true, Bool.not_false, Bool.or_true, Bool.or_false, Bool.false_or, Bool.true_or, eqD_int, eqD_str, dEq, dNe, Option.map_none, atI_0, atI_1, atI_2, mulOk_a, mulOk_b, cap, restE, wipeE, dMul, dAdd, ixN30, ixN31, ixN32, List.range_succ_eq_map]
  unfold m__law_fitted_b1
  rw [mIf_t c1]
  simp [mSeq, mE, mIf, mRet, mAsg, mDrop, mAug, mPar, mPar3, mNext, mBreak, mCont, setD, setCons, setTup, setNil, mOp, mUn, mCb, mArg, mTest, mTru, mAnd, mOr, mNot, mIfE, mChain, mTupD, mLstD, mLstO, mSetO, mPart, mSl, mAndV, mOrV, mNotV, bnd, PD.ret, lft, rd, rdD, asB, asI, mIxO, ixOwn, ownAt, ownSet, mSetAtO, mSetAt, mMeth, mLenO, mTruO, mCall, mCallP, locsP, runF, okEnd, isPin, clean, cleanL, noPin, pin0, mTup, mLst, mCbO, mOpO, asL, asO, mLc, inB, mFor, mForE, mForR, mRaiseE, mRaise, mTold, Own.d, dInt, dInt2, dSub, dDiv, dMod, dLt, dLe, dGt, dGe, dNeg, dIpAdd, dLen, dIntOf, dAbs, dMax2, dTuple, dList, dIsN, elems, dFmt, dStrI, List.getElem?_cons_zero, List.getElem?_cons_succ, List.set_cons_zero, List.set_cons_succ, List.length_cons, List.length_nil, List.cons_append, List.nil_append, List.map_cons, List.map_nil, List.replicate_succ, List.replicate_zero, List.take_succ_cons, List.take_zero, if_true, if_false, ite_true, ite_false, Bool.and_true, Bool.true_and, Bool.false_eq_true, reduceIte, Option.map_some, Option.bind_some, Nat.reduceAdd, Nat.reduceSub, Nat.reduceLT, Nat.reduceLeDiff, decide_true, decide_false, Bool.not_true, Bool.not_false, Bool.or_true, Bool.or_false, Bool.false_or, Bool.true_or, eqD_int, eqD_str, dEq, dNe, Option.map_none, atI_0, atI_1, atI_2, mulOk_a, mulOk_b, cap, restE, wipeE, dMul, dAdd, ixN30, ixN31, ixN32, List.range_succ_eq_map, h]
abbrev lfC : MM Bool := mOr (mTest (mOp dLt (mCb dLen (mArg (rd 7) (PD.ret []))) (rd 6))) (mAnd (mTest (mOp dEq (rd 4) (PD.ret (.str "drop")))) (mTest (mOp dNe (rd 7) (rd 5))))
theorem lfC_keep (X P A B : PD.Loc) (S : List D) (n : Int) : lfC [X, P, A, B, .dat (.str "keep"), .dat (.int n), .dat (.int n), .dat (.tup S)] = some (.ok (decide ((S.length : Int) < n)) [X, P, A, B, .dat (.str "keep"), .dat (.int n), .dat (.int n), .dat (.tup S)]) := by
  by_cases c : (S.length : Int) < n
  · simp [mSeq, mE, mIf, mRet, mAsg, mDrop, mAug, mPar, mPar3, mNext, mBreak, mCont, setD, setCons, setTup, setNil, mOp, mUn, mCb, mArg, mTest, mTru, mAnd, mOr, mNot, mIfE, mChain, mTupD, mLstD, mLstO, mSetO, mPart, mSl, mAndV, mOrV, mNotV, bnd, PD.ret, lft, rd, rdD, asB, asI, mIxO, ixOwn, ownAt, ownSet, mSetAtO, mSetAt, mMeth, mLenO, mTruO, mCall, mCallP, locsP, runF, okEnd, isPin, clean, cleanL, noPin, pin0, mTup, mLst, mCbO, mOpO, asL, asO, mLc, inB, mFor, mForE, mForR, mRaiseE, mRaise, mTold, Own.d, dInt, dInt2, dSub, dDiv, dMod, dLt, dLe, dGt, dGe, dNeg, dIpAdd, dLen, dIntOf, dAbs, dMax2, dTuple, dList, dIsN, elems, dFmt, dStrI, List.getElem?_cons_zero, List.getElem?_cons_succ, List.set_cons_zero, List.set_cons_succ, List.length_cons, List.length_nil, List.cons_append, List.nil_append, List.map_cons, List.map_nil, List.replicate_succ, List.replicate_zero, List.take_succ_cons, List.take_zero, if_true, if_false, ite_true, ite_false, Bool.and_true, Bool.true_and, Bool.false_eq_true, reduceIte, Option.map_some, Option.bind_some, Nat.reduceAdd, Nat.reduceSub, Nat.reduceLT, Nat.reduceLeDiff, decide_true, decide_false, Bool.not_true, Bool.not_false, Bool.or_true, Bool.or_false, Bool.false_or, Bool.true_or, eqD_int, eqD_str, dEq, dNe, Option.map_none, atI_0, atI_1, atI_2, mulOk_a, mulOk_b, cap, restE, wipeE, dMul, dAdd, ixN30, ixN31, ixN32, List.range_succ_eq_map, c]
  · simp [mSeq, mE, mIf, mRet, mAsg, mDrop, mAug, mPar, mPar3, mNext, mBreak, mCont, setD, setCons, setTup, setNil, mOp, mUn, mCb, mArg, mTest, mTru, mAnd, mOr, mNot, mIfE, mChain, mTupD, mLstD, mLstO, mSetO, mPart, mSl, mAndV, mOrV, mNotV, bnd, PD.ret, lft, rd, rdD, asB, asI, mIxO, ixOwn, ownAt, ownSet, mSetAtO, mSetAt, mMeth, mLenO, mTruO, mCall, mCallP, locsP, runF, okEnd, isPin, clean, cleanL, noPin, pin0, mTup, mLst, mCbO, mOpO, asL, asO, mLc, inB, mFor, mForE, mForR, mRaiseE, mRaise, mTold, Own.d, dInt, dInt2, dSub, dDiv, dMod, dLt, dLe, dGt, dGe, dNeg, dIpAdd, dLen, dIntOf, dAbs, dMax2, dTuple, dList, dIsN, elems, dFmt, dStrI, List.getElem?_cons_zero, List.getElem?_cons_succ, List.set_cons_zero, List.set_cons_succ, List.length_cons, List.length_nil, List.cons_append, List.nil_append, List.map_cons, List.map_nil, List.replicate_succ, List.replicate_zero, List.take_succ_cons, List.take_zero, if_true, if_false, ite_true, ite_false, Bool.and_true, Bool.true_and, Bool.false_eq_true, reduceIte, Option.map_some, Option.bind_some, Nat.reduceAdd, Nat.reduceSub, Nat.reduceLT, Nat.reduceLeDiff, decide_true, decide_false, Bool.not_true, Bool.not_false, Bool.or_true, Bool.or_false, Bool.false_or, Bool.true_or, eqD_int, eqD_str, dEq, dNe, Option.map_none, atI_0, atI_1, atI_2, mulOk_a, mulOk_b, cap, restE, wipeE, dMul, dAdd, ixN30, ixN31, ixN32, List.range_succ_eq_map, c, s_kd]
theorem lfC_drop (X P A B : PD.Loc) (S L : List D) (n : Int) (b : Bool) (he : eqD (.tup S) (.tup L) = some b) : lfC [X, P, A, B, .dat (.str "drop"), .dat (.tup L), .dat (.int n), .dat (.tup S)] = some (.ok (decide ((S.length : Int) < n) || !b) [X, P, A, B, .dat (.str "drop"), .dat (.tup L), .dat (.int n), .dat (.tup S)]) := by
  by_cases c : (S.length : Int) < n
  · simp [mSeq, mE, mIf, mRet, mAsg, mDrop, mAug, mPar, mPar3, mNext, mBreak, mCont, setD, setCons, setTup, setNil, mOp, mUn, mCb, mArg, mTest, mTru, mAnd, mOr, mNot, mIfE, mChain, mTupD, mLstD, mLstO, mSetO, mPart, mSl, mAndV, mOrV, mNotV, bnd, PD.ret, lft, rd, rdD, asB, asI, mIxO, ixOwn, ownAt, ownSet, mSetAtO, mSetAt, mMeth, mLenO, mTruO, mCall, mCallP, locsP, runF, okEnd, isPin, clean, cleanL, noPin, pin0, mTup, mLst, mCbO, mOpO, asL, asO, mLc, inB, mFor, mForE, mForR, mRaiseE, mRaise, mTold, Own.d, dInt, dInt2, dSub, dDiv, dMod, dLt, dLe, dGt, dGe, dNeg, dIpAdd, dLen, dIntOf, dAbs, dMax2, dTuple, dList, dIsN, elems, dFmt, dStrI, List.getElem?_cons_zero, List.getElem?_cons_succ, List.set_cons_zero, List.set_cons_succ, List.length_cons, List.length_nil, List.cons_append, List.nil_append, List.map_cons, List.map_nil, List.replicate_succ, List.replicate_zero, List.take_succ_cons, List.take_zero, if_true, if_false, ite_true, ite_false, Bool.and_true, Bool.true_and, Bool.false_eq_true, reduceIte, Option.map_some, Option.bind_some, Nat.reduceAdd, Nat.reduceSub, Nat.reduceLT, Nat.reduceLeDiff, decide_true, decide_false, Bool.not_true, Bool.not_false, Bool.or_true, Bool.or_false, Bool.false_or, Bool.true_or, eqD_int, eqD_str, dEq, dNe, Option.map_none, atI_0, atI_1, atI_2, mulOk_a, mulOk_b, cap, restE, wipeE, dMul, dAdd, ixN30, ixN31, ixN32, List.range_succ_eq_map, c]
  · simp [mSeq, mE, mIf, mRet, mAsg, mDrop, mAug, mPar, mPar3, mNext, mBreak, mCont, setD, setCons, setTup, setNil, mOp, mUn, mCb, mArg, mTest, mTru, mAnd, mOr, mNot, mIfE, mChain, mTupD, mLstD, mLstO, mSetO, mPart, mSl, mAndV, mOrV, mNotV, bnd, PD.ret, lft, rd, rdD, asB, asI, mIxO, ixOwn, ownAt, ownSet, mSetAtO, mSetAt, mMeth, mLenO, mTruO, mCall, mCallP, locsP, runF, okEnd, isPin, clean, cleanL, noPin, pin0, mTup, mLst, mCbO, mOpO, asL, asO, mLc, inB, mFor, mForE, mForR, mRaiseE, mRaise, mTold, Own.d, dInt, dInt2, dSub, dDiv, dMod, dLt, dLe, dGt, dGe, dNeg, dIpAdd, dLen, dIntOf, dAbs, dMax2, dTuple, dList, dIsN, elems, dFmt, dStrI, List.getElem?_cons_zero, List.getElem?_cons_succ, List.set_cons_zero, List.set_cons_succ, List.length_cons, List.length_nil, List.cons_append, List.nil_append, List.map_cons, List.map_nil, List.replicate_succ, List.replicate_zero, List.take_succ_cons, List.take_zero, if_true, if_false, ite_true, ite_false, Bool.and_true, Bool.true_and, Bool.false_eq_true, reduceIte, Option.map_some, Option.bind_some, Nat.reduceAdd, Nat.reduceSub, Nat.reduceLT, Nat.reduceLeDiff, decide_true, decide_false, Bool.not_true, Bool.not_false, Bool.or_true, Bool.or_false, Bool.false_or, Bool.true_or, eqD_int, eqD_str, dEq, dNe, Option.map_none, atI_0, atI_1, atI_2, mulOk_a, mulOk_b, cap, restE, wipeE, dMul, dAdd, ixN30, ixN31, ixN32, List.range_succ_eq_map, c, he]
theorem lf_row (X P s6 s7 : PD.Loc) (R Z S : List D) (p n : Int) (w : Str) (v : D) (b : Bool) (hw : ¬ (w = "add")) (hX : X = .dat (.tup Z)) (hn : mIfE (mTest (mOp dEq (rd 4) (PD.ret (.str "keep")))) (rd 5) (mCb dLen (mArg (rd 5) (PD.ret []))) [X, P, .dat (.tup R), .dat (.int p), .dat (.str w), .dat v, s6, s7] = some (.ok (.int n) [X, P, .dat (.tup R), .dat (.int p), .dat (.str w), .dat v, s6, s7]))
    (hs : dSl (.tup Z) (some p) (some (p + n)) = some (.tup S)) (hc : lfC [X, P, .dat (.tup R), .dat (.int p), .dat (.str w), .dat v, .dat (.int n), .dat (.tup S)] = some (.ok b [X, P, .dat (.tup R), .dat (.int p), .dat (.str w), .dat v, .dat (.int n), .dat (.tup S)])) (hl : R.length + S.length ≤ 100000) :
    m__law_fitted_b1 [X, P, .dat (.tup R), .dat (.int p), .dat (.str w), .dat v, s6, s7] = if b = true then some (.rt .non [X, P, .dat (.tup R), .dat (.int p), .dat (.str w), .dat v, .dat (.int n), .dat (.tup S)])
      else some (.nx [X, P, .dat (.tup (R ++ if w = "keep" then S else [])), .dat (.int (p + n)), .dat (.str w), .dat v, .dat (.int n), .dat (.tup S)]) := by
  subst hX
  have c1 : mTest (mOp dEq (rd 4) (PD.ret (.str "add"))) [.dat (.tup Z), P, .dat (.tup R), .dat (.int p), .dat (.str w), .dat v, s6, s7] = some (.ok false [.dat (.tup Z), P, .dat (.tup R), .dat (.int p), .dat (.str w), .dat v, s6, s7]) := by
    simp [mSeq, mE, mIf, mRet, mAsg, mDrop, mAug, mPar, mPar3, mNext, mBreak, mCont, setD, setCons, setTup, setNil, mOp, mUn, mCb, mArg, mTest, mTru, mAnd, mOr, mNot, mIfE, mChain, mTupD, mLstD, mLstO, mSetO, mPart, mSl, mAndV, mOrV, mNotV, bnd, PD.ret, lft, rd, rdD, asB, asI, mIxO, ixOwn, ownAt, ownSet, mSetAtO, mSetAt, mMeth, mLenO, mTruO, mCall, mCallP, locsP, runF, okEnd, isPin, clean, cleanL, noPin, pin0, mTup, mLst, mCbO, mOpO, asL, asO, mLc, inB, mFor, mForE, mForR, mRaiseE, mRaise, mTold, Own.d, dInt, dInt2, dSub, dDiv, dMod, dLt, dLe, dGt, dGe, dNeg, dIpAdd, dLen, dIntOf, dAbs, dMax2, dTuple, dList, dIsN, elems, dFmt, dStrI, List.getElem?_cons_zero, List.getElem?_cons_succ, List.set_cons_zero, List.set_cons_succ, List.length_cons, List.length_nil, List.cons_append, List.nil_append, List.map_cons, List.map_nil, List.replicate_succ, List.replicate_zero, List.take_succ_cons, List.take_zero, if_true, if_false, ite_true, ite_false, Bool.and_true, Bool.true_and, Bool.false_eq_true, reduceIte, Option.map_some, Option.bind_some, Nat.reduceAdd, Nat.reduceSub, Nat.reduceLT, Nat.reduceLeDiff, decide_true, decide_false, Bool.not_true, Bool.not_false, Bool.or_true, Bool.or_false, Bool.false_or, Bool.true_or, eqD_int, eqD_str, dEq, dNe, Option.map_none, atI_0, atI_1, atI_2, mulOk_a, mulOk_b, cap, restE, wipeE, dMul, dAdd, ixN30, ixN31, ixN32, List.range_succ_eq_map, hw]
  have e2 : mAsg (mIfE (mTest (mOp dEq (rd 4) (PD.ret (.str "keep")))) (rd 5) (mCb dLen (mArg (rd 5) (PD.ret [])))) (setD 6) [.dat (.tup Z), P, .dat (.tup R), .dat (.int p), .dat (.str w), .dat v, s6, s7] = some (.nx [.dat (.tup Z), P, .dat (.tup R), .dat (.int p), .dat (.str w), .dat v, .dat (.int n), s7]) := by
    unfold mAsg
    rw [mE_ok hn]
    rfl
  have e3 : mAsg (mSl (rd 0) (mPart (rd 3)) (mPart (mOp dAdd (rd 3) (rd 6)))) (setD 7) [.dat (.tup Z), P, .dat (.tup R), .dat (.int p), .dat (.str w), .dat v, .dat (.int n), s7] = some (.nx [.dat (.tup Z), P, .dat (.tup R), .dat (.int p), .dat (.str w), .dat v, .dat (.int n), .dat (.tup S)]) := by
    simp [mSeq, mE, mIf, mRet, mAsg, mDrop, mAug, mPar, mPar3, mNext, mBreak, mCont, setD, setCons, setTup, setNil, mOp, mUn, mCb, mArg, mTest, mTru, mAnd, mOr, mNot, mIfE, mChain, mTupD, mLstD, mLstO, mSetO, mPart, mSl, mAndV, mOrV, mNotV, bnd, PD.ret, lft, rd, rdD, asB, asI, mIxO, ixOwn, ownAt, ownSet, mSetAtO, mSetAt, mMeth, mLenO, mTruO, mCall, mCallP, locsP, runF, okEnd, isPin, clean, cleanL, noPin, pin0, mTup, mLst, mCbO, mOpO, asL, asO, mLc, inB, mFor, mForE, mForR, mRaiseE, mRaise, mTold, Own.d, dInt, dInt2, dSub, dDiv, dMod, dLt, dLe, dGt, dGe, dNeg, dIpAdd, dLen, dIntOf, dAbs, dMax2, dTuple, dList, dIsN, elems, dFmt, dStrI, List.getElem?_cons_zero, List.getElem?_cons_succ, List.set_cons_zero, List.set_cons_succ, List.length_cons, List.length_nil, List.cons_append, List.nil_append, List.map_cons, List.map_nil, List.replicate_succ, List.replicate_zero, List.take_succ_cons, List.take_zero, if_true, if_false, ite_true, ite_false, Bool.and_true, Bool.true_and, Bool.false_eq_true, reduceIte, Option.map_some, Option.bind_some, Nat.reduceAdd, Nat.reduceSub, Nat.reduceLT, Nat.reduceLeDiff, decide_true, decide_false, Bool.not_true, Bool.not_false, Bool.or_true, Bool.or_false, Bool.false_or, Bool.true_or, eqD_int, eqD_str, dEq, dNe, Option.map_none, atI_0, atI_1, atI_2, mulOk_a, mulOk_b, cap, restE, wipeE, dMul, dAdd, ixN30, ixN31, ixN32, List.range_succ_eq_map, hs]
  unfold m__law_fitted_b1
  rw [mIf_f c1, mSeq_nx e2, mSeq_nx e3]
  cases b with
  | true =>
    have e4 : mIf lfC (mRet (PD.ret .non)) mNext [.dat (.tup Z), P, .dat (.tup R), .dat (.int p), .dat (.str w), .dat v, .dat (.int n), .dat (.tup S)] = some (.rt .non [.dat (.tup Z), P, .dat (.tup R), .dat (.int p), .dat (.str w), .dat v, .dat (.int n), .dat (.tup S)]) := by
      rw [mIf_t hc]; rfl
    rw [mSeq_rt e4, if_pos rfl]
  | false =>
    have e4 : ∀ m : MS, mIf lfC m mNext [.dat (.tup Z), P, .dat (.tup R), .dat (.int p), .dat (.str w), .dat v, .dat (.int n), .dat (.tup S)] = some (.nx [.dat (.tup Z), P, .dat (.tup R), .dat (.int p), .dat (.str w), .dat v, .dat (.int n), .dat (.tup S)]) := fun m => by
      rw [mIf_f hc]; rfl
    rw [mSeq_nx (e4 _), if_neg Bool.false_ne_true]
    by_cases c : w = "keep"
    · simp [mSeq, mE, mIf, mRet, mAsg, mDrop, mAug, mPar, mPar3, mNext, mBreak, mCont, setD, setCons, setTup, setNil, mOp, mUn, mCb, mArg, mTest, mTru, mAnd, mOr, mNot, mIfE, mChain, mTupD, mLstD, mLstO, mSetO, mPart, mSl, mAndV, mOrV, mNotV, bnd, PD.ret, lft, rd, rdD, asB, asI, mIxO, ixOwn, ownAt, ownSet, mSetAtO, mSetAt, mMeth, mLenO, mTruO, mCall, mCallP, locsP, runF, okEnd, isPin, clean, cleanL, noPin, pin0, mTup, mLst, mCbO, mOpO, asL, asO, mLc, inB, mFor, mForE, mForR, mRaiseE, mRaise, mTold, Own.d, dInt, dInt2, dSub, dDiv, dMod, dLt, dLe, dGt, dGe, dNeg, dIpAdd, dLen, dIntOf, dAbs, dMax2, dTuple, dList, dIsN, elems, dFmt, dStrI, List.getElem?_cons_zero, List.getElem?_cons_succ, List.set_cons_zero, List.set_cons_succ, List.length_cons, List.length_nil, List.cons_append, List.nil_append, List.map_cons, List.map_nil, List.replicate_succ, List.replicate_zero, List.take_succ_cons, List.take_zero, if_true, if_false, ite_true, ite_false, Bool.and_true, Bool.true_and, Bool.false_eq_true, reduceIte, Option.map_some, Option.bind_some, Nat.reduceAdd, Nat.reduceSub, Nat.reduceLT, Nat.reduceLeDiff, decide_true, decide_false, Bool.not_true, Bool.not_false, Bool.or_true, Bool.or_false, Bool.false_or, Bool.true_or, eqD_int, eqD_str, dEq, dNe, Option.map_none, atI_0, atI_1, atI_2, mulOk_a, mulOk_b, cap, restE, wipeE, dMul, dAdd, ixN30, ixN31, ixN32, List.range_succ_eq_map, c, hl]
    · simp [mSeq, mE, mIf, mRet, mAsg, mDrop, mAug, mPar, mPar3, mNext, mBreak, mCont, setD, setCons, setTup, setNil, mOp, mUn, mCb, mArg, mTest, mTru, mAnd, mOr, mNot, mIfE, mChain, mTupD, mLstD, mLstO, mSetO, mPart, mSl, mAndV, mOrV, mNotV, bnd, PD.ret, lft, rd, rdD, asB, asI, mIxO, ixOwn, ownAt, ownSet, mSetAtO, mSetAt, mMeth, mLenO, mTruO, mCall, mCallP, locsP, runF, okEnd, isPin, clean, cleanL, noPin, pin0, mTup, mLst, mCbO, mOpO, asL, asO, mLc, inB, mFor, mForE, mForR, mRaiseE, mRaise, mTold, Own.d, dInt, dInt2, dSub, dDiv, dMod, dLt, dLe, dGt, dGe, dNeg, dIpAdd, dLen, dIntOf, dAbs, dMax2, dTuple, dList, dIsN, elems, dFmt, dStrI, List.getElem?_cons_zero, List.getElem?_cons_succ, List.set_cons_zero, List.set_cons_succ, List.length_cons, List.length_nil, List.cons_append, List.nil_append, List.map_cons, List.map_nil, List.replicate_succ, List.replicate_zero, List.take_succ_cons, List.take_zero, if_true, if_false, ite_true, ite_false, Bool.and_true, Bool.true_and, Bool.false_eq_true, reduceIte, Option.map_some, Option.bind_some, Nat.reduceAdd, Nat.reduceSub, Nat.reduceLT, Nat.reduceLeDiff, decide_true, decide_false, Bool.not_true, Bool.not_false, Bool.or_true, Bool.or_false, Bool.false_or, Bool.true_or, eqD_int, eqD_str, dEq, dNe, Option.map_none, atI_0, atI_1, atI_2, mulOk_a, mulOk_b, cap, restE, wipeE, dMul, dAdd, ixN30, ixN31, ixN32, List.range_succ_eq_map, c, show R.length ≤ 100000 by omega]
theorem lf_keep (zs : List Str) (P : PD.Loc) (R : List Str) (pl n : Nat) (s6 s7 : PD.Loc) (h : pl ≤ zs.length) (hl : R.length + n ≤ 99000) :
    m__law_fitted_b1 [.dat (linesT zs), P, .dat (linesT R), .dat (.int pl), .dat (.str "keep"), .dat (.int n), s6, s7] = if zs.length < pl + n then some (.rt .non [.dat (linesT zs), P, .dat (linesT R), .dat (.int pl), .dat (.str "keep"), .dat (.int n), .dat (.int n), .dat (linesT ((zs.drop pl).take n))])
      else some (.nx [.dat (linesT zs), P, .dat (linesT (R ++ (zs.drop pl).take n)), .dat (.int ((pl + n : Nat) : Int)), .dat (.str "keep"), .dat (.int n), .dat (.int n), .dat (linesT ((zs.drop pl).take n))]) := by
  have z := lf_row (.dat (linesT zs)) P s6 s7 (R.map .str) (zs.map .str) (((zs.drop pl).take n).map .str) pl n "keep" (.int n) _ s_ka rfl (by simp [mSeq, mE, mIf, mRet, mAsg, mDrop, mAug, mPar, mPar3, mNext, mBreak, mCont, setD, setCons, setTup, setNil, mOp, mUn, mCb, mArg, mTest, mTru, mAnd, mOr, mNot, mIfE, mChain, mTupD, mLstD, mLstO, mSetO, mPart, mSl, mAndV, mOrV, mNotV, bnd, PD.ret, lft, rd, rdD, asB, asI, mIxO, ixOwn, ownAt, ownSet, mSetAtO, mSetAt, mMeth, mLenO, mTruO, mCall, mCallP, locsP, runF, okEnd, isPin, clean, cleanL, noPin, pin0, mTup, mLst, mCbO, mOpO, asL, asO, mLc, inB, mFor, mForE, mForR, mRaiseE, mRaise, mTold, Own.d, dInt, dInt2, dSub, dDiv, dMod, dLt, dLe, dGt, dGe, dNeg, dIpAdd, dLen, dIntOf, dAbs, dMax2, dTuple, dList, dIsN, elems, dFmt, dStrI, List.getElem?_cons_zero, List.getElem?_cons_succ, List.set_cons_zero, List.set_cons_succ, List.length_cons, List.length_nil, List.cons_append, List.nil_append, List.map_cons, List.map_nil, List.replicate_succ, List.replicate_zero, List.take_succ_cons, List.take_zero, if_true, if_false, ite_true, ite_false, Bool.and_true, Bool.true_and, Bool.false_eq_true, reduceIte, Option.map_some, Option.bind_some, Nat.reduceAdd, Nat.reduceSub, Nat.reduceLT, Nat.reduceLeDiff, decide_true, decide_false, Bool.not_true, Bool.not_false, Bool.or_true, Bool.or_false, Bool.false_or, Bool.true_or, eqD_int, eqD_str, dEq, dNe, Option.map_none, atI_0, atI_1, atI_2, mulOk_a, mulOk_b, cap, restE, wipeE, dMul, dAdd, ixN30, ixN31, ixN32, List.range_succ_eq_map]) (sl_any zs h) (lfC_keep _ _ _ _ _ _) (by simp; omega)
  have len : (((zs.drop pl).take n).map D.str).length = min n (zs.length - pl) := by simp
  rw [len] at z
  refine z.trans ?_
  by_cases c : zs.length < pl + n
  · rw [if_pos c, if_pos (by rw [decide_eq_true_eq]; omega)]
    rfl
  · rw [if_neg c, if_neg (by rw [decide_eq_true_eq]; omega), if_pos rfl]
    unfold linesT
    rw [List.map_append]
    rfl
theorem lf_drop (zs ls : List Str) (P : PD.Loc) (R : List Str) (pl : Nat) (s6 s7 : PD.Loc) (h : pl ≤ zs.length) (hl : R.length + ls.length ≤ 99000) :
    m__law_fitted_b1 [.dat (linesT zs), P, .dat (linesT R), .dat (.int pl), .dat (.str "drop"), .dat (linesT ls), s6, s7] = if ¬ (pl + ls.length ≤ zs.length ∧ (zs.drop pl).take ls.length = ls) then some (.rt .non [.dat (linesT zs), P, .dat (linesT R), .dat (.int pl), .dat (.str "drop"), .dat (linesT ls), .dat (.int ls.length), .dat (linesT ((zs.drop pl).take ls.length))])
      else some (.nx [.dat (linesT zs), P, .dat (linesT R), .dat (.int ((pl + ls.length : Nat) : Int)), .dat (.str "drop"), .dat (linesT ls), .dat (.int ls.length), .dat (linesT ((zs.drop pl).take ls.length))]) := by
  have he := eqD_lines ((zs.drop pl).take ls.length) ls
  have z := lf_row (.dat (linesT zs)) P s6 s7 (R.map .str) (zs.map .str) (((zs.drop pl).take ls.length).map .str) pl ls.length "drop" (linesT ls) _ s_da rfl (by unfold linesT; simp [mSeq, mE, mIf, mRet, mAsg, mDrop, mAug, mPar, mPar3, mNext, mBreak, mCont, setD, setCons, setTup, setNil, mOp, mUn, mCb, mArg, mTest, mTru, mAnd, mOr, mNot, mIfE, mChain, mTupD, mLstD, mLstO, mSetO, mPart, mSl, mAndV, mOrV, mNotV, bnd, PD.ret, lft, rd, rdD, asB, asI, mIxO, ixOwn, ownAt, ownSet, mSetAtO, mSetAt, mMeth, mLenO, mTruO, mCall, mCallP, locsP, runF, okEnd, isPin, clean, cleanL, noPin, pin0, mTup, mLst, mCbO, mOpO, asL, asO, mLc, inB, mFor, mForE, mForR, mRaiseE, mRaise, mTold, Own.d, dInt, dInt2, dSub, dDiv, dMod, dLt, dLe, dGt, dGe, dNeg, dIpAdd, dLen, dIntOf, dAbs, dMax2, dTuple, dList, dIsN, elems, dFmt, dStrI, List.getElem?_cons_zero, List.getElem?_cons_succ, List.set_cons_zero, List.set_cons_succ, List.length_cons, List.length_nil, List.cons_append, List.nil_append, List.map_cons, List.map_nil, List.replicate_succ, List.replicate_zero, List.take_succ_cons, List.take_zero, if_true, if_false, ite_true, ite_false, Bool.and_true, Bool.true_and, Bool.false_eq_true, reduceIte, Option.map_some, Option.bind_some, Nat.reduceAdd, Nat.reduceSub, Nat.reduceLT, Nat.reduceLeDiff, decide_true, decide_false, Bool.not_true, Bool.not_false, Bool.or_true, Bool.or_false, Bool.false_or, Bool.true_or, eqD_int, eqD_str, dEq, dNe, Option.map_none, atI_0, atI_1, atI_2, mulOk_a, mulOk_b, cap, restE, wipeE, dMul, dAdd, ixN30, ixN31, ixN32, List.range_succ_eq_map, s_dk]) (sl_any zs h) (lfC_drop _ _ _ _ _ _ _ _ he) (by simp; omega)
  have len : (((zs.drop pl).take ls.length).map D.str).length = min ls.length (zs.length - pl) := by simp
  rw [len, if_neg s_dk, List.append_nil] at z
  refine z.trans ?_
  by_cases c : pl + ls.length ≤ zs.length ∧ (zs.drop pl).take ls.length = ls
  · rw [if_neg (c := ¬ (pl + ls.length ≤ zs.length ∧ (zs.drop pl).take ls.length = ls)) (fun k => k c), if_neg (by simp; exact ⟨by omega, c.2⟩)]
    rfl
  · rw [if_pos c, if_pos (by
      simp
      by_cases c1 : zs.length < pl + ls.length
      · exact .inl (by omega)
      · exact .inr fun k => c ⟨by omega, k⟩)]
    rfl
theorem lf_loop (zs : List Str) (Pd : D) (hz : zs.length ≤ 1000) : ∀ (p : List Op) (pl : Nat) (R : List Str) (s4 s5 s6 s7 : PD.Loc), pl ≤ zs.length → R.length + wt p + (zs.length - pl) ≤ 50000 → (∀ o ∈ p, ∀ ls, o = .drop ls → ls.length ≤ 1000) → (∀ o ∈ p, ∀ n, o = .keep n → n ≤ 1000) →
    (∀ f rest, fitL p (zs.drop pl) = some (f, rest) → rest.length ≤ zs.length ∧ ∃ u4 u5 u6 u7, loopL tg2 m__law_fitted_b1 (p.map opD) [.dat (linesT zs), .dat Pd, .dat (linesT R), .dat (.int pl), s4, s5, s6, s7] = some (.nx [.dat (linesT zs), .dat Pd, .dat (linesT (R ++ f)), .dat (.int ((zs.length - rest.length : Nat) : Int)), u4, u5, u6, u7])) ∧
    (fitL p (zs.drop pl) = none → ∃ ρ, okEnd noPin 2 ρ = true ∧ loopL tg2 m__law_fitted_b1 (p.map opD) [.dat (linesT zs), .dat Pd, .dat (linesT R), .dat (.int pl), s4, s5, s6, s7] = some (.rt .non ρ))
  | [], pl, R, s4, s5, s6, s7, h, _, _, _ => by
    constructor
    · intro f rest e
      cases e
      refine ⟨by simp, s4, s5, s6, s7, ?_⟩
      rw [List.map_nil, loopL_nil, List.append_nil, List.length_drop, show zs.length - (zs.length - pl) = pl by omega]
    · intro e; cases e
  | .add ls :: p, pl, R, s4, s5, s6, s7, h, hl, hd, hk => by
    simp only [wt] at hl
    have st := lf_add (.dat (linesT zs)) (.dat Pd) s6 s7 (R.map .str) (ls.map .str) (.int pl) (by simp; omega)
    rw [← List.map_append] at st
    have ih := lf_loop zs Pd hz p pl (R ++ ls) (.dat (.str "add")) (.dat (linesT ls)) s6 s7 h (by rw [List.length_append]; omega) (fun o ho => hd o (List.mem_cons_of_mem _ ho)) (fun o ho => hk o (List.mem_cons_of_mem _ ho))
    have go := loopL_nx (ds := p.map opD) (tg2_ok (.dat (linesT zs)) (.dat Pd) (.dat (linesT R)) (.dat (.int pl)) s4 s5 s6 s7 _ _) st
    constructor
    · intro f rest e
      simp only [fitL] at e
      obtain ⟨⟨f', r'⟩, e1, e2⟩ := Option.map_eq_some_iff.mp e
      cases e2
      obtain ⟨k1, u4, u5, u6, u7, k2⟩ := ih.1 f' r' e1
      exact ⟨k1, u4, u5, u6, u7, by rw [List.append_assoc] at k2; exact go.trans k2⟩
    · intro e
      simp only [fitL] at e
      obtain ⟨ρ, k1, k2⟩ := ih.2 (Option.map_eq_none_iff.mp e)
      exact ⟨ρ, k1, go.trans k2⟩
  | .keep n :: p, pl, R, s4, s5, s6, s7, h, hl, hd, hk => by
    simp only [wt] at hl
    have hn := hk _ List.mem_cons_self n rfl
    have st := lf_keep zs (.dat Pd) R pl n s6 s7 h (by omega)
    by_cases c : zs.length < pl + n
    · rw [if_pos c] at st
      have e0 : fitL (.keep n :: p) (zs.drop pl) = none := by
        simp only [fitL]
        rw [if_neg (by rw [List.length_drop]; omega)]
      constructor
      · intro f rest e; rw [e0] at e; cases e
      · intro _
        exact ⟨_, rfl, by rw [List.map_cons]; exact loopL_rt (tg2_ok _ _ _ _ _ _ _ _ _ _) st⟩
    · rw [if_neg c] at st
      have len : ((zs.drop pl).take n).length = n := by simp; omega
      have ih := lf_loop zs Pd hz p (pl + n) (R ++ (zs.drop pl).take n) (.dat (.str "keep")) (.dat (.int n)) (.dat (.int n)) (.dat (linesT ((zs.drop pl).take n))) (by omega) (by rw [List.length_append, len]; omega) (fun o ho => hd o (List.mem_cons_of_mem _ ho)) (fun o ho => hk o (List.mem_cons_of_mem _ ho))
      have e0 : fitL (.keep n :: p) (zs.drop pl) = (fitL p (zs.drop (pl + n))).map fun r => ((zs.drop pl).take n ++ r.1, r.2) := by
        simp only [fitL]
        rw [if_pos (by rw [List.length_drop]; omega), List.drop_drop]
      have go := loopL_nx (ds := p.map opD) (tg2_ok (.dat (linesT zs)) (.dat Pd) (.dat (linesT R)) (.dat (.int pl)) s4 s5 s6 s7 _ _) st
      constructor
      · intro f rest e
        rw [e0] at e
        obtain ⟨⟨f', r'⟩, e1, e2⟩ := Option.map_eq_some_iff.mp e
        cases e2
        obtain ⟨k1, u4, u5, u6, u7, k2⟩ := ih.1 f' r' e1
        exact ⟨k1, u4, u5, u6, u7, by rw [List.append_assoc] at k2; exact go.trans k2⟩
      · intro e
        rw [e0] at e
        obtain ⟨ρ, k1, k2⟩ := ih.2 (Option.map_eq_none_iff.mp e)
        exact ⟨ρ, k1, go.trans k2⟩
  | .drop ls :: p, pl, R, s4, s5, s6, s7, h, hl, hd, hk => by
    simp only [wt] at hl
    have hn := hd _ List.mem_cons_self ls rfl
    have st := lf_drop zs ls (.dat Pd) R pl s6 s7 h (by omega)
    by_cases c : pl + ls.length ≤ zs.length ∧ (zs.drop pl).take ls.length = ls
    · rw [if_neg (fun k => k c)] at st
      have ih := lf_loop zs Pd hz p (pl + ls.length) R (.dat (.str "drop")) (.dat (linesT ls)) (.dat (.int ls.length)) (.dat (linesT ((zs.drop pl).take ls.length))) c.1 (by omega) (fun o ho => hd o (List.mem_cons_of_mem _ ho)) (fun o ho => hk o (List.mem_cons_of_mem _ ho))
      have e0 : fitL (.drop ls :: p) (zs.drop pl) = fitL p (zs.drop (pl + ls.length)) := by
        simp only [fitL]
        rw [if_pos ⟨by rw [List.length_drop]; omega, c.2⟩, List.drop_drop]
      have go := loopL_nx (ds := p.map opD) (tg2_ok (.dat (linesT zs)) (.dat Pd) (.dat (linesT R)) (.dat (.int pl)) s4 s5 s6 s7 _ _) st
      constructor
      · intro f rest e
        rw [e0] at e
        obtain ⟨k1, u4, u5, u6, u7, k2⟩ := ih.1 f rest e
        exact ⟨k1, u4, u5, u6, u7, go.trans k2⟩
      · intro e
        rw [e0] at e
        obtain ⟨ρ, k1, k2⟩ := ih.2 e
        exact ⟨ρ, k1, go.trans k2⟩
    · rw [if_pos c] at st
      have e0 : fitL (.drop ls :: p) (zs.drop pl) = none := by
        simp only [fitL]
        rw [if_neg (fun k => c ⟨by have := k.1; rw [List.length_drop] at this; omega, k.2⟩)]
      constructor
      · intro f rest e; rw [e0] at e; cases e
      · intro _
        exact ⟨_, rfl, by rw [List.map_cons]; exact loopL_rt (tg2_ok _ _ _ _ _ _ _ _ _ _) st⟩
/-- what the law's own reading gives: the lines, or None -/
def fitD : Option (List Str) → D
  | some r => linesT r
  | none => .non
theorem fitted_ok (zs : List Str) (p : List Op) (S : Sized zs p) : ∃ e, F__law_fitted [.dat (linesT zs), .dat (patchD p)] = some (.ok (fitD (fit p zs)) e) := by
  have L := lf_loop zs (patchD p) S.z p 0 [] .non .non .non .non (by omega) (by have := S.w; have := S.z; simp; omega) S.d S.k
  rw [List.drop_zero] at L
  have e0 : mAsg (mTupD (mArg (mTupD (PD.ret [])) (mArg (PD.ret (.int 0)) (PD.ret [])))) (setTup 2 (setCons (setD 2) (setCons (setD 3) setNil))) [.dat (linesT zs), .dat (patchD p), .non, .non, .non, .non, .non, .non] = some (.nx [.dat (linesT zs), .dat (patchD p), .dat (linesT []), .dat (.int ((0 : Nat) : Int)), .non, .non, .non, .non]) := by
    unfold linesT
    simp [mSeq, mE, mIf, mRet, mAsg, mDrop, mAug, mPar, mPar3, mNext, mBreak, mCont, setD, setCons, setTup, setNil, mOp, mUn, mCb, mArg, mTest, mTru, mAnd, mOr, mNot, mIfE, mChain, mTupD, mLstD, mLstO, mSetO, mPart, mSl, mAndV, mOrV, mNotV, bnd, PD.ret, lft, rd, rdD, asB, asI, mIxO, ixOwn, ownAt, ownSet, mSetAtO, mSetAt, mMeth, mLenO, mTruO, mCall, mCallP, locsP, runF, okEnd, isPin, clean, cleanL, noPin, pin0, mTup, mLst, mCbO, mOpO, asL, asO, mLc, inB, mFor, mForE, mForR, mRaiseE, mRaise, mTold, Own.d, dInt, dInt2, dSub, dDiv, dMod, dLt, dLe, dGt, dGe, dNeg, dIpAdd, dLen, dIntOf, dAbs, dMax2, dTuple, dList, dIsN, elems, dFmt, dStrI, List.getElem?_cons_zero, List.getElem?_cons_succ, List.set_cons_zero, List.set_cons_succ, List.length_cons, List.length_nil, List.cons_append, List.nil_append, List.map_cons, List.map_nil, List.replicate_succ, List.replicate_zero, List.take_succ_cons, List.take_zero, if_true, if_false, ite_true, ite_false, Bool.and_true, Bool.true_and, Bool.false_eq_true, reduceIte, Option.map_some, Option.bind_some, Nat.reduceAdd, Nat.reduceSub, Nat.reduceLT, Nat.reduceLeDiff, decide_true, decide_false, Bool.not_true, Bool.not_false, Bool.or_true, Bool.or_false, Bool.false_or, Bool.true_or, eqD_int, eqD_str, dEq, dNe, Option.map_none, atI_0, atI_1, atI_2, mulOk_a, mulOk_b, cap, restE, wipeE, dMul, dAdd, ixN30, ixN31, ixN32, List.range_succ_eq_map]
  have e2 : mFor (rd 1) tg2 m__law_fitted_b1 [.dat (linesT zs), .dat (patchD p), .dat (linesT []), .dat (.int ((0 : Nat) : Int)), .non, .non, .non, .non] = loopL tg2 m__law_fitted_b1 (p.map opD) [.dat (linesT zs), .dat (patchD p), .dat (linesT []), .dat (.int ((0 : Nat) : Int)), .non, .non, .non, .non] := rfl
  cases e3 : fitL p zs with
  | none =>
    obtain ⟨ρ, k1, k2⟩ := L.2 e3
    have k : m__law_fitted [.dat (linesT zs), .dat (patchD p), .non, .non, .non, .non, .non, .non] = some (.rt .non ρ) := by
      unfold m__law_fitted
      rw [mSeq_nx e0]
      exact mSeq_rt (e2.trans k2)
    have ef : fit p zs = none := by unfold fit; rw [e3]
    rw [ef]
    exact ⟨_, runF_rt (n := 2) (N := 8) (ρ0 := [.dat (linesT zs), .dat (patchD p), .non, .non, .non, .non, .non, .non]) rfl k k1⟩
  | some fr =>
    obtain ⟨f, rest⟩ := fr
    obtain ⟨k1, u4, u5, u6, u7, k2⟩ := L.1 f rest e3
    rw [List.nil_append] at k2
    have t : mTest (mOp dEq (rd 3) (mCb dLen (mArg (rd 0) (PD.ret [])))) [.dat (linesT zs), .dat (patchD p), .dat (linesT f), .dat (.int ((zs.length - rest.length : Nat) : Int)), u4, u5, u6, u7] = some (.ok (decide (zs.length - rest.length = zs.length)) [.dat (linesT zs), .dat (patchD p), .dat (linesT f), .dat (.int ((zs.length - rest.length : Nat) : Int)), u4, u5, u6, u7]) := by
      have h := ne_len (zs.length - rest.length) zs.length
      rw [eqD_int] at h
      unfold linesT
      simp only [mSeq, mE, mIf, mRet, mAsg, mDrop, mAug, mPar, mPar3, mNext, mBreak, mCont, setD, setCons, setTup, setNil, mOp, mUn, mCb, mArg, mTest, mTru, mAnd, mOr, mNot, mIfE, mChain, mTupD, mLstD, mLstO, mSetO, mPart, mSl, mAndV, mOrV, mNotV, bnd, PD.ret, lft, rd, rdD, asB, asI, mIxO, ixOwn, ownAt, ownSet, mSetAtO, mSetAt, mMeth, mLenO, mTruO, mCall, mCallP, locsP, runF, okEnd, isPin, clean, cleanL, noPin, pin0, mTup, mLst, mCbO, mOpO, asL, asO, mLc, inB, mFor, mForE, mForR, mRaiseE, mRaise, mTold, Own.d, dInt, dInt2, dSub, dDiv, dMod, dLt, dLe, dGt, dGe, dNeg, dIpAdd, dLen, dIntOf, dAbs, dMax2, dTuple, dList, dIsN, elems, dFmt, dStrI, List.getElem?_cons_zero, List.getElem?_cons_succ, List.set_cons_zero, List.set_cons_succ, List.length_cons, List.length_nil, List.cons_append, List.nil_append, List.map_cons, List.map_nil, List.replicate_succ, List.replicate_zero, List.take_succ_cons, List.take_zero, if_true, if_false, ite_true, ite_false, Bool.and_true, Bool.true_and, Bool.false_eq_true, reduceIte, Option.map_some, Option.bind_some, Nat.reduceAdd, Nat.reduceSub, Nat.reduceLT, Nat.reduceLeDiff, decide_true, decide_false, Bool.not_true, Bool.not_false, Bool.or_true, Bool.or_false, Bool.false_or, Bool.true_or, eqD_int, eqD_str, dEq, dNe, Option.map_none, atI_0, atI_1, atI_2, mulOk_a, mulOk_b, cap, restE, wipeE, dMul, dAdd, ixN30, ixN31, ixN32, List.range_succ_eq_map, List.length_map]
      rw [Option.some.inj h]
    have ef : fitD (fit p zs) = if zs.length - rest.length = zs.length then linesT f else .non := by
      unfold fit
      rw [e3]
      cases rest with
      | nil => rw [if_pos (by simp)]; rfl
      | cons x xs => rw [if_neg (by simp only [List.length_cons] at k1 ⊢; omega)]; rfl
    have k : m__law_fitted [.dat (linesT zs), .dat (patchD p), .non, .non, .non, .non, .non, .non] = some (.rt (fitD (fit p zs)) [.dat (linesT zs), .dat (patchD p), .dat (linesT f), .dat (.int ((zs.length - rest.length : Nat) : Int)), u4, u5, u6, u7]) := by
      unfold m__law_fitted
      rw [mSeq_nx e0, mSeq_nx (e2.trans k2), ef]
      unfold mRet mIfE
      by_cases c : zs.length - rest.length = zs.length
      · rw [decide_eq_true c] at t
        rw [mE_ok (bnd_ok t), if_pos c]
      · rw [decide_eq_false c] at t
        rw [mE_ok (bnd_ok t), if_neg c]
    exact ⟨_, runF_rt (n := 2) (N := 8) (ρ0 := [.dat (linesT zs), .dat (patchD p), .non, .non, .non, .non, .non, .non]) rfl k rfl⟩
end K02
end
section
set_option maxHeartbeats 0
namespace K02
open PySem L2 PD
def rowsO : Op → List Str
  | .keep n => [("= " : Str) ++ toString (n : Int)]
  | .drop ls => ls.map fun l => ("- " : Str) ++ l
  | .add ls => ls.map fun l => ("+ " : Str) ++ l
def textP : List Op → List Str
  | [] => []
  | o :: p => rowsO o ++ textP p
def linesO : Op → List Str
  | .keep _ => []
  | .drop ls => ls
  | .add ls => ls
def ShortO (o : Op) : Prop := (∀ l ∈ linesO o, l.length ≤ 1000) ∧ (∀ n, o = .keep n → n ≤ 1000) ∧ (linesO o).length ≤ 1000
theorem emp_eq : Str.empty ++ ("= " : Str) = "= " := by decide +kernel
theorem sgn_d : dWGet kv_SIGNS_OF_WORDS (.str "drop") = some (.str "- ") := by
  simp [dWGet, kv_SIGNS_OF_WORDS, List.find?]
theorem sgn_a : dWGet kv_SIGNS_OF_WORDS (.str "add") = some (.str "+ ") := by
  have h : ¬ (("drop" : Str) = "add") := s_da
  simp [dWGet, kv_SIGNS_OF_WORDS, List.find?, h]
theorem len2 : ("= " : Str).length = 2 ∧ ("- " : Str).length = 2 ∧ ("+ " : Str).length = 2 := by decide +kernel
theorem fmt_ok {n : Nat} (h : n ≤ 1000) : dFmt (.int (n : Int)) = some (.str (toString (n : Int))) := if_pos (by
  have : Nat.log2 n ≤ n := Nat.log2_le_self n
  show Nat.log2 n < 1920
  omega)
theorem strI_ok {n : Nat} (h : n ≤ 1000) : dStrI [.int (n : Int)] = some (.str (toString (n : Int))) := if_pos (by
  have : Nat.log2 n ≤ n := Nat.log2_le_self n
  show Nat.log2 n < 1920
  omega)
theorem add_str (x y : Str) (h : x.length + y.length ≤ 100000) : dAdd (.str x) (.str y) = some (.str (x ++ y)) := if_pos h
theorem pt_keep (P s4 : PD.Loc) (R : List D) (n : Nat) (hn : n ≤ 1000) (hl : R.length < 100000) : m_patch_text_b1 [P, .own (.lst R), .dat (.str "keep"), .dat (.int n), s4] = some (.nx [P, .own (.lst (R ++ (rowsO (.keep n)).map .str)), .dat (.str "keep"), .dat (.int n), s4]) := by
  have c : mTest (mOp dEq (rd 2) (PD.ret (.str "keep"))) [P, .own (.lst R), .dat (.str "keep"), .dat (.int n), s4] = some (.ok true [P, .own (.lst R), .dat (.str "keep"), .dat (.int n), s4]) := by
    simp [mSeq, mE, mIf, mRet, mAsg, mDrop, mAug, mPar, mPar3, mNext, mBreak, mCont, setD, setCons, setTup, setNil, mOp, mUn, mCb, mArg, mTest, mTru, mAnd, mOr, mNot, mIfE, mChain, mTupD, mLstD, mLstO, mSetO, mPart, mSl, mAndV, mOrV, mNotV, bnd, PD.ret, lft, rd, rdD, asB, asI, mIxO, ixOwn, ownAt, ownSet, mSetAtO, mSetAt, mMeth, mLenO, mTruO, mCall, mCallP, locsP, runF, okEnd, isPin, clean, cleanL, noPin, pin0, mTup, mLst, mCbO, mOpO, asL, asO, mLc, inB, mFor, mForE, mForR, mRaiseE, mRaise, mTold, Own.d, dInt, dInt2, dSub, dDiv, dMod, dLt, dLe, dGt, dGe, dNeg, dIpAdd, dLen, dIntOf, dAbs, dMax2, dTuple, dList, dIsN, elems, dFmt, dStrI, List.getElem?_cons_zero, List.getElem?_cons_succ, List.set_cons_zero, List.set_cons_succ, List.length_cons, List.length_nil, List.cons_append, List.nil_append, List.map_cons, List.map_nil, List.replicate_succ, List.replicate_zero, List.take_succ_cons, List.take_zero, if_true, if_false, ite_true, ite_false, Bool.and_true, Bool.true_and, Bool.false_eq_true, reduceIte, Option.map_some, Option.bind_some, Nat.reduceAdd, Nat.reduceSub, Nat.reduceLT, Nat.reduceLeDiff, decide_true, decide_false, Bool.not_true, Bool.not_false, Bool.or_true, Bool.or_false, Bool.false_or, Bool.true_or, eqD_int, eqD_str, dEq, dNe, Option.map_none, atI_0, atI_1, atI_2, mulOk_a, mulOk_b, cap, restE, wipeE, dMul, dAdd, ixN30, ixN31, ixN32, List.range_succ_eq_map]
  have ej : joinM [(PD.ret (.str "= ")), (mUn dFmt (rd 3))] Str.empty [P, .own (.lst R), .dat (.str "keep"), .dat (.int (n : Int)), s4] = some (.ok (.str (("= " : Str) ++ toString (n : Int))) [P, .own (.lst R), .dat (.str "keep"), .dat (.int (n : Int)), s4]) := by
    have l2 : (Str.empty ++ ("= " : Str)).length ≤ PD.cap := by rw [emp_eq, len2.1]; unfold PD.cap; omega
    have l3 : (Str.empty ++ ("= " : Str) ++ (toString (n : Int) : Str)).length ≤ PD.cap := by
      have := numLen n (by omega)
      rw [emp_eq, strLen_append, len2.1]; unfold PD.cap; omega
    simp only [joinM, mUn, bnd, PD.ret, lft, rd, List.getElem?_cons_succ, List.getElem?_cons_zero, fmt_ok hn, if_pos l2, if_pos l3]
    rw [emp_eq]
  unfold m_patch_text_b1
  rw [mIf_t c]
  unfold mDrop mMeth
  simp only [mE, ownAt, List.getElem?_cons_succ, List.getElem?_cons_zero, mArg, bnd, ej, PD.ret, mdAppend, PD.cap, hl, if_true, ownSet]
  rfl
theorem pt_comp (P A : PD.Loc) (w sg : Str) (v : D) (hs : dWGet kv_SIGNS_OF_WORDS (.str w) = some (.str sg)) (h2 : sg.length = 2) (ls : List Str) (hl : ls.length ≤ 1000) (hz : ∀ l ∈ ls, l.length ≤ 1000) :
    compL (setD 4) (PD.ret true) m_patch_text_e1 [4] (ls.map .str) [] [P, A, .dat (.str w), .dat v, .non] = some ((ls.map fun l => sg ++ l).map .str, [P, A, .dat (.str w), .dat v, .non]) := by
  have c := compL_gen (g := setD 4) (t := PD.ret true) (e := m_patch_text_e1) (vs := [4]) D.str [P, A, .dat (.str w), .dat v, .non] (fun l => [P, A, .dat (.str w), .dat v, .dat (.str l)]) (fun _ => true) (fun l => .str (sg ++ l)) (fun _ => rfl) (fun _ => rfl) (fun _ => rfl) ls [] (fun l hm _ => by
    unfold m_patch_text_e1
    simp only [mOp, mUn, bnd, rd, lft, List.getElem?_cons_succ, List.getElem?_cons_zero, hs, add_str sg l (by have := hz l hm; omega)]) (by simp; omega)
  rw [show ls.filter (fun _ => true) = ls from List.filter_eq_self.mpr (fun _ _ => rfl), List.nil_append] at c
  rw [c, List.map_map]
  rfl
theorem pt_row (P s4 : PD.Loc) (R : List D) (w sg : Str) (hw : ¬ w = "keep") (hs : dWGet kv_SIGNS_OF_WORDS (.str w) = some (.str sg)) (h2 : sg.length = 2) (ls : List Str) (hl : ls.length ≤ 1000) (hz : ∀ l ∈ ls, l.length ≤ 1000) (hr : R.length ≤ 90000) (hs4 : s4 = .non ∨ ∃ d, s4 = .dat d) :
    m_patch_text_b1 [P, .own (.lst R), .dat (.str w), .dat (linesT ls), s4] = some (.nx [P, .own (.lst (R ++ (ls.map fun l => sg ++ l).map .str)), .dat (.str w), .dat (linesT ls), s4]) := by
  have c : mTest (mOp dEq (rd 2) (PD.ret (.str "keep"))) [P, .own (.lst R), .dat (.str w), .dat (linesT ls), s4] = some (.ok false [P, .own (.lst R), .dat (.str w), .dat (linesT ls), s4]) := by
    simp [mSeq, mE, mIf, mRet, mAsg, mDrop, mAug, mPar, mPar3, mNext, mBreak, mCont, setD, setCons, setTup, setNil, mOp, mUn, mCb, mArg, mTest, mTru, mAnd, mOr, mNot, mIfE, mChain, mTupD, mLstD, mLstO, mSetO, mPart, mSl, mAndV, mOrV, mNotV, bnd, PD.ret, lft, rd, rdD, asB, asI, mIxO, ixOwn, ownAt, ownSet, mSetAtO, mSetAt, mMeth, mLenO, mTruO, mCall, mCallP, locsP, runF, okEnd, isPin, clean, cleanL, noPin, pin0, mTup, mLst, mCbO, mOpO, asL, asO, mLc, inB, mFor, mForE, mForR, mRaiseE, mRaise, mTold, Own.d, dInt, dInt2, dSub, dDiv, dMod, dLt, dLe, dGt, dGe, dNeg, dIpAdd, dLen, dIntOf, dAbs, dMax2, dTuple, dList, dIsN, elems, dFmt, dStrI, List.getElem?_cons_zero, List.getElem?_cons_succ, List.set_cons_zero, List.set_cons_succ, List.length_cons, List.length_nil, List.cons_append, List.nil_append, List.map_cons, List.map_nil, List.replicate_succ, List.replicate_zero, List.take_succ_cons, List.take_zero, if_true, if_false, ite_true, ite_false, Bool.and_true, Bool.true_and, Bool.false_eq_true, reduceIte, Option.map_some, Option.bind_some, Nat.reduceAdd, Nat.reduceSub, Nat.reduceLT, Nat.reduceLeDiff, decide_true, decide_false, Bool.not_true, Bool.not_false, Bool.or_true, Bool.or_false, Bool.false_or, Bool.true_or, eqD_int, eqD_str, dEq, dNe, Option.map_none, atI_0, atI_1, atI_2, mulOk_a, mulOk_b, cap, restE, wipeE, dMul, dAdd, ixN30, ixN31, ixN32, List.range_succ_eq_map, hw]
  have z := pt_comp P (.own (.lst R)) w sg (linesT ls) hs h2 ls hl hz
  have em : mLc (rd 3) elems [4] (setD 4) (PD.ret true) m_patch_text_e1 [P, .own (.lst R), .dat (.str w), .dat (linesT ls), s4] = some (.ok ((ls.map fun l => sg ++ l).map .str) [P, .own (.lst R), .dat (.str w), .dat (linesT ls), s4]) := by
    unfold linesT at z ⊢
    have hw2 : wipeE [P, .own (.lst R), .dat (.str w), .dat (.tup (ls.map .str)), s4] [4] = [P, .own (.lst R), .dat (.str w), .dat (.tup (ls.map .str)), .non] := rfl
    have hi : inB [4] [P, .own (.lst R), .dat (.str w), .dat (.tup (ls.map .str)), s4] = true := rfl
    have hr : restE [P, .own (.lst R), .dat (.str w), .dat (.tup (ls.map .str)), s4] [4] [P, .own (.lst R), .dat (.str w), .dat (.tup (ls.map .str)), .non] = [P, .own (.lst R), .dat (.str w), .dat (.tup (ls.map .str)), s4] := by
      rcases hs4 with rfl | ⟨d, rfl⟩ <;> rfl
    simp only [mLc, bnd, rd, elems, List.getElem?_cons_succ, List.getElem?_cons_zero, hi, if_true, hw2, z, hr]
  have hx : R.length + ((ls.map fun l => sg ++ l).map D.str).length ≤ 100000 := by simp; omega
  unfold m_patch_text_b1
  rw [mIf_f c]
  unfold mDrop mMeth
  simp only [mE, ownAt, List.getElem?_cons_succ, List.getElem?_cons_zero, mArg, bnd, asL, em, PD.ret, mdExtend, PD.cap, hx, if_true, ownSet]
  rfl
theorem pt_op (P s4 : PD.Loc) (R : List Str) (o : Op) (h : ShortO o) (hr : R.length ≤ 90000) (hs4 : s4 = .non ∨ ∃ d, s4 = .dat d) : m_patch_text_b1 [P, .own (.lst (R.map .str)), .dat (.str (word o)), .dat (valD o), s4] = some (.nx [P, .own (.lst ((R ++ rowsO o).map .str)), .dat (.str (word o)), .dat (valD o), s4]) := by
  rw [List.map_append]
  cases o with
  | keep n => exact pt_keep P s4 _ n (h.2.1 n rfl) (by rw [List.length_map]; omega)
  | drop ls => exact pt_row P s4 _ "drop" "- " s_dk sgn_d len2.2.1 ls h.2.2 h.1 (by rw [List.length_map]; omega) hs4
  | add ls => exact pt_row P s4 _ "add" "+ " (fun z => s_ka z.symm) sgn_a len2.2.2 ls h.2.2 h.1 (by rw [List.length_map]; omega) hs4
theorem rowsO_len (o : Op) (h : ShortO o) : (rowsO o).length ≤ 1000 := by
  cases o with
  | keep n => simp [rowsO]
  | drop ls => simpa [rowsO, linesO] using h.2.2
  | add ls => simpa [rowsO, linesO] using h.2.2
theorem pt_loop (P : PD.Loc) : ∀ (p : List Op) (R : List Str) (s2 s3 s4 : PD.Loc), (∀ o ∈ p, ShortO o) → R.length + 1000 * p.length ≤ 90000 → (s4 = .non ∨ ∃ d, s4 = .dat d) →
    ∃ u2 u3 u4, loopL tg1 m_patch_text_b1 (p.map opD) [P, .own (.lst (R.map .str)), s2, s3, s4] = some (.nx [P, .own (.lst ((R ++ textP p).map .str)), u2, u3, u4])
  | [], R, s2, s3, s4, _, _, _ => ⟨s2, s3, s4, by rw [List.map_nil, loopL_nil]; simp [textP]⟩
  | o :: p, R, s2, s3, s4, hs, hl, h4 => by
    rw [List.length_cons] at hl
    have ho := hs o List.mem_cons_self
    have st := pt_op P s4 R o ho (by omega) h4
    have hlen := rowsO_len o ho
    obtain ⟨u2, u3, u4, ih⟩ := pt_loop P p (R ++ rowsO o) (.dat (.str (word o))) (.dat (valD o)) s4 (fun q hq => hs q (List.mem_cons_of_mem _ hq)) (by rw [List.length_append]; omega) h4
    have tg : tg1 (opD o) [P, .own (.lst (R.map .str)), s2, s3, s4] = some [P, .own (.lst (R.map .str)), .dat (.str (word o)), .dat (valD o), s4] := by cases o <;> rfl
    refine ⟨u2, u3, u4, ?_⟩
    rw [List.map_cons, loopL_nx tg st, ih, List.append_assoc]
    rfl
theorem text_of (p : List Op) (hs : ∀ o ∈ p, ShortO o) (hl : p.length ≤ 80) : F_patch_text [.dat (patchD p)] = some (.ok (linesT (textP p)) [.non]) := by
  obtain ⟨u2, u3, u4, h⟩ := pt_loop (.dat (patchD p)) p [] .non .non .non hs (by simp; omega) (.inl rfl)
  rw [List.nil_append] at h
  have e0 : mSetO 1 (mLstO (PD.ret [])) [.dat (patchD p), .non, .non, .non, .non] = some (.nx [.dat (patchD p), .own (.lst (([] : List Str).map .str)), .non, .non, .non]) := by
    simp [mSeq, mE, mIf, mRet, mAsg, mDrop, mAug, mPar, mPar3, mNext, mBreak, mCont, setD, setCons, setTup, setNil, mOp, mUn, mCb, mArg, mTest, mTru, mAnd, mOr, mNot, mIfE, mChain, mTupD, mLstD, mLstO, mSetO, mPart, mSl, mAndV, mOrV, mNotV, bnd, PD.ret, lft, rd, rdD, asB, asI, mIxO, ixOwn, ownAt, ownSet, mSetAtO, mSetAt, mMeth, mLenO, mTruO, mCall, mCallP, locsP, runF, okEnd, isPin, clean, cleanL, noPin, pin0, mTup, mLst, mCbO, mOpO, asL, asO, mLc, inB, mFor, mForE, mForR, mRaiseE, mRaise, mTold, Own.d, dInt, dInt2, dSub, dDiv, dMod, dLt, dLe, dGt, dGe, dNeg, dIpAdd, dLen, dIntOf, dAbs, dMax2, dTuple, dList, dIsN, elems, dFmt, dStrI, List.getElem?_cons_zero, List.getElem?_cons_succ, List.set_cons_zero, List.set_cons_succ, List.length_cons, List.length_nil, List.cons_append, List.nil_append, List.map_cons, List.map_nil, List.replicate_succ, List.replicate_zero, List.take_succ_cons, List.take_zero, if_true, if_false, ite_true, ite_false, Bool.and_true, Bool.true_and, Bool.false_eq_true, reduceIte, Option.map_some, Option.bind_some, Nat.reduceAdd, Nat.reduceSub, Nat.reduceLT, Nat.reduceLeDiff, decide_true, decide_false, Bool.not_true, Bool.not_false, Bool.or_true, Bool.or_false, Bool.false_or, Bool.true_or, eqD_int, eqD_str, dEq, dNe, Option.map_none, atI_0, atI_1, atI_2, mulOk_a, mulOk_b, cap, restE, wipeE, dMul, dAdd, ixN30, ixN31, ixN32, List.range_succ_eq_map]
  have e1 : mFor (rd 0) tg1 m_patch_text_b1 [.dat (patchD p), .own (.lst (([] : List Str).map .str)), .non, .non, .non] = loopL tg1 m_patch_text_b1 (p.map opD) [.dat (patchD p), .own (.lst (([] : List Str).map .str)), .non, .non, .non] := rfl
  have body : m_patch_text [.dat (patchD p), .non, .non, .non, .non] = some (.rt (linesT (textP p)) [.dat (patchD p), .dat (.lst ((textP p).map .str)), u2, u3, u4]) := by
    unfold m_patch_text
    rw [mSeq_nx e0, mSeq_nx (e1.trans h)]
    rfl
  exact runF_rt (n := 1) (N := 5) (ρ0 := [.dat (patchD p), .non, .non, .non, .non]) rfl body rfl
end K02
end
section
set_option maxHeartbeats 0
namespace K02
open PySem L2 PD
theorem mOp_ok {op : D → D → Option D} {a b : MM D} {ρ ρ1 ρ2 : PD.Env} {x y d : D} (ha : a ρ = some (.ok x ρ1)) (hb : b ρ1 = some (.ok y ρ2)) (ho : op x y = some d) : mOp op a b ρ = some (.ok d ρ2) := by
  unfold mOp
  rw [bnd_ok ha, bnd_ok hb, ho]
  rfl
def sgnO : Op → Str
  | .keep _ => "= "
  | .drop _ => "- "
  | .add _ => "+ "
theorem lr_test (o : Op) (v : D) (l : PD.Loc) : mTest (mOp dEq (rd 0) (PD.ret (.str "keep"))) [.dat (.str (word o)), .dat v, l] = some (.ok (isKp o) [.dat (.str (word o)), .dat v, l]) := by
  simp only [mSeq, mE, mIf, mRet, mAsg, mDrop, mAug, mPar, mPar3, mNext, mBreak, mCont, setD, setCons, setTup, setNil, mOp, mUn, mCb, mArg, mTest, mTru, mAnd, mOr, mNot, mIfE, mChain, mTupD, mLstD, mLstO, mSetO, mPart, mSl, mAndV, mOrV, mNotV, bnd, PD.ret, lft, rd, rdD, asB, asI, mIxO, ixOwn, ownAt, ownSet, mSetAtO, mSetAt, mMeth, mLenO, mTruO, mCall, mCallP, locsP, runF, okEnd, isPin, clean, cleanL, noPin, pin0, mTup, mLst, mCbO, mOpO, asL, asO, mLc, inB, mFor, mForE, mForR, mRaiseE, mRaise, mTold, Own.d, dInt, dInt2, dSub, dDiv, dMod, dLt, dLe, dGt, dGe, dNeg, dIpAdd, dLen, dIntOf, dAbs, dMax2, dTuple, dList, dIsN, elems, dFmt, dStrI, List.getElem?_cons_zero, List.getElem?_cons_succ, List.set_cons_zero, List.set_cons_succ, List.length_cons, List.length_nil, List.cons_append, List.nil_append, List.map_cons, List.map_nil, List.replicate_succ, List.replicate_zero, List.take_succ_cons, List.take_zero, if_true, if_false, ite_true, ite_false, Bool.and_true, Bool.true_and, Bool.false_eq_true, reduceIte, Option.map_some, Option.bind_some, Nat.reduceAdd, Nat.reduceSub, Nat.reduceLT, Nat.reduceLeDiff, decide_true, decide_false, Bool.not_true, Bool.not_false, Bool.or_true, Bool.or_false, Bool.false_or, Bool.true_or, eqD_int, eqD_str, dEq, dNe, Option.map_none, atI_0, atI_1, atI_2, mulOk_a, mulOk_b, cap, restE, wipeE, dMul, dAdd, ixN30, ixN31, ixN32, List.range_succ_eq_map, word_keep]
theorem lr_el (o : Op) (v : D) (l : Str) (hk : isKp o = false) (hl : l.length ≤ 1000) : m__law_rows_e1 [.dat (.str (word o)), .dat v, .dat (.str l)] = some (.ok (.str (sgnO o ++ l)) [.dat (.str (word o)), .dat v, .dat (.str l)]) := by
  have t : mTest (mOp dEq (rd 0) (PD.ret (.str "drop"))) [.dat (.str (word o)), .dat v, .dat (.str l)] = some (.ok (isDrop o) [.dat (.str (word o)), .dat v, .dat (.str l)]) := by
    simp only [mSeq, mE, mIf, mRet, mAsg, mDrop, mAug, mPar, mPar3, mNext, mBreak, mCont, setD, setCons, setTup, setNil, mOp, mUn, mCb, mArg, mTest, mTru, mAnd, mOr, mNot, mIfE, mChain, mTupD, mLstD, mLstO, mSetO, mPart, mSl, mAndV, mOrV, mNotV, bnd, PD.ret, lft, rd, rdD, asB, asI, mIxO, ixOwn, ownAt, ownSet, mSetAtO, mSetAt, mMeth, mLenO, mTruO, mCall, mCallP, locsP, runF, okEnd, isPin, clean, cleanL, noPin, pin0, mTup, mLst, mCbO, mOpO, asL, asO, mLc, inB, mFor, mForE, mForR, mRaiseE, mRaise, mTold, Own.d, dInt, dInt2, dSub, dDiv, dMod, dLt, dLe, dGt, dGe, dNeg, dIpAdd, dLen, dIntOf, dAbs, dMax2, dTuple, dList, dIsN, elems, dFmt, dStrI, List.getElem?_cons_zero, List.getElem?_cons_succ, List.set_cons_zero, List.set_cons_succ, List.length_cons, List.length_nil, List.cons_append, List.nil_append, List.map_cons, List.map_nil, List.replicate_succ, List.replicate_zero, List.take_succ_cons, List.take_zero, if_true, if_false, ite_true, ite_false, Bool.and_true, Bool.true_and, Bool.false_eq_true, reduceIte, Option.map_some, Option.bind_some, Nat.reduceAdd, Nat.reduceSub, Nat.reduceLT, Nat.reduceLeDiff, decide_true, decide_false, Bool.not_true, Bool.not_false, Bool.or_true, Bool.or_false, Bool.false_or, Bool.true_or, eqD_int, eqD_str, dEq, dNe, Option.map_none, atI_0, atI_1, atI_2, mulOk_a, mulOk_b, cap, restE, wipeE, dMul, dAdd, ixN30, ixN31, ixN32, List.range_succ_eq_map, word_drop]
  have e : mIfE (mTest (mOp dEq (rd 0) (PD.ret (.str "drop")))) (PD.ret (.str "- ")) (PD.ret (.str "+ ")) [.dat (.str (word o)), .dat v, .dat (.str l)] = some (.ok (.str (sgnO o)) [.dat (.str (word o)), .dat v, .dat (.str l)]) := by
    unfold mIfE
    rw [bnd_ok t]
    cases o with
    | keep n => cases hk
    | drop ls => rfl
    | add ls => rfl
  have a := add_str (sgnO o) l (by
    cases o with
    | keep n => cases hk
    | drop ls => show ("- " : Str).length + _ ≤ _; rw [len2.2.1]; omega
    | add ls => show ("+ " : Str).length + _ ≤ _; rw [len2.2.2]; omega)
  unfold m__law_rows_e1
  exact mOp_ok e rfl a
theorem lr_ok (o : Op) (h : ShortO o) : ∃ e, F__law_rows [.dat (.str (word o)), .dat (valD o)] = some (.ok (.lst ((rowsO o).map .str)) e) := by
  have t := lr_test o (valD o) .non
  cases hk : isKp o with
  | true =>
    rw [hk] at t
    have body : m__law_rows [.dat (.str (word o)), .dat (valD o), .non] = some (.rt (.lst ((rowsO o).map .str)) [.dat (.str (word o)), .dat (valD o), .non]) := by
      cases o with
      | drop ls => cases hk
      | add ls => cases hk
      | keep n =>
        have hn := h.2.1 n rfl
        have a := add_str "= " (toString (n : Int)) (by have := numLen n (by omega); rw [len2.1]; omega)
        unfold m__law_rows mRet mIfE
        have z : mLstD (mArg (mOp dAdd (PD.ret (.str "= ")) (mCb dStrI (mArg (rd 1) (PD.ret [])))) (PD.ret [])) [.dat (.str (word (.keep n))), .dat (valD (.keep n)), .non] = some (.ok (.lst ((rowsO (.keep n)).map .str)) [.dat (.str (word (.keep n))), .dat (valD (.keep n)), .non]) := by
          simp only [valD, mLstD, mArg, mOp, mCb, bnd, rd, lft, PD.ret, List.getElem?_cons_succ, List.getElem?_cons_zero, strI_ok hn, a]
          rfl
        rw [mE_ok ((bnd_ok t).trans z)]
    exact ⟨_, runF_rt (n := 2) (N := 3) (ρ0 := [.dat (.str (word o)), .dat (valD o), .non]) rfl body rfl⟩
  | false =>
    rw [hk] at t
    have hv : valD o = linesT (linesO o) := by
      cases o with
      | keep n => cases hk
      | drop ls => rfl
      | add ls => rfl
    have hr : rowsO o = (linesO o).map fun l => sgnO o ++ l := by
      cases o with
      | keep n => cases hk
      | drop ls => rfl
      | add ls => rfl
    have c := compL_gen (g := setD 2) (t := PD.ret true) (e := m__law_rows_e1) (vs := [2]) D.str [.dat (.str (word o)), .dat (valD o), .non] (fun l => [.dat (.str (word o)), .dat (valD o), .dat (.str l)]) (fun _ => true) (fun l => .str (sgnO o ++ l)) (fun _ => rfl) (fun _ => rfl) (fun _ => rfl) (linesO o) [] (fun l hm _ => lr_el o _ l hk (h.1 l hm)) (by have := h.2.2; simp; omega)
    rw [show (linesO o).filter (fun _ => true) = linesO o from List.filter_eq_self.mpr (fun _ _ => rfl), List.nil_append] at c
    have em : mLc (rd 1) elems [2] (setD 2) (PD.ret true) m__law_rows_e1 [.dat (.str (word o)), .dat (valD o), .non] = some (.ok ((rowsO o).map .str) [.dat (.str (word o)), .dat (valD o), .non]) := by
      have hw2 : wipeE [.dat (.str (word o)), .dat (valD o), .non] [2] = [.dat (.str (word o)), .dat (valD o), .non] := rfl
      have hi : inB [2] [.dat (.str (word o)), .dat (valD o), .non] = true := rfl
      have hrr : restE [.dat (.str (word o)), .dat (valD o), .non] [2] [.dat (.str (word o)), .dat (valD o), .non] = [.dat (.str (word o)), .dat (valD o), .non] := rfl
      have hel : elems (valD o) = some ((linesO o).map .str) := by rw [hv]; rfl
      simp only [mLc, bnd, rd, hel, List.getElem?_cons_succ, List.getElem?_cons_zero, hi, if_true, hw2, c, hrr]
      rw [hr, List.map_map]
      rfl
    have body : m__law_rows [.dat (.str (word o)), .dat (valD o), .non] = some (.rt (.lst ((rowsO o).map .str)) [.dat (.str (word o)), .dat (valD o), .non]) := by
      unfold m__law_rows mRet mIfE
      have z : asL (mLc (rd 1) elems [2] (setD 2) (PD.ret true) m__law_rows_e1) [.dat (.str (word o)), .dat (valD o), .non] = some (.ok (.lst ((rowsO o).map .str)) [.dat (.str (word o)), .dat (valD o), .non]) := by
        unfold asL
        rw [em]
      rw [mE_ok ((bnd_ok t).trans z)]
    exact ⟨_, runF_rt (n := 2) (N := 3) (ρ0 := [.dat (.str (word o)), .dat (valD o), .non]) rfl body rfl⟩
theorem la_g (F : PD.Env → Option (Res D)) (P : PD.Loc) (w v : D) (R S : List D) (E : PD.Env) (h : F [.dat w, .dat v] = some (.ok (.lst S) E)) (hl : R.length + S.length ≤ 100000) :
    mAsg (mOp dAdd (rd 1) (mCb dTuple (mArg (mCall F (mArg (rd 2) (mArg (rd 3) (PD.ret [])))) (PD.ret [])))) (setD 1) [P, .dat (.tup R), .dat w, .dat v] = some (.nx [P, .dat (.tup (R ++ S)), .dat w, .dat v]) := by
  simp [mSeq, mE, mIf, mRet, mAsg, mDrop, mAug, mPar, mPar3, mNext, mBreak, mCont, setD, setCons, setTup, setNil, mOp, mUn, mCb, mArg, mTest, mTru, mAnd, mOr, mNot, mIfE, mChain, mTupD, mLstD, mLstO, mSetO, mPart, mSl, mAndV, mOrV, mNotV, bnd, PD.ret, lft, rd, rdD, asB, asI, mIxO, ixOwn, ownAt, ownSet, mSetAtO, mSetAt, mMeth, mLenO, mTruO, mCall, mCallP, locsP, runF, okEnd, isPin, clean, cleanL, noPin, pin0, mTup, mLst, mCbO, mOpO, asL, asO, mLc, inB, mFor, mForE, mForR, mRaiseE, mRaise, mTold, Own.d, dInt, dInt2, dSub, dDiv, dMod, dLt, dLe, dGt, dGe, dNeg, dIpAdd, dLen, dIntOf, dAbs, dMax2, dTuple, dList, dIsN, elems, dFmt, dStrI, List.getElem?_cons_zero, List.getElem?_cons_succ, List.set_cons_zero, List.set_cons_succ, List.length_cons, List.length_nil, List.cons_append, List.nil_append, List.map_cons, List.map_nil, List.replicate_succ, List.replicate_zero, List.take_succ_cons, List.take_zero, if_true, if_false, ite_true, ite_false, Bool.and_true, Bool.true_and, Bool.false_eq_true, reduceIte, Option.map_some, Option.bind_some, Nat.reduceAdd, Nat.reduceSub, Nat.reduceLT, Nat.reduceLeDiff, decide_true, decide_false, Bool.not_true, Bool.not_false, Bool.or_true, Bool.or_false, Bool.false_or, Bool.true_or, eqD_int, eqD_str, dEq, dNe, Option.map_none, atI_0, atI_1, atI_2, mulOk_a, mulOk_b, cap, restE, wipeE, dMul, dAdd, ixN30, ixN31, ixN32, List.range_succ_eq_map, h, hl]
theorem la_loop (P : PD.Loc) : ∀ (p : List Op) (R : List Str) (s2 s3 : PD.Loc), (∀ o ∈ p, ShortO o) → R.length + 1000 * p.length ≤ 90000 →
    ∃ u2 u3, loopL tg1 m__law_all_b1 (p.map opD) [P, .dat (linesT R), s2, s3] = some (.nx [P, .dat (linesT (R ++ textP p)), u2, u3])
  | [], R, s2, s3, _, _ => ⟨s2, s3, by rw [List.map_nil, loopL_nil]; simp [textP]⟩
  | o :: p, R, s2, s3, hs, hl => by
    rw [List.length_cons] at hl
    have ho := hs o List.mem_cons_self
    have hlen := rowsO_len o ho
    obtain ⟨e, he⟩ := lr_ok o ho
    have st := la_g F__law_rows P _ _ (R.map .str) _ e he (by simp; omega)
    rw [← List.map_append] at st
    obtain ⟨u2, u3, ih⟩ := la_loop P p (R ++ rowsO o) (.dat (.str (word o))) (.dat (valD o)) (fun q hq => hs q (List.mem_cons_of_mem _ hq)) (by rw [List.length_append]; omega)
    refine ⟨u2, u3, ?_⟩
    rw [List.append_assoc] at ih
    have go := loopL_nx (b := m__law_all_b1) (ds := p.map opD) (tg1_ok P (.dat (linesT R)) s2 s3 o) st
    exact go.trans ih
theorem all_of (p : List Op) (hs : ∀ o ∈ p, ShortO o) (hl : p.length ≤ 80) : F__law_all [.dat (patchD p)] = some (.ok (linesT (textP p)) [.non]) := by
  obtain ⟨u2, u3, h⟩ := la_loop (.dat (patchD p)) p [] .non .non hs (by simp; omega)
  rw [List.nil_append] at h
  have e0 : mAsg (mTupD (PD.ret [])) (setD 1) [.dat (patchD p), .non, .non, .non] = some (.nx [.dat (patchD p), .dat (linesT []), .non, .non]) := by
    unfold linesT
    simp [mSeq, mE, mIf, mRet, mAsg, mDrop, mAug, mPar, mPar3, mNext, mBreak, mCont, setD, setCons, setTup, setNil, mOp, mUn, mCb, mArg, mTest, mTru, mAnd, mOr, mNot, mIfE, mChain, mTupD, mLstD, mLstO, mSetO, mPart, mSl, mAndV, mOrV, mNotV, bnd, PD.ret, lft, rd, rdD, asB, asI, mIxO, ixOwn, ownAt, ownSet, mSetAtO, mSetAt, mMeth, mLenO, mTruO, mCall, mCallP, locsP, runF, okEnd, isPin, clean, cleanL, noPin, pin0, mTup, mLst, mCbO, mOpO, asL, asO, mLc, inB, mFor, mForE, mForR, mRaiseE, mRaise, mTold, Own.d, dInt, dInt2, dSub, dDiv, dMod, dLt, dLe, dGt, dGe, dNeg, dIpAdd, dLen, dIntOf, dAbs, dMax2, dTuple, dList, dIsN, elems, dFmt, dStrI, List.getElem?_cons_zero, List.getElem?_cons_succ, List.set_cons_zero, List.set_cons_succ, List.length_cons, List.length_nil, List.cons_append, List.nil_append, List.map_cons, List.map_nil, List.replicate_succ, List.replicate_zero, List.take_succ_cons, List.take_zero, if_true, if_false, ite_true, ite_false, Bool.and_true, Bool.true_and, Bool.false_eq_true, reduceIte, Option.map_some, Option.bind_some, Nat.reduceAdd, Nat.reduceSub, Nat.reduceLT, Nat.reduceLeDiff, decide_true, decide_false, Bool.not_true, Bool.not_false, Bool.or_true, Bool.or_false, Bool.false_or, Bool.true_or, eqD_int, eqD_str, dEq, dNe, Option.map_none, atI_0, atI_1, atI_2, mulOk_a, mulOk_b, cap, restE, wipeE, dMul, dAdd, ixN30, ixN31, ixN32, List.range_succ_eq_map]
  have e1 : mFor (rd 0) tg1 m__law_all_b1 [.dat (patchD p), .dat (linesT []), .non, .non] = loopL tg1 m__law_all_b1 (p.map opD) [.dat (patchD p), .dat (linesT []), .non, .non] := rfl
  have body : m__law_all [.dat (patchD p), .non, .non, .non] = some (.rt (linesT (textP p)) [.dat (patchD p), .dat (linesT (textP p)), u2, u3]) := by
    unfold m__law_all
    rw [mSeq_nx e0, mSeq_nx (e1.trans h)]
    rfl
  exact runF_rt (n := 1) (N := 4) (ρ0 := [.dat (patchD p), .non, .non, .non]) rfl body rfl
end K02
end
section
set_option maxHeartbeats 0
namespace K02
open PySem L2 PD
theorem cps_append (s l : Str) : (s ++ l).cps.toList = s.cps.toList ++ l.cps.toList := Array.toList_append
theorem str_ext {a b : Str} (h : a.cps.toList = b.cps.toList) : a = b := by
  cases a; cases b
  congr 1
  exact Array.toList_inj.mp h
theorem cut_sign (s l : Str) (h : s.length = 2) : cutS (s ++ l) none (some 2) = s := by
  apply str_ext
  have hs : s.cps.toList.length = 2 := by rw [Array.length_toList]; exact h
  unfold cutS
  rw [HT.sIx_none, show (some (2 : Int)) = some ((2 : Nat) : Int) from rfl, HT.sIx_nat, strLen_append, h, List.drop_zero, Nat.sub_zero, Nat.min_eq_left (by omega), cps_append]
  show (s.cps.toList ++ l.cps.toList).take 2 = s.cps.toList
  rw [← hs, List.take_left]
theorem cut_rest (s l : Str) (h : s.length = 2) : cutS (s ++ l) (some 2) none = l := by
  apply str_ext
  have hs : s.cps.toList.length = 2 := by rw [Array.length_toList]; exact h
  unfold cutS
  rw [HT.sIx_none, show (some (2 : Int)) = some ((2 : Nat) : Int) from rfl, HT.sIx_nat, strLen_append, h, Nat.min_eq_left (by omega), cps_append]
  show ((s.cps.toList ++ l.cps.toList).drop 2).take (2 + l.length - 2) = l.cps.toList
  have e : (s.cps.toList ++ l.cps.toList).drop 2 = l.cps.toList := by rw [← hs, List.drop_left]
  rw [e, show 2 + l.length - 2 = l.length by omega, List.take_of_length_le (by rw [Array.length_toList]; exact Nat.le_refl _)]
theorem nk_g (z : Str) (c : Nat) (k : Int) (h1 : ¬ z = "") (h2 : (z.cps.toList.any fun c => !decide (c ∈ ("0123456789" : Str).cps.toList)) = false) (h3 : z.cps.toList[0]? = some c) (h4 : ¬ (⟨#[c]⟩ : Str) = "0") (h5 : z.length ≤ 6) (h6 : intText? z = some k) :
    F_number_kept [.dat (.str z)] = some (.ok (.int k) [.non]) := by
  have t1 : mTest (mOp dEq (rd 0) (PD.ret (.str ""))) [.dat (.str z)] = some (.ok false [.dat (.str z)]) := by simp [mSeq, mE, mIf, mRet, mAsg, mDrop, mAug, mPar, mPar3, mNext, mBreak, mCont, setD, setCons, setTup, setNil, mOp, mUn, mCb, mArg, mTest, mTru, mAnd, mOr, mNot, mIfE, mChain, mTupD, mLstD, mLstO, mSetO, mPart, mSl, mAndV, mOrV, mNotV, bnd, PD.ret, lft, rd, rdD, asB, asI, mIxO, ixOwn, ownAt, ownSet, mSetAtO, mSetAt, mMeth, mLenO, mTruO, mCall, mCallP, locsP, runF, okEnd, isPin, clean, cleanL, noPin, pin0, mTup, mLst, mCbO, mOpO, asL, asO, mLc, inB, mFor, mForE, mForR, mRaiseE, mRaise, mTold, Own.d, dInt, dInt2, dSub, dDiv, dMod, dLt, dLe, dGt, dGe, dNeg, dIpAdd, dLen, dIntOf, dAbs, dMax2, dTuple, dList, dIsN, elems, dFmt, dStrI, List.getElem?_cons_zero, List.getElem?_cons_succ, List.set_cons_zero, List.set_cons_succ, List.length_cons, List.length_nil, List.cons_append, List.nil_append, List.map_cons, List.map_nil, List.replicate_succ, List.replicate_zero, List.take_succ_cons, List.take_zero, if_true, if_false, ite_true, ite_false, Bool.and_true, Bool.true_and, Bool.false_eq_true, reduceIte, Option.map_some, Option.bind_some, Nat.reduceAdd, Nat.reduceSub, Nat.reduceLT, Nat.reduceLeDiff, decide_true, decide_false, Bool.not_true, Bool.not_false, Bool.or_true, Bool.or_false, Bool.false_or, Bool.true_or, eqD_int, eqD_str, dEq, dNe, Option.map_none, atI_0, atI_1, atI_2, mulOk_a, mulOk_b, cap, restE, wipeE, dMul, dAdd, ixN30, ixN31, ixN32, List.range_succ_eq_map, h1]
  have t2 : mTru (mUn (dAnyS fun c => !decide (c ∈ ("0123456789" : Str).cps.toList)) (rd 0)) [.dat (.str z)] = some (.ok false [.dat (.str z)]) := by
    have e : dAnyS (fun c => !decide (c ∈ ("0123456789" : Str).cps.toList)) (.str z) = some (.bl false) := by
      show some (D.bl (z.cps.toList.any fun c => !decide (c ∈ ("0123456789" : Str).cps.toList))) = _
      rw [h2]
    simp only [mTru, mUn, bnd, rd, lft, List.getElem?_cons_zero, e, truD]
  have t3 : mTest (mOp dEq (mOp dIx (rd 0) (PD.ret (.int 0))) (PD.ret (.str "0"))) [.dat (.str z)] = some (.ok false [.dat (.str z)]) := by
    have e : dIx (.str z) (.int 0) = some (.str ⟨#[c]⟩) := by
      have hc : z.length ≤ PD.cap := by unfold PD.cap; omega
      show (if z.length ≤ PD.cap then (atI z.cps.toList 0).map fun c => D.str ⟨#[c]⟩ else none) = _
      rw [if_pos hc, atI_0, h3]
      rfl
    simp [mSeq, mE, mIf, mRet, mAsg, mDrop, mAug, mPar, mPar3, mNext, mBreak, mCont, setD, setCons, setTup, setNil, mOp, mUn, mCb, mArg, mTest, mTru, mAnd, mOr, mNot, mIfE, mChain, mTupD, mLstD, mLstO, mSetO, mPart, mSl, mAndV, mOrV, mNotV, bnd, PD.ret, lft, rd, rdD, asB, asI, mIxO, ixOwn, ownAt, ownSet, mSetAtO, mSetAt, mMeth, mLenO, mTruO, mCall, mCallP, locsP, runF, okEnd, isPin, clean, cleanL, noPin, pin0, mTup, mLst, mCbO, mOpO, asL, asO, mLc, inB, mFor, mForE, mForR, mRaiseE, mRaise, mTold, Own.d, dInt, dInt2, dSub, dDiv, dMod, dLt, dLe, dGt, dGe, dNeg, dIpAdd, dLen, dIntOf, dAbs, dMax2, dTuple, dList, dIsN, elems, dFmt, dStrI, List.getElem?_cons_zero, List.getElem?_cons_succ, List.set_cons_zero, List.set_cons_succ, List.length_cons, List.length_nil, List.cons_append, List.nil_append, List.map_cons, List.map_nil, List.replicate_succ, List.replicate_zero, List.take_succ_cons, List.take_zero, if_true, if_false, ite_true, ite_false, Bool.and_true, Bool.true_and, Bool.false_eq_true, reduceIte, Option.map_some, Option.bind_some, Nat.reduceAdd, Nat.reduceSub, Nat.reduceLT, Nat.reduceLeDiff, decide_true, decide_false, Bool.not_true, Bool.not_false, Bool.or_true, Bool.or_false, Bool.false_or, Bool.true_or, eqD_int, eqD_str, dEq, dNe, Option.map_none, atI_0, atI_1, atI_2, mulOk_a, mulOk_b, cap, restE, wipeE, dMul, dAdd, ixN30, ixN31, ixN32, List.range_succ_eq_map, e, h4]
  have t4 : mTest (mOp dGt (mCb dLen (mArg (rd 0) (PD.ret []))) (PD.ret (.int 6))) [.dat (.str z)] = some (.ok false [.dat (.str z)]) := by
    have e : dLen [.str z] = some (.int z.length) := if_pos (by unfold PD.cap; omega)
    have g : ¬ (6 : Int) < (z.length : Int) := by omega
    simp only [mTest, mOp, mCb, mArg, bnd, rd, lft, PD.ret, List.getElem?_cons_zero, e, dGt, dInt, asB, decide_eq_false g]
  have t : mOr (mTest (mOp dEq (rd 0) (PD.ret (.str "")))) (mOr (mTru (mUn (dAnyS fun c => !decide (c ∈ ("0123456789" : Str).cps.toList)) (rd 0))) (mOr (mTest (mOp dEq (mOp dIx (rd 0) (PD.ret (.int 0))) (PD.ret (.str "0")))) (mTest (mOp dGt (mCb dLen (mArg (rd 0) (PD.ret []))) (PD.ret (.int 6)))))) [.dat (.str z)] = some (.ok false [.dat (.str z)]) := by
    unfold mOr
    rw [bnd_ok t1]
    simp only [Bool.false_eq_true, if_false]
    rw [bnd_ok t2]
    simp only [Bool.false_eq_true, if_false]
    rw [bnd_ok t3]
    simp only [Bool.false_eq_true, if_false]
    exact t4
  have e1 : ∀ m : MS, mIf (mOr (mTest (mOp dEq (rd 0) (PD.ret (.str "")))) (mOr (mTru (mUn (dAnyS fun c => !decide (c ∈ ("0123456789" : Str).cps.toList)) (rd 0))) (mOr (mTest (mOp dEq (mOp dIx (rd 0) (PD.ret (.int 0))) (PD.ret (.str "0")))) (mTest (mOp dGt (mCb dLen (mArg (rd 0) (PD.ret []))) (PD.ret (.int 6))))))) m mNext [.dat (.str z)] = some (.nx [.dat (.str z)]) := fun m => by
    rw [mIf_f t]; rfl
  have ei : dIntOf [.str z] = some (.int k) := by
    show (if z.length ≤ 640 then (intText? z).map D.int else none) = _
    rw [if_pos (by omega), h6]
    rfl
  have body : m_number_kept [.dat (.str z)] = some (.rt (.int k) [.dat (.str z)]) := by
    unfold m_number_kept
    rw [mSeq_nx (e1 _)]
    simp only [mRet, mE, mCb, mArg, bnd, rd, lft, PD.ret, List.getElem?_cons_zero, ei]
  exact runF_rt (n := 1) (N := 1) (ρ0 := [.dat (.str z)]) rfl body rfl
def nkB (n : Nat) : Bool := let z : Str := toString ((n : Nat) : Int)
  decide (¬ z = "") && !(z.cps.toList.any fun c => !decide (c ∈ ("0123456789" : Str).cps.toList)) && decide (¬ (⟨#[z.cps.toList.headD 0]⟩ : Str) = "0") && decide (z.length ≤ 6) && decide (intText? z = some (n : Int)) && !z.cps.toList.isEmpty
theorem nk_all : (List.range 13).all (fun n => n == 0 || nkB n) = true := by decide +kernel
theorem nk_ok {n : Nat} (h0 : 0 < n) (h : n ≤ 12) : F_number_kept [.dat (.str (toString (n : Int)))] = some (.ok (.int n) [.non]) := by
  have z := List.all_eq_true.mp nk_all n (List.mem_range.mpr (by omega))
  have z : nkB n = true := by
    rcases Bool.or_eq_true_iff.mp z with y | y
    · rw [beq_iff_eq] at y; omega
    · exact y
  unfold nkB at z
  simp only [Bool.and_eq_true, decide_eq_true_eq, Bool.not_eq_true'] at z
  obtain ⟨⟨⟨⟨⟨z1, z2⟩, z3⟩, z4⟩, z5⟩, z6⟩ := z
  refine nk_g _ _ _ z1 z2 ?_ z3 z4 z5
  cases e : (toString (n : Int) : Str).cps.toList with
  | nil => rw [e] at z6; cases z6
  | cons c cs => rfl
end K02
end
section
set_option maxHeartbeats 0
namespace K02
open PySem L2 PD
theorem s_md : ¬ (("- " : Str) = "= ") := by decide +kernel
theorem s_pd : ¬ (("+ " : Str) = "= ") := by decide +kernel
theorem s_mp : ¬ (("- " : Str) = "+ ") := by decide +kernel
theorem wof_d : dWGet kv_WORDS_OF_SIGNS (.str "- ") = some (.str "drop") := by
  simp [dWGet, kv_WORDS_OF_SIGNS, List.find?]
theorem wof_a : dWGet kv_WORDS_OF_SIGNS (.str "+ ") = some (.str "add") := by
  have h := s_mp
  simp [dWGet, kv_WORDS_OF_SIGNS, List.find?, h]
theorem wno_d : dWNotIn kv_WORDS_OF_SIGNS (.str "- ") = some (.bl false) := by
  simp [dWNotIn, kv_WORDS_OF_SIGNS]
theorem wno_a : dWNotIn kv_WORDS_OF_SIGNS (.str "+ ") = some (.bl false) := by
  simp [dWNotIn, kv_WORDS_OF_SIGNS]
theorem rp_cut (P A s3 s4 s5 s6 : PD.Loc) (sg l : Str) (h2 : sg.length = 2) (hl : l.length ≤ 1000) : mPar 3 4 (mArg (mSl (rd 2) (PD.ret none) (mPart (PD.ret (.int 2)))) (mArg (mSl (rd 2) (mPart (PD.ret (.int 2))) (PD.ret none)) (PD.ret []))) [P, A, .dat (.str (sg ++ l)), s3, s4, s5, s6] = some (.nx [P, A, .dat (.str (sg ++ l)), .dat (.str sg), .dat (.str l), s5, s6]) := by
  have hz : (sg ++ l).length ≤ PD.cap := by rw [strLen_append, h2]; unfold PD.cap; omega
  have e1 : dSl (.str (sg ++ l)) none (some 2) = some (.str sg) := by
    show (if (sg ++ l).length ≤ PD.cap then some (D.str (cutS (sg ++ l) none (some 2))) else none) = _
    rw [if_pos hz, cut_sign sg l h2]
  have e2 : dSl (.str (sg ++ l)) (some 2) none = some (.str l) := by
    show (if (sg ++ l).length ≤ PD.cap then some (D.str (cutS (sg ++ l) (some 2) none)) else none) = _
    rw [if_pos hz, cut_rest sg l h2]
  simp [mSeq, mE, mIf, mRet, mAsg, mDrop, mAug, mPar, mPar3, mNext, mBreak, mCont, setD, setCons, setTup, setNil, mOp, mUn, mCb, mArg, mTest, mTru, mAnd, mOr, mNot, mIfE, mChain, mTupD, mLstD, mLstO, mSetO, mPart, mSl, mAndV, mOrV, mNotV, bnd, PD.ret, lft, rd, rdD, asB, asI, mIxO, ixOwn, ownAt, ownSet, mSetAtO, mSetAt, mMeth, mLenO, mTruO, mCall, mCallP, locsP, runF, okEnd, isPin, clean, cleanL, noPin, pin0, mTup, mLst, mCbO, mOpO, asL, asO, mLc, inB, mFor, mForE, mForR, mRaiseE, mRaise, mTold, Own.d, dInt, dInt2, dSub, dDiv, dMod, dLt, dLe, dGt, dGe, dNeg, dIpAdd, dLen, dIntOf, dAbs, dMax2, dTuple, dList, dIsN, elems, dFmt, dStrI, List.getElem?_cons_zero, List.getElem?_cons_succ, List.set_cons_zero, List.set_cons_succ, List.length_cons, List.length_nil, List.cons_append, List.nil_append, List.map_cons, List.map_nil, List.replicate_succ, List.replicate_zero, List.take_succ_cons, List.take_zero, if_true, if_false, ite_true, ite_false, Bool.and_true, Bool.true_and, Bool.false_eq_true, reduceIte, Option.map_some, Option.bind_some, Nat.reduceAdd, Nat.reduceSub, Nat.reduceLT, Nat.reduceLeDiff, decide_true, decide_false, Bool.not_true, Bool.not_false, Bool.or_true, Bool.or_false, Bool.false_or, Bool.true_or, eqD_int, eqD_str, dEq, dNe, Option.map_none, atI_0, atI_1, atI_2, mulOk_a, mulOk_b, cap, restE, wipeE, dMul, dAdd, ixN30, ixN31, ixN32, List.range_succ_eq_map, e1, e2]
theorem rp_keep (F : PD.Env → Option (Res D)) (P Z s5 s6 : PD.Loc) (R : List D) (l : Str) (n : Int) (E : PD.Env) (h : F [.dat (.str l)] = some (.ok (.int n) E)) (hl : R.length < 100000) : mDrop (mMeth 1 mdAppend (mArg (mTupD (mArg (PD.ret (.str "keep")) (mArg (mCall F (mArg (rd 4) (PD.ret []))) (PD.ret [])))) (PD.ret []))) [P, .own (.lst R), Z, .dat (.str "= "), .dat (.str l), s5, s6] = some (.nx [P, .own (.lst (R ++ [.tup [.str "keep", .int n]])), Z, .dat (.str "= "), .dat (.str l), s5, s6]) := by
  simp [mSeq, mE, mIf, mRet, mAsg, mDrop, mAug, mPar, mPar3, mNext, mBreak, mCont, setD, setCons, setTup, setNil, mOp, mUn, mCb, mArg, mTest, mTru, mAnd, mOr, mNot, mIfE, mChain, mTupD, mLstD, mLstO, mSetO, mPart, mSl, mAndV, mOrV, mNotV, bnd, PD.ret, lft, rd, rdD, asB, asI, mIxO, ixOwn, ownAt, ownSet, mSetAtO, mSetAt, mMeth, mLenO, mTruO, mCall, mCallP, locsP, runF, okEnd, isPin, clean, cleanL, noPin, pin0, mTup, mLst, mCbO, mOpO, asL, asO, mLc, inB, mFor, mForE, mForR, mRaiseE, mRaise, mTold, Own.d, dInt, dInt2, dSub, dDiv, dMod, dLt, dLe, dGt, dGe, dNeg, dIpAdd, dLen, dIntOf, dAbs, dMax2, dTuple, dList, dIsN, elems, dFmt, dStrI, List.getElem?_cons_zero, List.getElem?_cons_succ, List.set_cons_zero, List.set_cons_succ, List.length_cons, List.length_nil, List.cons_append, List.nil_append, List.map_cons, List.map_nil, List.replicate_succ, List.replicate_zero, List.take_succ_cons, List.take_zero, if_true, if_false, ite_true, ite_false, Bool.and_true, Bool.true_and, Bool.false_eq_true, reduceIte, Option.map_some, Option.bind_some, Nat.reduceAdd, Nat.reduceSub, Nat.reduceLT, Nat.reduceLeDiff, decide_true, decide_false, Bool.not_true, Bool.not_false, Bool.or_true, Bool.or_false, Bool.false_or, Bool.true_or, eqD_int, eqD_str, dEq, dNe, Option.map_none, atI_0, atI_1, atI_2, mulOk_a, mulOk_b, cap, restE, wipeE, dMul, dAdd, ixN30, ixN31, ixN32, List.range_succ_eq_map, h, mdAppend, hl]
abbrev rpC : MM Bool := mAnd (mTruO 1) (mTest (mOp dEq (mOp dIx (mIxO 1 (mUn dNeg (PD.ret (.int 1)))) (PD.ret (.int 0))) (mUn (dWGet kv_WORDS_OF_SIGNS) (rd 3))))
theorem rpC_nil (P Z l s5 s6 : PD.Loc) (sg : Str) : rpC [P, .own (.lst []), Z, .dat (.str sg), l, s5, s6] = some (.ok false [P, .own (.lst []), Z, .dat (.str sg), l, s5, s6]) := by
  simp [mSeq, mE, mIf, mRet, mAsg, mDrop, mAug, mPar, mPar3, mNext, mBreak, mCont, setD, setCons, setTup, setNil, mOp, mUn, mCb, mArg, mTest, mTru, mAnd, mOr, mNot, mIfE, mChain, mTupD, mLstD, mLstO, mSetO, mPart, mSl, mAndV, mOrV, mNotV, bnd, PD.ret, lft, rd, rdD, asB, asI, mIxO, ixOwn, ownAt, ownSet, mSetAtO, mSetAt, mMeth, mLenO, mTruO, mCall, mCallP, locsP, runF, okEnd, isPin, clean, cleanL, noPin, pin0, mTup, mLst, mCbO, mOpO, asL, asO, mLc, inB, mFor, mForE, mForR, mRaiseE, mRaise, mTold, Own.d, dInt, dInt2, dSub, dDiv, dMod, dLt, dLe, dGt, dGe, dNeg, dIpAdd, dLen, dIntOf, dAbs, dMax2, dTuple, dList, dIsN, elems, dFmt, dStrI, List.getElem?_cons_zero, List.getElem?_cons_succ, List.set_cons_zero, List.set_cons_succ, List.length_cons, List.length_nil, List.cons_append, List.nil_append, List.map_cons, List.map_nil, List.replicate_succ, List.replicate_zero, List.take_succ_cons, List.take_zero, if_true, if_false, ite_true, ite_false, Bool.and_true, Bool.true_and, Bool.false_eq_true, reduceIte, Option.map_some, Option.bind_some, Nat.reduceAdd, Nat.reduceSub, Nat.reduceLT, Nat.reduceLeDiff, decide_true, decide_false, Bool.not_true, Bool.not_false, Bool.or_true, Bool.or_false, Bool.false_or, Bool.true_or, eqD_int, eqD_str, dEq, dNe, Option.map_none, atI_0, atI_1, atI_2, mulOk_a, mulOk_b, cap, restE, wipeE, dMul, dAdd, ixN30, ixN31, ixN32, List.range_succ_eq_map]
theorem rpC_last (P Z l s5 s6 : PD.Loc) (R : List D) (sg w u : Str) (x : D) (hw : dWGet kv_WORDS_OF_SIGNS (.str sg) = some (.str w)) : rpC [P, .own (.lst (R ++ [.tup [.str u, x]])), Z, .dat (.str sg), l, s5, s6] = some (.ok (decide (u = w)) [P, .own (.lst (R ++ [.tup [.str u, x]])), Z, .dat (.str sg), l, s5, s6]) := by
  simp [mSeq, mE, mIf, mRet, mAsg, mDrop, mAug, mPar, mPar3, mNext, mBreak, mCont, setD, setCons, setTup, setNil, mOp, mUn, mCb, mArg, mTest, mTru, mAnd, mOr, mNot, mIfE, mChain, mTupD, mLstD, mLstO, mSetO, mPart, mSl, mAndV, mOrV, mNotV, bnd, PD.ret, lft, rd, rdD, asB, asI, mIxO, ixOwn, ownAt, ownSet, mSetAtO, mSetAt, mMeth, mLenO, mTruO, mCall, mCallP, locsP, runF, okEnd, isPin, clean, cleanL, noPin, pin0, mTup, mLst, mCbO, mOpO, asL, asO, mLc, inB, mFor, mForE, mForR, mRaiseE, mRaise, mTold, Own.d, dInt, dInt2, dSub, dDiv, dMod, dLt, dLe, dGt, dGe, dNeg, dIpAdd, dLen, dIntOf, dAbs, dMax2, dTuple, dList, dIsN, elems, dFmt, dStrI, List.getElem?_cons_zero, List.getElem?_cons_succ, List.set_cons_zero, List.set_cons_succ, List.length_cons, List.length_nil, List.cons_append, List.nil_append, List.map_cons, List.map_nil, List.replicate_succ, List.replicate_zero, List.take_succ_cons, List.take_zero, if_true, if_false, ite_true, ite_false, Bool.and_true, Bool.true_and, Bool.false_eq_true, reduceIte, Option.map_some, Option.bind_some, Nat.reduceAdd, Nat.reduceSub, Nat.reduceLT, Nat.reduceLeDiff, decide_true, decide_false, Bool.not_true, Bool.not_false, Bool.or_true, Bool.or_false, Bool.false_or, Bool.true_or, eqD_int, eqD_str, dEq, dNe, Option.map_none, atI_0, atI_1, atI_2, mulOk_a, mulOk_b, cap, restE, wipeE, dMul, dAdd, ixN30, ixN31, ixN32, List.range_succ_eq_map, atI_neg1, dIx, hw]
theorem ixN_last (n : Nat) : ixN (n + 1) (-1) = some n := by
  unfold ixN
  rw [if_neg (by omega), if_pos (by omega)]
  congr 1
  omega
theorem set_last {α : Type} (R : List α) (a b : α) : (R ++ [a]).set R.length b = R ++ [b] := by simp
theorem rp_more (P Z s5 s6 : PD.Loc) (R : List D) (L : List D) (u sg l : Str) (hl : L.length + 1 ≤ 100000) : mSetAtO 1 (mTupD (mArg (mOp dIx (mIxO 1 (mUn dNeg (PD.ret (.int 1)))) (PD.ret (.int 0))) (mArg (mOp dAdd (mOp dIx (mIxO 1 (mUn dNeg (PD.ret (.int 1)))) (PD.ret (.int 1))) (mTupD (mArg (rd 4) (PD.ret [])))) (PD.ret [])))) (mUn dNeg (PD.ret (.int 1))) [P, .own (.lst (R ++ [.tup [.str u, .tup L]])), Z, .dat (.str sg), .dat (.str l), s5, s6] = some (.nx [P, .own (.lst (R ++ [.tup [.str u, .tup (L ++ [.str l])]])), Z, .dat (.str sg), .dat (.str l), s5, s6]) := by
  simp [mSeq, mE, mIf, mRet, mAsg, mDrop, mAug, mPar, mPar3, mNext, mBreak, mCont, setD, setCons, setTup, setNil, mOp, mUn, mCb, mArg, mTest, mTru, mAnd, mOr, mNot, mIfE, mChain, mTupD, mLstD, mLstO, mSetO, mPart, mSl, mAndV, mOrV, mNotV, bnd, PD.ret, lft, rd, rdD, asB, asI, mIxO, ixOwn, ownAt, ownSet, mSetAtO, mSetAt, mMeth, mLenO, mTruO, mCall, mCallP, locsP, runF, okEnd, isPin, clean, cleanL, noPin, pin0, mTup, mLst, mCbO, mOpO, asL, asO, mLc, inB, mFor, mForE, mForR, mRaiseE, mRaise, mTold, Own.d, dInt, dInt2, dSub, dDiv, dMod, dLt, dLe, dGt, dGe, dNeg, dIpAdd, dLen, dIntOf, dAbs, dMax2, dTuple, dList, dIsN, elems, dFmt, dStrI, List.getElem?_cons_zero, List.getElem?_cons_succ, List.set_cons_zero, List.set_cons_succ, List.length_cons, List.length_nil, List.cons_append, List.nil_append, List.map_cons, List.map_nil, List.replicate_succ, List.replicate_zero, List.take_succ_cons, List.take_zero, if_true, if_false, ite_true, ite_false, Bool.and_true, Bool.true_and, Bool.false_eq_true, reduceIte, Option.map_some, Option.bind_some, Nat.reduceAdd, Nat.reduceSub, Nat.reduceLT, Nat.reduceLeDiff, decide_true, decide_false, Bool.not_true, Bool.not_false, Bool.or_true, Bool.or_false, Bool.false_or, Bool.true_or, eqD_int, eqD_str, dEq, dNe, Option.map_none, atI_0, atI_1, atI_2, mulOk_a, mulOk_b, cap, restE, wipeE, dMul, dAdd, ixN30, ixN31, ixN32, List.range_succ_eq_map, atI_neg1, dIx, hl, ixN_last]
theorem rp_new (P Z s5 s6 : PD.Loc) (R : List D) (sg w l : Str) (hw : dWGet kv_WORDS_OF_SIGNS (.str sg) = some (.str w)) (hl : R.length < 100000) : mDrop (mMeth 1 mdAppend (mArg (mTupD (mArg (mUn (dWGet kv_WORDS_OF_SIGNS) (rd 3)) (mArg (mTupD (mArg (rd 4) (PD.ret []))) (PD.ret [])))) (PD.ret []))) [P, .own (.lst R), Z, .dat (.str sg), .dat (.str l), s5, s6] = some (.nx [P, .own (.lst (R ++ [.tup [.str w, .tup [.str l]]])), Z, .dat (.str sg), .dat (.str l), s5, s6]) := by
  simp [mSeq, mE, mIf, mRet, mAsg, mDrop, mAug, mPar, mPar3, mNext, mBreak, mCont, setD, setCons, setTup, setNil, mOp, mUn, mCb, mArg, mTest, mTru, mAnd, mOr, mNot, mIfE, mChain, mTupD, mLstD, mLstO, mSetO, mPart, mSl, mAndV, mOrV, mNotV, bnd, PD.ret, lft, rd, rdD, asB, asI, mIxO, ixOwn, ownAt, ownSet, mSetAtO, mSetAt, mMeth, mLenO, mTruO, mCall, mCallP, locsP, runF, okEnd, isPin, clean, cleanL, noPin, pin0, mTup, mLst, mCbO, mOpO, asL, asO, mLc, inB, mFor, mForE, mForR, mRaiseE, mRaise, mTold, Own.d, dInt, dInt2, dSub, dDiv, dMod, dLt, dLe, dGt, dGe, dNeg, dIpAdd, dLen, dIntOf, dAbs, dMax2, dTuple, dList, dIsN, elems, dFmt, dStrI, List.getElem?_cons_zero, List.getElem?_cons_succ, List.set_cons_zero, List.set_cons_succ, List.length_cons, List.length_nil, List.cons_append, List.nil_append, List.map_cons, List.map_nil, List.replicate_succ, List.replicate_zero, List.take_succ_cons, List.take_zero, if_true, if_false, ite_true, ite_false, Bool.and_true, Bool.true_and, Bool.false_eq_true, reduceIte, Option.map_some, Option.bind_some, Nat.reduceAdd, Nat.reduceSub, Nat.reduceLT, Nat.reduceLeDiff, decide_true, decide_false, Bool.not_true, Bool.not_false, Bool.or_true, Bool.or_false, Bool.false_or, Bool.true_or, eqD_int, eqD_str, dEq, dNe, Option.map_none, atI_0, atI_1, atI_2, mulOk_a, mulOk_b, cap, restE, wipeE, dMul, dAdd, ixN30, ixN31, ixN32, List.range_succ_eq_map, hw, mdAppend, hl]
/-- a row that is kept -/
theorem rp_k (P s3 s4 s5 s6 : PD.Loc) (R : List D) (n : Nat) (h0 : 0 < n) (hn : n ≤ 12) (hl : R.length < 100000) :
    m_read_patch_b1 [P, .own (.lst R), .dat (.str (("= " : Str) ++ toString (n : Int))), s3, s4, s5, s6] = some (.nx [P, .own (.lst (R ++ [opD (.keep n)])), .dat (.str (("= " : Str) ++ toString (n : Int))), .dat (.str "= "), .dat (.str (toString (n : Int))), s5, s6]) := by
  have c : mTest (mOp dEq (rd 3) (PD.ret (.str "= "))) [P, .own (.lst R), .dat (.str (("= " : Str) ++ toString (n : Int))), .dat (.str "= "), .dat (.str (toString (n : Int))), s5, s6] = some (.ok true [P, .own (.lst R), .dat (.str (("= " : Str) ++ toString (n : Int))), .dat (.str "= "), .dat (.str (toString (n : Int))), s5, s6]) := by
    simp [mSeq, mE, mIf, mRet, mAsg, mDrop, mAug, mPar, mPar3, mNext, mBreak, mCont, setD, setCons, setTup, setNil, mOp, mUn, mCb, mArg, mTest, mTru, mAnd, mOr, mNot, mIfE, mChain, mTupD, mLstD, mLstO, mSetO, mPart, mSl, mAndV, mOrV, mNotV, bnd, PD.ret, lft, rd, rdD, asB, asI, mIxO, ixOwn, ownAt, ownSet, mSetAtO, mSetAt, mMeth, mLenO, mTruO, mCall, mCallP, locsP, runF, okEnd, isPin, clean, cleanL, noPin, pin0, mTup, mLst, mCbO, mOpO, asL, asO, mLc, inB, mFor, mForE, mForR, mRaiseE, mRaise, mTold, Own.d, dInt, dInt2, dSub, dDiv, dMod, dLt, dLe, dGt, dGe, dNeg, dIpAdd, dLen, dIntOf, dAbs, dMax2, dTuple, dList, dIsN, elems, dFmt, dStrI, List.getElem?_cons_zero, List.getElem?_cons_succ, List.set_cons_zero, List.set_cons_succ, List.length_cons, List.length_nil, List.cons_append, List.nil_append, List.map_cons, List.map_nil, List.replicate_succ, List.replicate_zero, List.take_succ_cons, List.take_zero, if_true, if_false, ite_true, ite_false, Bool.and_true, Bool.true_and, Bool.false_eq_true, reduceIte, Option.map_some, Option.bind_some, Nat.reduceAdd, Nat.reduceSub, Nat.reduceLT, Nat.reduceLeDiff, decide_true, decide_false, Bool.not_true, Bool.not_false, Bool.or_true, Bool.or_false, Bool.false_or, Bool.true_or, eqD_int, eqD_str, dEq, dNe, Option.map_none, atI_0, atI_1, atI_2, mulOk_a, mulOk_b, cap, restE, wipeE, dMul, dAdd, ixN30, ixN31, ixN32, List.range_succ_eq_map]
  have e := rp_cut P (.own (.lst R)) s3 s4 s5 s6 "= " (toString (n : Int)) len2.1 (by have := numLen n (by omega); omega)
  unfold m_read_patch_b1
  rw [mSeq_nx e, mIf_t c]
  exact rp_keep F_number_kept P _ s5 s6 R _ _ _ (nk_ok h0 hn) hl
/-- a row that is dropped or added -/
theorem rp_w (P s3 s4 s5 s6 : PD.Loc) (R : List D) (sg w l : Str) (h2 : sg.length = 2) (hs : ¬ sg = "= ") (hno : dWNotIn kv_WORDS_OF_SIGNS (.str sg) = some (.bl false)) (hl : l.length ≤ 1000) (b : Bool) (hb : ∀ Z : PD.Loc, rpC [P, .own (.lst R), Z, .dat (.str sg), .dat (.str l), s5, s6] = some (.ok b [P, .own (.lst R), Z, .dat (.str sg), .dat (.str l), s5, s6])) :
    m_read_patch_b1 [P, .own (.lst R), .dat (.str (sg ++ l)), s3, s4, s5, s6] = (if b = true then mSetAtO 1 (mTupD (mArg (mOp dIx (mIxO 1 (mUn dNeg (PD.ret (.int 1)))) (PD.ret (.int 0))) (mArg (mOp dAdd (mOp dIx (mIxO 1 (mUn dNeg (PD.ret (.int 1)))) (PD.ret (.int 1))) (mTupD (mArg (rd 4) (PD.ret [])))) (PD.ret [])))) (mUn dNeg (PD.ret (.int 1)))
      else mDrop (mMeth 1 mdAppend (mArg (mTupD (mArg (mUn (dWGet kv_WORDS_OF_SIGNS) (rd 3)) (mArg (mTupD (mArg (rd 4) (PD.ret []))) (PD.ret [])))) (PD.ret [])))) [P, .own (.lst R), .dat (.str (sg ++ l)), .dat (.str sg), .dat (.str l), s5, s6] := by
  have e := rp_cut P (.own (.lst R)) s3 s4 s5 s6 sg l h2 hl
  have c1 : mTest (mOp dEq (rd 3) (PD.ret (.str "= "))) [P, .own (.lst R), .dat (.str (sg ++ l)), .dat (.str sg), .dat (.str l), s5, s6] = some (.ok false [P, .own (.lst R), .dat (.str (sg ++ l)), .dat (.str sg), .dat (.str l), s5, s6]) := by
    simp [mSeq, mE, mIf, mRet, mAsg, mDrop, mAug, mPar, mPar3, mNext, mBreak, mCont, setD, setCons, setTup, setNil, mOp, mUn, mCb, mArg, mTest, mTru, mAnd, mOr, mNot, mIfE, mChain, mTupD, mLstD, mLstO, mSetO, mPart, mSl, mAndV, mOrV, mNotV, bnd, PD.ret, lft, rd, rdD, asB, asI, mIxO, ixOwn, ownAt, ownSet, mSetAtO, mSetAt, mMeth, mLenO, mTruO, mCall, mCallP, locsP, runF, okEnd, isPin, clean, cleanL, noPin, pin0, mTup, mLst, mCbO, mOpO, asL, asO, mLc, inB, mFor, mForE, mForR, mRaiseE, mRaise, mTold, Own.d, dInt, dInt2, dSub, dDiv, dMod, dLt, dLe, dGt, dGe, dNeg, dIpAdd, dLen, dIntOf, dAbs, dMax2, dTuple, dList, dIsN, elems, dFmt, dStrI, List.getElem?_cons_zero, List.getElem?_cons_succ, List.set_cons_zero, List.set_cons_succ, List.length_cons, List.length_nil, List.cons_append, List.nil_append, List.map_cons, List.map_nil, List.replicate_succ, List.replicate_zero, List.take_succ_cons, List.take_zero, if_true, if_false, ite_true, ite_false, Bool.and_true, Bool.true_and, Bool.false_eq_true, reduceIte, Option.map_some, Option.bind_some, Nat.reduceAdd, Nat.reduceSub, Nat.reduceLT, Nat.reduceLeDiff, decide_true, decide_false, Bool.not_true, Bool.not_false, Bool.or_true, Bool.or_false, Bool.false_or, Bool.true_or, eqD_int, eqD_str, dEq, dNe, Option.map_none, atI_0, atI_1, atI_2, mulOk_a, mulOk_b, cap, restE, wipeE, dMul, dAdd, ixN30, ixN31, ixN32, List.range_succ_eq_map, hs]
  have c2 : mTest (mUn (dWNotIn kv_WORDS_OF_SIGNS) (rd 3)) [P, .own (.lst R), .dat (.str (sg ++ l)), .dat (.str sg), .dat (.str l), s5, s6] = some (.ok false [P, .own (.lst R), .dat (.str (sg ++ l)), .dat (.str sg), .dat (.str l), s5, s6]) := by
    simp [mSeq, mE, mIf, mRet, mAsg, mDrop, mAug, mPar, mPar3, mNext, mBreak, mCont, setD, setCons, setTup, setNil, mOp, mUn, mCb, mArg, mTest, mTru, mAnd, mOr, mNot, mIfE, mChain, mTupD, mLstD, mLstO, mSetO, mPart, mSl, mAndV, mOrV, mNotV, bnd, PD.ret, lft, rd, rdD, asB, asI, mIxO, ixOwn, ownAt, ownSet, mSetAtO, mSetAt, mMeth, mLenO, mTruO, mCall, mCallP, locsP, runF, okEnd, isPin, clean, cleanL, noPin, pin0, mTup, mLst, mCbO, mOpO, asL, asO, mLc, inB, mFor, mForE, mForR, mRaiseE, mRaise, mTold, Own.d, dInt, dInt2, dSub, dDiv, dMod, dLt, dLe, dGt, dGe, dNeg, dIpAdd, dLen, dIntOf, dAbs, dMax2, dTuple, dList, dIsN, elems, dFmt, dStrI, List.getElem?_cons_zero, List.getElem?_cons_succ, List.set_cons_zero, List.set_cons_succ, List.length_cons, List.length_nil, List.cons_append, List.nil_append, List.map_cons, List.map_nil, List.replicate_succ, List.replicate_zero, List.take_succ_cons, List.take_zero, if_true, if_false, ite_true, ite_false, Bool.and_true, Bool.true_and, Bool.false_eq_true, reduceIte, Option.map_some, Option.bind_some, Nat.reduceAdd, Nat.reduceSub, Nat.reduceLT, Nat.reduceLeDiff, decide_true, decide_false, Bool.not_true, Bool.not_false, Bool.or_true, Bool.or_false, Bool.false_or, Bool.true_or, eqD_int, eqD_str, dEq, dNe, Option.map_none, atI_0, atI_1, atI_2, mulOk_a, mulOk_b, cap, restE, wipeE, dMul, dAdd, ixN30, ixN31, ixN32, List.range_succ_eq_map, hno]
  unfold m_read_patch_b1
  rw [mSeq_nx e, mIf_f c1, mIf_f c2]
  cases b with
  | true => rw [mIf_t (hb _), if_pos rfl]
  | false => rw [mIf_f (hb _), if_neg Bool.false_ne_true]
end K02
end
section
set_option maxHeartbeats 0
namespace K02
open PySem L2 PD
theorem rp_lines (tl : List D) (P s5 s6 : PD.Loc) (R : List D) (sg w : Str) (h2 : sg.length = 2) (hs : ¬ sg = "= ") (hno : dWNotIn kv_WORDS_OF_SIGNS (.str sg) = some (.bl false)) (hw : dWGet kv_WORDS_OF_SIGNS (.str sg) = some (.str w)) : ∀ (ls L : List Str) (s2 s3 s4 : PD.Loc), (∀ l ∈ ls, l.length ≤ 1000) → L.length + ls.length ≤ 90000 →
    ∃ u2 u3 u4, loopL (setD 2) m_read_patch_b1 ((ls.map fun l => sg ++ l).map .str ++ tl) [P, .own (.lst (R ++ [.tup [.str w, .tup (L.map .str)]])), s2, s3, s4, s5, s6] = loopL (setD 2) m_read_patch_b1 tl [P, .own (.lst (R ++ [.tup [.str w, .tup ((L ++ ls).map .str)]])), u2, u3, u4, s5, s6]
  | [], L, s2, s3, s4, _, _ => ⟨s2, s3, s4, by rw [List.map_nil, List.map_nil, List.nil_append, List.append_nil]⟩
  | l :: ls, L, s2, s3, s4, hz, hl => by
    rw [List.length_cons] at hl
    have st := rp_w P s3 s4 s5 s6 (R ++ [.tup [.str w, .tup (L.map .str)]]) sg w l h2 hs hno (hz l List.mem_cons_self) _ (fun Z => rpC_last P Z _ s5 s6 R sg w w _ hw)
    rw [decide_eq_true rfl, if_pos rfl, rp_more P _ s5 s6 R (L.map .str) w sg l (by simp; omega)] at st
    obtain ⟨u2, u3, u4, ih⟩ := rp_lines tl P s5 s6 R sg w h2 hs hno hw ls (L ++ [l]) (.dat (.str (sg ++ l))) (.dat (.str sg)) (.dat (.str l)) (fun q hq => hz q (List.mem_cons_of_mem _ hq)) (by rw [List.length_append, List.length_singleton]; omega)
    refine ⟨u2, u3, u4, ?_⟩
    have tg : setD 2 (.str (sg ++ l)) [P, .own (.lst (R ++ [.tup [.str w, .tup (L.map .str)]])), s2, s3, s4, s5, s6] = some [P, .own (.lst (R ++ [.tup [.str w, .tup (L.map .str)]])), .dat (.str (sg ++ l)), s3, s4, s5, s6] := rfl
    rw [List.map_cons, List.map_cons, List.cons_append, loopL_nx tg st]
    rw [List.map_append, List.append_assoc] at ih
    exact ih
/-- the last row is of another word -/
def LastNe (R : List Op) (w : Str) : Prop := ∀ (Q : List Op) (o : Op), R = Q ++ [o] → ¬ word o = w
theorem rpC_ne (P Z l s5 s6 : PD.Loc) (R : List Op) (sg w : Str) (hw : dWGet kv_WORDS_OF_SIGNS (.str sg) = some (.str w)) (h : LastNe R w) : rpC [P, .own (.lst (R.map opD)), Z, .dat (.str sg), l, s5, s6] = some (.ok false [P, .own (.lst (R.map opD)), Z, .dat (.str sg), l, s5, s6]) := by
  rcases List.eq_nil_or_concat R with rfl | ⟨Q, o, rfl⟩
  · exact rpC_nil P Z l s5 s6 sg
  · rw [List.concat_eq_append] at h ⊢
    rw [List.map_append, List.map_cons, List.map_nil, opD_eq, rpC_last P Z l s5 s6 _ sg w _ _ hw, decide_eq_false (h Q o rfl)]
theorem rp_block (tl : List D) (P s2 s3 s4 s5 s6 : PD.Loc) (R : List Op) (sg w : Str) (ls : List Str) (h2 : sg.length = 2) (hs : ¬ sg = "= ") (hno : dWNotIn kv_WORDS_OF_SIGNS (.str sg) = some (.bl false)) (hw : dWGet kv_WORDS_OF_SIGNS (.str sg) = some (.str w)) (hz : ∀ l ∈ ls, l.length ≤ 1000) (hn : ls ≠ []) (hl : ls.length ≤ 1000) (hr : R.length ≤ 1000) (hd : LastNe R w) :
    ∃ u2 u3 u4, loopL (setD 2) m_read_patch_b1 ((ls.map fun l => sg ++ l).map .str ++ tl) [P, .own (.lst (R.map opD)), s2, s3, s4, s5, s6] = loopL (setD 2) m_read_patch_b1 tl [P, .own (.lst (R.map opD ++ [.tup [.str w, linesT ls]])), u2, u3, u4, s5, s6] := by
  cases ls with
  | nil => exact absurd rfl hn
  | cons l ls =>
    rw [List.length_cons] at hl
    have st := rp_w P s3 s4 s5 s6 (R.map opD) sg w l h2 hs hno (hz l List.mem_cons_self) false (fun Z => rpC_ne P Z _ s5 s6 R sg w hw hd)
    rw [if_neg Bool.false_ne_true, rp_new P _ s5 s6 (R.map opD) sg w l hw (by rw [List.length_map]; omega)] at st
    obtain ⟨u2, u3, u4, ih⟩ := rp_lines tl P s5 s6 (R.map opD) sg w h2 hs hno hw ls [l] (.dat (.str (sg ++ l))) (.dat (.str sg)) (.dat (.str l)) (fun q hq => hz q (List.mem_cons_of_mem _ hq)) (by simp; omega)
    refine ⟨u2, u3, u4, ?_⟩
    have tg : setD 2 (.str (sg ++ l)) [P, .own (.lst (R.map opD)), s2, s3, s4, s5, s6] = some [P, .own (.lst (R.map opD)), .dat (.str (sg ++ l)), s3, s4, s5, s6] := rfl
    rw [List.map_cons, List.map_cons, List.cons_append, loopL_nx tg st]
    exact ih
structure ReadO (o : Op) : Prop where
  s : ShortO o
  n : ∀ n, o = .keep n → 0 < n ∧ n ≤ 12
  e : isKp o = false → linesO o ≠ []
theorem rp_op (tl : List D) (P s2 s3 s4 s5 s6 : PD.Loc) (R : List Op) (o : Op) (h : ReadO o) (hr : R.length ≤ 1000) (hd : isKp o = false → LastNe R (word o)) :
    ∃ u2 u3 u4, loopL (setD 2) m_read_patch_b1 ((rowsO o).map .str ++ tl) [P, .own (.lst (R.map opD)), s2, s3, s4, s5, s6] = loopL (setD 2) m_read_patch_b1 tl [P, .own (.lst ((R ++ [o]).map opD)), u2, u3, u4, s5, s6] := by
  rw [List.map_append]
  cases o with
  | keep n =>
    obtain ⟨n0, n1⟩ := h.n n rfl
    have st := rp_k P s3 s4 s5 s6 (R.map opD) n n0 n1 (by rw [List.length_map]; omega)
    refine ⟨.dat (.str (("= " : Str) ++ toString (n : Int))), .dat (.str "= "), .dat (.str (toString (n : Int))), ?_⟩
    have tg : setD 2 (.str (("= " : Str) ++ toString (n : Int))) [P, .own (.lst (R.map opD)), s2, s3, s4, s5, s6] = some [P, .own (.lst (R.map opD)), .dat (.str (("= " : Str) ++ toString (n : Int))), s3, s4, s5, s6] := rfl
    exact loopL_nx (ds := tl) tg st
  | drop ls => exact rp_block tl P s2 s3 s4 s5 s6 R "- " "drop" ls len2.2.1 s_md wno_d wof_d h.s.1 (h.e rfl) h.s.2.2 hr (hd rfl)
  | add ls => exact rp_block tl P s2 s3 s4 s5 s6 R "+ " "add" ls len2.2.2 s_pd wno_a wof_a h.s.1 (h.e rfl) h.s.2.2 hr (hd rfl)
theorem word_kind {q o : Op} (z : word q = word o) : kind q = kind o := by
  cases q with
  | keep n =>
    cases o with
    | keep m => rfl
    | drop ls => exact absurd z s_kd
    | add ls => exact absurd z s_ka
  | drop ls =>
    cases o with
    | keep m => exact absurd z s_dk
    | drop ls => rfl
    | add ls => exact absurd z s_da
  | add ls =>
    cases o with
    | keep m => exact absurd z.symm s_ka
    | drop ls => exact absurd z.symm s_da
    | add ls => rfl
theorem rp_loop (tl : List D) (P s5 s6 : PD.Loc) : ∀ (p R : List Op) (a : Option Nat) (s2 s3 s4 : PD.Loc), (∀ o ∈ p, ReadO o) → WF a p → (∀ (Q : List Op) (o : Op), R = Q ++ [o] → a = some (kind o)) → R.length + p.length ≤ 900 →
    ∃ u2 u3 u4, loopL (setD 2) m_read_patch_b1 ((textP p).map .str ++ tl) [P, .own (.lst (R.map opD)), s2, s3, s4, s5, s6] = loopL (setD 2) m_read_patch_b1 tl [P, .own (.lst ((R ++ p).map opD)), u2, u3, u4, s5, s6]
  | [], R, a, s2, s3, s4, _, _, _, _ => ⟨s2, s3, s4, by simp [textP]⟩
  | o :: p, R, a, s2, s3, s4, hr, hw, ha, hl => by
    rw [List.length_cons] at hl
    have hd : isKp o = false → LastNe R (word o) := fun hk Q q e z => by
      have e2 := ha Q q e
      have n := (hw.1 _ e2).1
      apply n
      exact word_kind z
    obtain ⟨v2, v3, v4, h1⟩ := rp_op ((textP p).map .str ++ tl) P s2 s3 s4 s5 s6 R o (hr o List.mem_cons_self) (by omega) hd
    obtain ⟨u2, u3, u4, h2⟩ := rp_loop tl P s5 s6 p (R ++ [o]) (some (kind o)) v2 v3 v4 (fun q hq => hr q (List.mem_cons_of_mem _ hq)) hw.2 (fun Q q e => by
      have := List.append_inj_right' e rfl
      cases this; rfl) (by rw [List.length_append, List.length_singleton]; omega)
    refine ⟨u2, u3, u4, ?_⟩
    rw [List.append_assoc] at h2
    show loopL _ _ ((rowsO o ++ textP p).map .str ++ tl) _ = _
    rw [List.map_append, List.append_assoc]
    exact h1.trans h2
end K02
end
section
set_option maxHeartbeats 0
namespace K02
open PySem L2 PD
def badB (a b : Op) : Bool := decide (word a = word b) || (decide (word a = "add") && decide (word b = "drop"))
abbrev zC : MM Bool := mOr (mTest (mOp dEq (mOp dIx (rd 5) (PD.ret (.int 0))) (mOp dIx (rd 6) (PD.ret (.int 0))))) (mAnd (mTest (mOp dEq (mOp dIx (rd 5) (PD.ret (.int 0))) (PD.ret (.str "add")))) (mTest (mOp dEq (mOp dIx (rd 6) (PD.ret (.int 0))) (PD.ret (.str "drop")))))
theorem zC_ok (a0 a1 a2 a3 a4 : PD.Loc) (w u : Str) (x y : D) : zC [a0, a1, a2, a3, a4, .dat (.tup [.str w, x]), .dat (.tup [.str u, y])] = some (.ok (decide (w = u) || (decide (w = "add") && decide (u = "drop"))) [a0, a1, a2, a3, a4, .dat (.tup [.str w, x]), .dat (.tup [.str u, y])]) := by
  by_cases h1 : w = u
  · simp [mSeq, mE, mIf, mRet, mAsg, mDrop, mAug, mPar, mPar3, mNext, mBreak, mCont, setD, setCons, setTup, setNil, mOp, mUn, mCb, mArg, mTest, mTru, mAnd, mOr, mNot, mIfE, mChain, mTupD, mLstD, mLstO, mSetO, mPart, mSl, mAndV, mOrV, mNotV, bnd, PD.ret, lft, rd, rdD, asB, asI, mIxO, ixOwn, ownAt, ownSet, mSetAtO, mSetAt, mMeth, mLenO, mTruO, mCall, mCallP, locsP, runF, okEnd, isPin, clean, cleanL, noPin, pin0, mTup, mLst, mCbO, mOpO, asL, asO, mLc, inB, mFor, mForE, mForR, mRaiseE, mRaise, mTold, Own.d, dInt, dInt2, dSub, dDiv, dMod, dLt, dLe, dGt, dGe, dNeg, dIpAdd, dLen, dIntOf, dAbs, dMax2, dTuple, dList, dIsN, elems, dFmt, dStrI, List.getElem?_cons_zero, List.getElem?_cons_succ, List.set_cons_zero, List.set_cons_succ, List.length_cons, List.length_nil, List.cons_append, List.nil_append, List.map_cons, List.map_nil, List.replicate_succ, List.replicate_zero, List.take_succ_cons, List.take_zero, if_true, if_false, ite_true, ite_false, Bool.and_true, Bool.true_and, Bool.false_eq_true, reduceIte, Option.map_some, Option.bind_some, Nat.reduceAdd, Nat.reduceSub, Nat.reduceLT, Nat.reduceLeDiff, decide_true, decide_false, Bool.not_true, Bool.not_false, Bool.or_true, Bool.or_false, Bool.false_or, Bool.true_or, eqD_int, eqD_str, dEq, dNe, Option.map_none, atI_0, atI_1, atI_2, mulOk_a, mulOk_b, cap, restE, wipeE, dMul, dAdd, ixN30, ixN31, ixN32, List.range_succ_eq_map, dIx, h1]
  · by_cases h2 : w = "add"
    · subst h2
      simp [mSeq, mE, mIf, mRet, mAsg, mDrop, mAug, mPar, mPar3, mNext, mBreak, mCont, setD, setCons, setTup, setNil, mOp, mUn, mCb, mArg, mTest, mTru, mAnd, mOr, mNot, mIfE, mChain, mTupD, mLstD, mLstO, mSetO, mPart, mSl, mAndV, mOrV, mNotV, bnd, PD.ret, lft, rd, rdD, asB, asI, mIxO, ixOwn, ownAt, ownSet, mSetAtO, mSetAt, mMeth, mLenO, mTruO, mCall, mCallP, locsP, runF, okEnd, isPin, clean, cleanL, noPin, pin0, mTup, mLst, mCbO, mOpO, asL, asO, mLc, inB, mFor, mForE, mForR, mRaiseE, mRaise, mTold, Own.d, dInt, dInt2, dSub, dDiv, dMod, dLt, dLe, dGt, dGe, dNeg, dIpAdd, dLen, dIntOf, dAbs, dMax2, dTuple, dList, dIsN, elems, dFmt, dStrI, List.getElem?_cons_zero, List.getElem?_cons_succ, List.set_cons_zero, List.set_cons_succ, List.length_cons, List.length_nil, List.cons_append, List.nil_append, List.map_cons, List.map_nil, List.replicate_succ, List.replicate_zero, List.take_succ_cons, List.take_zero, if_true, if_false, ite_true, ite_false, Bool.and_true, Bool.true_and, Bool.false_eq_true, reduceIte, Option.map_some, Option.bind_some, Nat.reduceAdd, Nat.reduceSub, Nat.reduceLT, Nat.reduceLeDiff, decide_true, decide_false, Bool.not_true, Bool.not_false, Bool.or_true, Bool.or_false, Bool.false_or, Bool.true_or, eqD_int, eqD_str, dEq, dNe, Option.map_none, atI_0, atI_1, atI_2, mulOk_a, mulOk_b, cap, restE, wipeE, dMul, dAdd, ixN30, ixN31, ixN32, List.range_succ_eq_map, dIx, h1]
    · simp [mSeq, mE, mIf, mRet, mAsg, mDrop, mAug, mPar, mPar3, mNext, mBreak, mCont, setD, setCons, setTup, setNil, mOp, mUn, mCb, mArg, mTest, mTru, mAnd, mOr, mNot, mIfE, mChain, mTupD, mLstD, mLstO, mSetO, mPart, mSl, mAndV, mOrV, mNotV, bnd, PD.ret, lft, rd, rdD, asB, asI, mIxO, ixOwn, ownAt, ownSet, mSetAtO, mSetAt, mMeth, mLenO, mTruO, mCall, mCallP, locsP, runF, okEnd, isPin, clean, cleanL, noPin, pin0, mTup, mLst, mCbO, mOpO, asL, asO, mLc, inB, mFor, mForE, mForR, mRaiseE, mRaise, mTold, Own.d, dInt, dInt2, dSub, dDiv, dMod, dLt, dLe, dGt, dGe, dNeg, dIpAdd, dLen, dIntOf, dAbs, dMax2, dTuple, dList, dIsN, elems, dFmt, dStrI, List.getElem?_cons_zero, List.getElem?_cons_succ, List.set_cons_zero, List.set_cons_succ, List.length_cons, List.length_nil, List.cons_append, List.nil_append, List.map_cons, List.map_nil, List.replicate_succ, List.replicate_zero, List.take_succ_cons, List.take_zero, if_true, if_false, ite_true, ite_false, Bool.and_true, Bool.true_and, Bool.false_eq_true, reduceIte, Option.map_some, Option.bind_some, Nat.reduceAdd, Nat.reduceSub, Nat.reduceLT, Nat.reduceLeDiff, decide_true, decide_false, Bool.not_true, Bool.not_false, Bool.or_true, Bool.or_false, Bool.false_or, Bool.true_or, eqD_int, eqD_str, dEq, dNe, Option.map_none, atI_0, atI_1, atI_2, mulOk_a, mulOk_b, cap, restE, wipeE, dMul, dAdd, ixN30, ixN31, ixN32, List.range_succ_eq_map, dIx, h1, h2]
abbrev tg56 : D → PD.Env → Option PD.Env := setTup 2 (setCons (setD 5) (setCons (setD 6) setNil))
theorem z_step (a0 a1 a2 a3 a4 : PD.Loc) (a b : Op) : m_read_patch_b2 [a0, a1, a2, a3, a4, .dat (opD a), .dat (opD b)] = if badB a b = true then some (.er "PatchError" [a0, a1, a2, a3, a4, .dat (opD a), .dat (opD b)]) else some (.nx [a0, a1, a2, a3, a4, .dat (opD a), .dat (opD b)]) := by
  have c := zC_ok a0 a1 a2 a3 a4 (word a) (word b) (valD a) (valD b)
  rw [← opD_eq, ← opD_eq] at c
  unfold m_read_patch_b2 badB
  cases h : (decide (word a = word b) || (decide (word a = "add") && decide (word b = "drop"))) with
  | true =>
    rw [h] at c
    rw [mIf_t c, if_pos rfl]
    rfl
  | false =>
    rw [h] at c
    rw [mIf_f c, if_neg Bool.false_ne_true]
    rfl
theorem bad_iff (a b : Op) : badB a b = false ↔ okk (some (kind a)) (kind b) := by
  unfold badB okk
  constructor
  · intro h x e
    cases e
    rw [Bool.or_eq_false_iff, Bool.and_eq_false_iff, decide_eq_false_iff_not, decide_eq_false_iff_not, decide_eq_false_iff_not] at h
    refine ⟨fun z => h.1 ?_, fun z => ?_⟩
    · cases a <;> cases b <;> first | rfl | simp [kind] at z
    · cases a <;> cases b <;> simp [kind] at z
      exact h.2.elim (fun k => k rfl) (fun k => k rfl)
  · intro h
    obtain ⟨h1, h2⟩ := h _ rfl
    rw [Bool.or_eq_false_iff, Bool.and_eq_false_iff, decide_eq_false_iff_not, decide_eq_false_iff_not, decide_eq_false_iff_not]
    refine ⟨fun z => h1 (word_kind z), ?_⟩
    cases a with
    | keep n => exact .inl s_ka
    | drop ls => exact .inl s_da
    | add ls =>
      cases b with
      | keep m => exact .inr s_kd
      | drop ms => exact absurd ⟨rfl, rfl⟩ h2
      | add ms => exact .inr fun z => s_da z.symm
def pairs2 (l : List Op) : List D := List.zipWith (fun a b => D.tup [a, b]) (l.map opD) ((l.map opD).drop 1)
theorem pairs2_cons (a b : Op) (l : List Op) : pairs2 (a :: b :: l) = .tup [opD a, opD b] :: pairs2 (b :: l) := rfl
theorem z_ok (a0 a1 a2 a3 a4 : PD.Loc) : ∀ (l : List Op) (x : Option Nat) (s5 s6 : PD.Loc), WF x l → ∃ u5 u6, loopL tg56 m_read_patch_b2 (pairs2 l) [a0, a1, a2, a3, a4, s5, s6] = some (.nx [a0, a1, a2, a3, a4, u5, u6])
  | [], x, s5, s6, _ => ⟨s5, s6, rfl⟩
  | [a], x, s5, s6, _ => ⟨s5, s6, rfl⟩
  | a :: b :: l, x, s5, s6, h => by
    have st := z_step a0 a1 a2 a3 a4 a b
    rw [(bad_iff a b).mpr h.2.1, if_neg Bool.false_ne_true] at st
    obtain ⟨u5, u6, ih⟩ := z_ok a0 a1 a2 a3 a4 (b :: l) (some (kind a)) (.dat (opD a)) (.dat (opD b)) h.2
    refine ⟨u5, u6, ?_⟩
    have tg : tg56 (.tup [opD a, opD b]) [a0, a1, a2, a3, a4, s5, s6] = some [a0, a1, a2, a3, a4, .dat (opD a), .dat (opD b)] := rfl
    rw [pairs2_cons, loopL_nx tg st, ih]
theorem z_er (a0 a1 a2 a3 a4 : PD.Loc) (x y : Op) (hxy : badB x y = true) : ∀ (l : List Op) (s5 s6 : PD.Loc), ∃ u5 u6, loopL tg56 m_read_patch_b2 (pairs2 (l ++ [x, y])) [a0, a1, a2, a3, a4, s5, s6] = some (.er "PatchError" [a0, a1, a2, a3, a4, u5, u6])
  | [], s5, s6 => by
    have st := z_step a0 a1 a2 a3 a4 x y
    rw [hxy, if_pos rfl] at st
    have tg : tg56 (.tup [opD x, opD y]) [a0, a1, a2, a3, a4, s5, s6] = some [a0, a1, a2, a3, a4, .dat (opD x), .dat (opD y)] := rfl
    exact ⟨_, _, loopL_er tg st⟩
  | a :: l, s5, s6 => by
    have key : ∀ (b : Op) (q : List Op), (∀ s5 s6 : PD.Loc, ∃ u5 u6, loopL tg56 m_read_patch_b2 (pairs2 (b :: q)) [a0, a1, a2, a3, a4, s5, s6] = some (.er "PatchError" [a0, a1, a2, a3, a4, u5, u6])) → ∃ u5 u6, loopL tg56 m_read_patch_b2 (pairs2 (a :: b :: q)) [a0, a1, a2, a3, a4, s5, s6] = some (.er "PatchError" [a0, a1, a2, a3, a4, u5, u6]) := by
      intro b q ih
      have st := z_step a0 a1 a2 a3 a4 a b
      have tg : tg56 (.tup [opD a, opD b]) [a0, a1, a2, a3, a4, s5, s6] = some [a0, a1, a2, a3, a4, .dat (opD a), .dat (opD b)] := rfl
      cases hb : badB a b with
      | true =>
        rw [hb, if_pos rfl] at st
        exact ⟨_, _, loopL_er tg st⟩
      | false =>
        rw [hb, if_neg Bool.false_ne_true] at st
        obtain ⟨u5, u6, e⟩ := ih (.dat (opD a)) (.dat (opD b))
        exact ⟨u5, u6, by rw [pairs2_cons, loopL_nx tg st, e]⟩
    cases l with
    | nil => exact key x [y] (fun s5 s6 => z_er a0 a1 a2 a3 a4 x y hxy [] s5 s6)
    | cons b l => exact key b (l ++ [x, y]) (fun s5 s6 => z_er a0 a1 a2 a3 a4 x y hxy (b :: l) s5 s6)
theorem cut_1 (ds : List D) : cutD ds (some 1) none = ds.drop 1 := by
  unfold cutD
  rw [HT.sIx_none, show (some (1 : Int)) = some ((1 : Nat) : Int) from rfl, HT.sIx_nat]
  cases ds with
  | nil => rfl
  | cons d ds =>
    rw [Nat.min_eq_left (by simp), List.take_of_length_le (by simp)]
theorem zip_ev (P s2 s3 s4 s5 s6 : PD.Loc) (l : List Op) : mForE zipDA (mArg (rd 1) (mArg (mSl (rd 1) (mPart (PD.ret (.int 1))) (PD.ret none)) (PD.ret []))) tg56 m_read_patch_b2 [P, .own (.lst (l.map opD)), s2, s3, s4, s5, s6] = loopL tg56 m_read_patch_b2 (pairs2 l) [P, .dat (.lst (l.map opD)), s2, s3, s4, s5, s6] := by
  have e : dSl (.lst (l.map opD)) (some 1) none = some (.lst ((l.map opD).drop 1)) := by
    show some (D.lst (cutD (l.map opD) (some 1) none)) = _
    rw [cut_1]
  simp only [mSeq, mE, mIf, mRet, mAsg, mDrop, mAug, mPar, mPar3, mNext, mBreak, mCont, setD, setCons, setTup, setNil, mOp, mUn, mCb, mArg, mTest, mTru, mAnd, mOr, mNot, mIfE, mChain, mTupD, mLstD, mLstO, mSetO, mPart, mSl, mAndV, mOrV, mNotV, bnd, PD.ret, lft, rd, rdD, asB, asI, mIxO, ixOwn, ownAt, ownSet, mSetAtO, mSetAt, mMeth, mLenO, mTruO, mCall, mCallP, locsP, runF, okEnd, isPin, clean, cleanL, noPin, pin0, mTup, mLst, mCbO, mOpO, asL, asO, mLc, inB, mFor, mForE, mForR, mRaiseE, mRaise, mTold, Own.d, dInt, dInt2, dSub, dDiv, dMod, dLt, dLe, dGt, dGe, dNeg, dIpAdd, dLen, dIntOf, dAbs, dMax2, dTuple, dList, dIsN, elems, dFmt, dStrI, List.getElem?_cons_zero, List.getElem?_cons_succ, List.set_cons_zero, List.set_cons_succ, List.length_cons, List.length_nil, List.cons_append, List.nil_append, List.map_cons, List.map_nil, List.replicate_succ, List.replicate_zero, List.take_succ_cons, List.take_zero, if_true, if_false, ite_true, ite_false, Bool.and_true, Bool.true_and, Bool.false_eq_true, reduceIte, Option.map_some, Option.bind_some, Nat.reduceAdd, Nat.reduceSub, Nat.reduceLT, Nat.reduceLeDiff, decide_true, decide_false, Bool.not_true, Bool.not_false, Bool.or_true, Bool.or_false, Bool.false_or, Bool.true_or, eqD_int, eqD_str, dEq, dNe, Option.map_none, atI_0, atI_1, atI_2, mulOk_a, mulOk_b, cap, restE, wipeE, dMul, dAdd, ixN30, ixN31, ixN32, List.range_succ_eq_map, e, zipDA]
  rfl
/-- what is read from a patch's text -/
theorem read_ok (p : List Op) (hr : ∀ o ∈ p, ReadO o) (hw : WF none p) (hl : p.length ≤ 80) : F_read_patch [.dat (linesT (textP p))] = some (.ok (patchD p) [.non]) := by
  obtain ⟨u2, u3, u4, h⟩ := rp_loop [] (.dat (linesT (textP p))) .non .non p [] none .non .non .non hr hw (fun Q o e => by simp at e) (by simp; omega)
  rw [List.append_nil, loopL_nil, List.nil_append] at h
  obtain ⟨u5, u6, hz⟩ := z_ok (.dat (linesT (textP p))) (.dat (.lst (p.map opD))) u2 u3 u4 p none .non .non hw
  have e0 : mSetO 1 (mLstO (PD.ret [])) [.dat (linesT (textP p)), .non, .non, .non, .non, .non, .non] = some (.nx [.dat (linesT (textP p)), .own (.lst (([] : List Op).map opD)), .non, .non, .non, .non, .non]) := by
    simp [mSeq, mE, mIf, mRet, mAsg, mDrop, mAug, mPar, mPar3, mNext, mBreak, mCont, setD, setCons, setTup, setNil, mOp, mUn, mCb, mArg, mTest, mTru, mAnd, mOr, mNot, mIfE, mChain, mTupD, mLstD, mLstO, mSetO, mPart, mSl, mAndV, mOrV, mNotV, bnd, PD.ret, lft, rd, rdD, asB, asI, mIxO, ixOwn, ownAt, ownSet, mSetAtO, mSetAt, mMeth, mLenO, mTruO, mCall, mCallP, locsP, runF, okEnd, isPin, clean, cleanL, noPin, pin0, mTup, mLst, mCbO, mOpO, asL, asO, mLc, inB, mFor, mForE, mForR, mRaiseE, mRaise, mTold, Own.d, dInt, dInt2, dSub, dDiv, dMod, dLt, dLe, dGt, dGe, dNeg, dIpAdd, dLen, dIntOf, dAbs, dMax2, dTuple, dList, dIsN, elems, dFmt, dStrI, List.getElem?_cons_zero, List.getElem?_cons_succ, List.set_cons_zero, List.set_cons_succ, List.length_cons, List.length_nil, List.cons_append, List.nil_append, List.map_cons, List.map_nil, List.replicate_succ, List.replicate_zero, List.take_succ_cons, List.take_zero, if_true, if_false, ite_true, ite_false, Bool.and_true, Bool.true_and, Bool.false_eq_true, reduceIte, Option.map_some, Option.bind_some, Nat.reduceAdd, Nat.reduceSub, Nat.reduceLT, Nat.reduceLeDiff, decide_true, decide_false, Bool.not_true, Bool.not_false, Bool.or_true, Bool.or_false, Bool.false_or, Bool.true_or, eqD_int, eqD_str, dEq, dNe, Option.map_none, atI_0, atI_1, atI_2, mulOk_a, mulOk_b, cap, restE, wipeE, dMul, dAdd, ixN30, ixN31, ixN32, List.range_succ_eq_map]
  have e1 : mFor (rd 0) (setD 2) m_read_patch_b1 [.dat (linesT (textP p)), .own (.lst (([] : List Op).map opD)), .non, .non, .non, .non, .non] = loopL (setD 2) m_read_patch_b1 ((textP p).map .str) [.dat (linesT (textP p)), .own (.lst (([] : List Op).map opD)), .non, .non, .non, .non, .non] := rfl
  have body : m_read_patch [.dat (linesT (textP p)), .non, .non, .non, .non, .non, .non] = some (.rt (patchD p) [.dat (linesT (textP p)), .dat (.lst (p.map opD)), u2, u3, u4, u5, u6]) := by
    unfold m_read_patch
    rw [mSeq_nx e0, mSeq_nx (e1.trans h), mSeq_nx ((zip_ev _ _ _ _ _ _ p).trans hz)]
    rfl
  exact runF_rt (n := 1) (N := 7) (ρ0 := [.dat (linesT (textP p)), .non, .non, .non, .non, .non, .non]) rfl body rfl
end K02
end
section
set_option maxHeartbeats 0
namespace K02
open PySem L2 PD
def isErr : Option (Res D) → Bool
  | some (.er c _) => decide (c = "PatchError")
  | _ => false
theorem isErr_ok {r : Option (Res D)} (h : isErr r = true) : ∃ e, r = some (.er "PatchError" e) := by
  cases r with
  | none => cases h
  | some x =>
    cases x with
    | ok d e => cases h
    | er c e => exact ⟨e, by rw [of_decide_eq_true h]⟩
def bads : List (List Str) := [["= 0"], ["= x"], ["= "], ["* a"], [""], ["+ a", "- b"], ["= 1", "= 2"], ["= 01"], ["=1"], ["= 1234567"]]
theorem bads_err : bads.all (fun b => isErr (F_read_patch [.dat (.lst (b.map .str))])) = true := by decide +kernel
theorem one_eq : ("= 1" : Str) = ("= " : Str) ++ toString ((1 : Nat) : Int) := by decide +kernel
theorem read_twice (p : List Op) (hr : ∀ o ∈ p, ReadO o) (hw : WF none p) (hl : p.length ≤ 80) : ∃ e, F_read_patch [.dat (.lst ((textP p).map .str ++ [.str "= 1", .str "= 1"]))] = some (.er "PatchError" e) := by
  obtain ⟨u2, u3, u4, h⟩ := rp_loop [.str "= 1", .str "= 1"] (.dat (.lst ((textP p).map .str ++ [.str "= 1", .str "= 1"]))) .non .non p [] none .non .non .non hr hw (fun Q o e => by simp at e) (by simp; omega)
  rw [List.nil_append] at h
  have k1 := rp_k (.dat (.lst ((textP p).map .str ++ [.str "= 1", .str "= 1"]))) u3 u4 .non .non (p.map opD) 1 (by omega) (by omega) (by rw [List.length_map]; omega)
  have k2 := rp_k (.dat (.lst ((textP p).map .str ++ [.str "= 1", .str "= 1"]))) (.dat (.str "= ")) (.dat (.str (toString ((1 : Nat) : Int)))) .non .non (p.map opD ++ [opD (Op.keep 1)]) 1 (by omega) (by omega) (by simp; omega)
  rw [← one_eq] at k1 k2
  have g1 : ∀ a0 a1 a2 a3 a4 a5 a6 : PD.Loc, setD 2 (.str "= 1") [a0, a1, a2, a3, a4, a5, a6] = some [a0, a1, .dat (.str "= 1"), a3, a4, a5, a6] := fun _ _ _ _ _ _ _ => rfl
  rw [loopL_nx (g1 _ _ _ _ _ _ _) k1, loopL_nx (g1 _ _ _ _ _ _ _) k2, loopL_nil] at h
  have el : p.map opD ++ [opD (Op.keep 1)] ++ [opD (Op.keep 1)] = (p ++ [Op.keep 1, Op.keep 1]).map opD := by simp
  rw [el] at h
  obtain ⟨u5, u6, hz⟩ := z_er (.dat (.lst ((textP p).map .str ++ [.str "= 1", .str "= 1"]))) (.dat (.lst ((p ++ [Op.keep 1, Op.keep 1]).map opD))) (.dat (.str "= 1")) (.dat (.str "= ")) (.dat (.str (toString ((1 : Nat) : Int)))) (.keep 1) (.keep 1) (by unfold badB; rw [decide_eq_true rfl]; rfl) p .non .non
  have e0 : mSetO 1 (mLstO (PD.ret [])) [.dat (.lst ((textP p).map .str ++ [.str "= 1", .str "= 1"])), .non, .non, .non, .non, .non, .non] = some (.nx [.dat (.lst ((textP p).map .str ++ [.str "= 1", .str "= 1"])), .own (.lst (([] : List Op).map opD)), .non, .non, .non, .non, .non]) := by
    simp [mSeq, mE, mIf, mRet, mAsg, mDrop, mAug, mPar, mPar3, mNext, mBreak, mCont, setD, setCons, setTup, setNil, mOp, mUn, mCb, mArg, mTest, mTru, mAnd, mOr, mNot, mIfE, mChain, mTupD, mLstD, mLstO, mSetO, mPart, mSl, mAndV, mOrV, mNotV, bnd, PD.ret, lft, rd, rdD, asB, asI, mIxO, ixOwn, ownAt, ownSet, mSetAtO, mSetAt, mMeth, mLenO, mTruO, mCall, mCallP, locsP, runF, okEnd, isPin, clean, cleanL, noPin, pin0, mTup, mLst, mCbO, mOpO, asL, asO, mLc, inB, mFor, mForE, mForR, mRaiseE, mRaise, mTold, Own.d, dInt, dInt2, dSub, dDiv, dMod, dLt, dLe, dGt, dGe, dNeg, dIpAdd, dLen, dIntOf, dAbs, dMax2, dTuple, dList, dIsN, elems, dFmt, dStrI, List.getElem?_cons_zero, List.getElem?_cons_succ, List.set_cons_zero, List.set_cons_succ, List.length_cons, List.length_nil, List.cons_append, List.nil_append, List.map_cons, List.map_nil, List.replicate_succ, List.replicate_zero, List.take_succ_cons, List.take_zero, if_true, if_false, ite_true, ite_false, Bool.and_true, Bool.true_and, Bool.false_eq_true, reduceIte, Option.map_some, Option.bind_some, Nat.reduceAdd, Nat.reduceSub, Nat.reduceLT, Nat.reduceLeDiff, decide_true, decide_false, Bool.not_true, Bool.not_false, Bool.or_true, Bool.or_false, Bool.false_or, Bool.true_or, eqD_int, eqD_str, dEq, dNe, Option.map_none, atI_0, atI_1, atI_2, mulOk_a, mulOk_b, cap, restE, wipeE, dMul, dAdd, ixN30, ixN31, ixN32, List.range_succ_eq_map]
  have e1 : mFor (rd 0) (setD 2) m_read_patch_b1 [.dat (.lst ((textP p).map .str ++ [.str "= 1", .str "= 1"])), .own (.lst (([] : List Op).map opD)), .non, .non, .non, .non, .non] = loopL (setD 2) m_read_patch_b1 ((textP p).map .str ++ [.str "= 1", .str "= 1"]) [.dat (.lst ((textP p).map .str ++ [.str "= 1", .str "= 1"])), .own (.lst (([] : List Op).map opD)), .non, .non, .non, .non, .non] := rfl
  have body : m_read_patch [.dat (.lst ((textP p).map .str ++ [.str "= 1", .str "= 1"])), .non, .non, .non, .non, .non, .non] = some (.er "PatchError" [.dat (.lst ((textP p).map .str ++ [.str "= 1", .str "= 1"])), .dat (.lst ((p ++ [Op.keep 1, Op.keep 1]).map opD)), .dat (.str "= 1"), .dat (.str "= "), .dat (.str (toString ((1 : Nat) : Int))), u5, u6]) := by
    unfold m_read_patch
    rw [mSeq_nx e0, mSeq_nx (e1.trans h)]
    exact mSeq_er ((zip_ev _ _ _ _ _ _ _).trans hz)
  exact ⟨_, runF_er (n := 1) (N := 7) (ρ0 := [.dat (.lst ((textP p).map .str ++ [.str "= 1", .str "= 1"])), .non, .non, .non, .non, .non, .non]) rfl body rfl⟩
end K02
end
section
set_option maxHeartbeats 0
namespace K02
open PySem L2 PD
theorem leads_read {p : List Op} {xs ys : List Str} (h : Leads p xs ys) : (∀ l ∈ xs, Short l) → (∀ l ∈ ys, Short l) → xs.length ≤ 12 → ys.length ≤ 12 → ∀ o ∈ p, ReadO o := by
  induction h with
  | nil => intro _ _ _ _ o ho; cases ho
  | @keep ks p xs ys h1 h2 ih =>
    intro hx hy lx ly o ho
    have l := List.length_pos_iff.mpr h1
    rw [List.length_append] at lx ly
    rcases List.mem_cons.mp ho with rfl | ho
    · refine ⟨⟨(fun l hl => nomatch hl), fun n e => ?_, by simp [linesO]⟩, fun n e => ?_, fun e => by cases e⟩
      · cases e; omega
      · cases e; omega
    · exact ih (fun l hl => hx l (List.mem_append_right _ hl)) (fun l hl => hy l (List.mem_append_right _ hl)) (by omega) (by omega) o ho
  | @drop ds p xs ys h1 h2 ih =>
    intro hx hy lx ly o ho
    rw [List.length_append] at lx
    rcases List.mem_cons.mp ho with rfl | ho
    · refine ⟨⟨fun l hl => ?_, fun n e => (by cases e), by show ds.length ≤ 1000; omega⟩, fun n e => (by cases e), fun _ => h1⟩
      have : l.length ≤ 2 := hx l (List.mem_append_left _ hl)
      omega
    · exact ih (fun l hl => hx l (List.mem_append_right _ hl)) hy (by omega) ly o ho
  | @add as p xs ys h1 h2 ih =>
    intro hx hy lx ly o ho
    rw [List.length_append] at ly
    rcases List.mem_cons.mp ho with rfl | ho
    · refine ⟨⟨fun l hl => ?_, fun n e => (by cases e), by show as.length ≤ 1000; omega⟩, fun n e => (by cases e), fun _ => h1⟩
      have : l.length ≤ 2 := hy l (List.mem_append_left _ hl)
      omega
    · exact ih hx (fun l hl => hy l (List.mem_append_right _ hl)) lx (by omega) o ho
theorem leads_size {p : List Op} {xs ys zs : List Str} (h : Leads p xs ys) (lx : xs.length ≤ 12) (ly : ys.length ≤ 12) (lz : zs.length ≤ 12) : Sized zs p := by
  obtain ⟨i1, i2, i3, i4, i5⟩ := leads_sized h
  exact ⟨by omega, by omega, fun o ho ls e => by have := i3 o ho ls e; omega, fun o ho n e => by have := i5 o ho n e; omega⟩
theorem flat_lines (xs : List Str) : flat 1 (linesT xs) = true := by
  unfold linesT
  simp only [flat, flats_all, List.all_map]
  rw [List.all_eq_true]
  intro x _
  simp [flat]
theorem flat_patch (p : List Op) : flat 3 (patchD p) = true := by
  unfold patchD
  simp only [flat, flats_all, List.all_map]
  rw [List.all_eq_true]
  intro o _
  cases o with
  | keep n => simp [opD, flat, flats]
  | drop ls =>
    have : flats 1 (ls.map D.str) = true ∨ True := .inr trivial
    simp only [Function.comp, opD, linesT, flat, flats, Bool.and_true, Bool.true_and, flats_all, List.all_map]
    rw [List.all_eq_true]
    intro x _
    simp [flat]
  | add ls =>
    simp only [Function.comp, opD, linesT, flat, flats, Bool.and_true, Bool.true_and, flats_all, List.all_map]
    rw [List.all_eq_true]
    intro x _
    simp [flat]
theorem eq_lines (xs : List Str) : dNe (linesT xs) (linesT xs) = some (.bl false) := by
  unfold dNe
  rw [eqD_refl (flat_lines xs) (by omega)]
  rfl
theorem eq_patch (p : List Op) : dNe (patchD p) (patchD p) = some (.bl false) := by
  unfold dNe
  rw [eqD_refl (flat_patch p) (by omega)]
  rfl
theorem eq_pairs (l : List (Nat × Nat)) : dNe (.lst (l.map pairD)) (.lst (l.map pairD)) = some (.bl false) := by
  unfold dNe
  have f : flat 2 (.lst (l.map pairD)) = true := by
    simp only [flat, flats_all, List.all_map]
    rw [List.all_eq_true]
    intro x _
    simp [pairD, flat, flats]
  rw [eqD_refl f (by omega)]
  rfl
/-- the law's first step: three texts -/
theorem lb_1 (F : PD.Env → Option (Res D)) (o0 o1 o2 o3 : Own) (d1 d2 d3 : D) (h1 : F [.pin o0] = some (.ok d1 [.pin o1])) (h2 : F [.pin o1] = some (.ok d2 [.pin o2])) (h3 : F [.pin o2] = some (.ok d3 [.pin o3])) :
    mAsg (mTupD (mArg (mCallP F 1 (PD.ret [])) (mArg (mCallP F 1 (PD.ret [])) (mArg (mCallP F 1 (PD.ret [])) (PD.ret []))))) (setTup 3 (setCons (setD 2) (setCons (setD 3) (setCons (setD 4) setNil))))
      [.non, .own o0, .non, .non, .non, .non, .non, .non, .non, .non, .non, .non, .non, .non, .non, .non, .non, .non] =
      some (.nx [.non, .own o3, .dat d1, .dat d2, .dat d3, .non, .non, .non, .non, .non, .non, .non, .non, .non, .non, .non, .non, .non]) := by
  simp [mSeq, mE, mIf, mRet, mAsg, mDrop, mAug, mPar, mPar3, mNext, mBreak, mCont, setD, setCons, setTup, setNil, mOp, mUn, mCb, mArg, mTest, mTru, mAnd, mOr, mNot, mIfE, mChain, mTupD, mLstD, mLstO, mSetO, mPart, mSl, mAndV, mOrV, mNotV, bnd, PD.ret, lft, rd, rdD, asB, asI, mIxO, ixOwn, ownAt, ownSet, mSetAtO, mSetAt, mMeth, mLenO, mTruO, mCall, mCallP, locsP, runF, okEnd, isPin, clean, cleanL, noPin, pin0, mTup, mLst, mCbO, mOpO, asL, asO, mLc, inB, mFor, mForE, mForR, mRaiseE, mRaise, mTold, Own.d, dInt, dInt2, dSub, dDiv, dMod, dLt, dLe, dGt, dGe, dNeg, dIpAdd, dLen, dIntOf, dAbs, dMax2, dTuple, dList, dIsN, elems, dFmt, dStrI, List.getElem?_cons_zero, List.getElem?_cons_succ, List.set_cons_zero, List.set_cons_succ, List.length_cons, List.length_nil, List.cons_append, List.nil_append, List.map_cons, List.map_nil, List.replicate_succ, List.replicate_zero, List.take_succ_cons, List.take_zero, if_true, if_false, ite_true, ite_false, Bool.and_true, Bool.true_and, Bool.false_eq_true, reduceIte, Option.map_some, Option.bind_some, Nat.reduceAdd, Nat.reduceSub, Nat.reduceLT, Nat.reduceLeDiff, decide_true, decide_false, Bool.not_true, Bool.not_false, Bool.or_true, Bool.or_false, Bool.false_or, Bool.true_or, eqD_int, eqD_str, dEq, dNe, Option.map_none, atI_0, atI_1, atI_2, mulOk_a, mulOk_b, cap, restE, wipeE, dMul, dAdd, ixN30, ixN31, ixN32, List.range_succ_eq_map, h1, h2, h3]
end K02
end
section
set_option maxHeartbeats 0
namespace K02
open PySem L2 PD

theorem lb_2 (a0 a1 a2 a3 a4 a5 a6 a7 a8 a9 a10 a11 a12 a13 a14 a15 a16 a17 : PD.Loc) (F : PD.Env → Option (Res D)) (x y r : D) (E : PD.Env) (h : F [.dat x, .dat y] = some (.ok r E)) :
    (mAsg (mCall F (mArg (rd 2) (mArg (rd 3) (PD.ret [])))) (setD 5)) [a0, a1, .dat x, .dat y, a4, a5, a6, a7, a8, a9, a10, a11, a12, a13, a14, a15, a16, a17] = some (.nx [a0, a1, .dat x, .dat y, a4, .dat r, a6, a7, a8, a9, a10, a11, a12, a13, a14, a15, a16, a17]) := by
  simp [mSeq, mE, mIf, mRet, mAsg, mDrop, mAug, mPar, mPar3, mNext, mBreak, mCont, setD, setCons, setTup, setNil, mOp, mUn, mCb, mArg, mTest, mTru, mAnd, mOr, mNot, mIfE, mChain, mTupD, mLstD, mLstO, mSetO, mPart, mSl, mAndV, mOrV, mNotV, bnd, PD.ret, lft, rd, rdD, asB, asI, mIxO, ixOwn, ownAt, ownSet, mSetAtO, mSetAt, mMeth, mLenO, mTruO, mCall, mCallP, locsP, runF, okEnd, isPin, clean, cleanL, noPin, pin0, mTup, mLst, mCbO, mOpO, asL, asO, mLc, inB, mFor, mForE, mForR, mRaiseE, mRaise, mTold, Own.d, dInt, dInt2, dSub, dDiv, dMod, dLt, dLe, dGt, dGe, dNeg, dIpAdd, dLen, dIntOf, dAbs, dMax2, dTuple, dList, dIsN, elems, dFmt, dStrI, List.getElem?_cons_zero, List.getElem?_cons_succ, List.set_cons_zero, List.set_cons_succ, List.length_cons, List.length_nil, List.cons_append, List.nil_append, List.map_cons, List.map_nil, List.replicate_succ, List.replicate_zero, List.take_succ_cons, List.take_zero, if_true, if_false, ite_true, ite_false, Bool.and_true, Bool.true_and, Bool.false_eq_true, reduceIte, Option.map_some, Option.bind_some, Nat.reduceAdd, Nat.reduceSub, Nat.reduceLT, Nat.reduceLeDiff, decide_true, decide_false, Bool.not_true, Bool.not_false, Bool.or_true, Bool.or_false, Bool.false_or, Bool.true_or, eqD_int, eqD_str, dEq, dNe, Option.map_none, atI_0, atI_1, atI_2, mulOk_a, mulOk_b, cap, restE, wipeE, dMul, dAdd, ixN30, ixN31, ixN32, List.range_succ_eq_map, h]
theorem lb_3 (a0 a1 a2 a3 a4 a5 a6 a7 a8 a9 a10 a11 a12 a13 a14 a15 a16 a17 : PD.Loc) (F G : PD.Env → Option (Res D)) (x y : D) (E E2 : PD.Env) (l r rs : List D) (k : Int) (h : F [.dat x, .dat y] = some (.ok (.tup l) E)) (he : eqD (.lst l) (.lst l) = some true) (h2 : G [.dat x, .dat y] = some (.ok (.lst (.lst (.int k :: r) :: rs)) E2)) (hk : k = (l.length : Int)) :
    (mIf (mOr (mTest (mOp dNe (mCb (fun as => (dList as).map .lst) (mArg (mCall F (mArg (rd 2) (mArg (rd 3) (PD.ret [])))) (PD.ret []))) (rd 5))) (mTest (mOp dNe (mOp dIx (mOp dIx (mCall G (mArg (rd 2) (mArg (rd 3) (PD.ret [])))) (PD.ret (.int 0))) (PD.ret (.int 0))) (mCb dLen (mArg (rd 5) (PD.ret [])))))) (mRet (PD.ret (.bl false))) mNext) [a0, a1, .dat x, .dat y, a4, .dat (.lst l), a6, a7, a8, a9, a10, a11, a12, a13, a14, a15, a16, a17] = some (.nx [a0, a1, .dat x, .dat y, a4, .dat (.lst l), a6, a7, a8, a9, a10, a11, a12, a13, a14, a15, a16, a17]) := by
  simp [mSeq, mE, mIf, mRet, mAsg, mDrop, mAug, mPar, mPar3, mNext, mBreak, mCont, setD, setCons, setTup, setNil, mOp, mUn, mCb, mArg, mTest, mTru, mAnd, mOr, mNot, mIfE, mChain, mTupD, mLstD, mLstO, mSetO, mPart, mSl, mAndV, mOrV, mNotV, bnd, PD.ret, lft, rd, rdD, asB, asI, mIxO, ixOwn, ownAt, ownSet, mSetAtO, mSetAt, mMeth, mLenO, mTruO, mCall, mCallP, locsP, runF, okEnd, isPin, clean, cleanL, noPin, pin0, mTup, mLst, mCbO, mOpO, asL, asO, mLc, inB, mFor, mForE, mForR, mRaiseE, mRaise, mTold, Own.d, dInt, dInt2, dSub, dDiv, dMod, dLt, dLe, dGt, dGe, dNeg, dIpAdd, dLen, dIntOf, dAbs, dMax2, dTuple, dList, dIsN, elems, dFmt, dStrI, List.getElem?_cons_zero, List.getElem?_cons_succ, List.set_cons_zero, List.set_cons_succ, List.length_cons, List.length_nil, List.cons_append, List.nil_append, List.map_cons, List.map_nil, List.replicate_succ, List.replicate_zero, List.take_succ_cons, List.take_zero, if_true, if_false, ite_true, ite_false, Bool.and_true, Bool.true_and, Bool.false_eq_true, reduceIte, Option.map_some, Option.bind_some, Nat.reduceAdd, Nat.reduceSub, Nat.reduceLT, Nat.reduceLeDiff, decide_true, decide_false, Bool.not_true, Bool.not_false, Bool.or_true, Bool.or_false, Bool.false_or, Bool.true_or, eqD_int, eqD_str, dEq, dNe, Option.map_none, atI_0, atI_1, atI_2, mulOk_a, mulOk_b, cap, restE, wipeE, dMul, dAdd, ixN30, ixN31, ixN32, List.range_succ_eq_map, h, h2, dIx, hk, he]
theorem lb_4 (a0 a1 a2 a3 a4 a5 a6 a7 a8 a9 a10 a11 a12 a13 a14 a15 a16 a17 : PD.Loc) (F : PD.Env → Option (Res D)) (x y r : D) (E : PD.Env) (h : F [.dat x, .dat y] = some (.ok r E)) :
    (mAsg (mCall F (mArg (rd 2) (mArg (rd 3) (PD.ret [])))) (setD 6)) [a0, a1, .dat x, .dat y, a4, a5, a6, a7, a8, a9, a10, a11, a12, a13, a14, a15, a16, a17] = some (.nx [a0, a1, .dat x, .dat y, a4, a5, .dat r, a7, a8, a9, a10, a11, a12, a13, a14, a15, a16, a17]) := by
  simp [mSeq, mE, mIf, mRet, mAsg, mDrop, mAug, mPar, mPar3, mNext, mBreak, mCont, setD, setCons, setTup, setNil, mOp, mUn, mCb, mArg, mTest, mTru, mAnd, mOr, mNot, mIfE, mChain, mTupD, mLstD, mLstO, mSetO, mPart, mSl, mAndV, mOrV, mNotV, bnd, PD.ret, lft, rd, rdD, asB, asI, mIxO, ixOwn, ownAt, ownSet, mSetAtO, mSetAt, mMeth, mLenO, mTruO, mCall, mCallP, locsP, runF, okEnd, isPin, clean, cleanL, noPin, pin0, mTup, mLst, mCbO, mOpO, asL, asO, mLc, inB, mFor, mForE, mForR, mRaiseE, mRaise, mTold, Own.d, dInt, dInt2, dSub, dDiv, dMod, dLt, dLe, dGt, dGe, dNeg, dIpAdd, dLen, dIntOf, dAbs, dMax2, dTuple, dList, dIsN, elems, dFmt, dStrI, List.getElem?_cons_zero, List.getElem?_cons_succ, List.set_cons_zero, List.set_cons_succ, List.length_cons, List.length_nil, List.cons_append, List.nil_append, List.map_cons, List.map_nil, List.replicate_succ, List.replicate_zero, List.take_succ_cons, List.take_zero, if_true, if_false, ite_true, ite_false, Bool.and_true, Bool.true_and, Bool.false_eq_true, reduceIte, Option.map_some, Option.bind_some, Nat.reduceAdd, Nat.reduceSub, Nat.reduceLT, Nat.reduceLeDiff, decide_true, decide_false, Bool.not_true, Bool.not_false, Bool.or_true, Bool.or_false, Bool.false_or, Bool.true_or, eqD_int, eqD_str, dEq, dNe, Option.map_none, atI_0, atI_1, atI_2, mulOk_a, mulOk_b, cap, restE, wipeE, dMul, dAdd, ixN30, ixN31, ixN32, List.range_succ_eq_map, h]
theorem lb_5 (a0 a1 a2 a3 a4 a5 a6 a7 a8 a9 a10 a11 a12 a13 a14 a15 a16 a17 : PD.Loc) (F G : PD.Env → Option (Res D)) (x y p q : D) (E1 E2 E3 E4 : PD.Env) (h1 : F [.dat x, .dat p] = some (.ok y E1)) (h2 : G [.dat p] = some (.ok q E2)) (h3 : F [.dat y, .dat q] = some (.ok x E3)) (h4 : G [.dat q] = some (.ok p E4)) (e1 : eqD y y = some true) (e2 : eqD x x = some true) (e3 : eqD p p = some true) :
    (mIf (mOr (mTest (mOp dNe (mCall F (mArg (rd 2) (mArg (rd 6) (PD.ret [])))) (rd 3))) (mOr (mTest (mOp dNe (mCall F (mArg (rd 3) (mArg (mCall G (mArg (rd 6) (PD.ret []))) (PD.ret [])))) (rd 2))) (mTest (mOp dNe (mCall G (mArg (mCall G (mArg (rd 6) (PD.ret []))) (PD.ret []))) (rd 6))))) (mRet (PD.ret (.bl false))) mNext) [a0, a1, .dat x, .dat y, a4, a5, .dat p, a7, a8, a9, a10, a11, a12, a13, a14, a15, a16, a17] = some (.nx [a0, a1, .dat x, .dat y, a4, a5, .dat p, a7, a8, a9, a10, a11, a12, a13, a14, a15, a16, a17]) := by
  simp [mSeq, mE, mIf, mRet, mAsg, mDrop, mAug, mPar, mPar3, mNext, mBreak, mCont, setD, setCons, setTup, setNil, mOp, mUn, mCb, mArg, mTest, mTru, mAnd, mOr, mNot, mIfE, mChain, mTupD, mLstD, mLstO, mSetO, mPart, mSl, mAndV, mOrV, mNotV, bnd, PD.ret, lft, rd, rdD, asB, asI, mIxO, ixOwn, ownAt, ownSet, mSetAtO, mSetAt, mMeth, mLenO, mTruO, mCall, mCallP, locsP, runF, okEnd, isPin, clean, cleanL, noPin, pin0, mTup, mLst, mCbO, mOpO, asL, asO, mLc, inB, mFor, mForE, mForR, mRaiseE, mRaise, mTold, Own.d, dInt, dInt2, dSub, dDiv, dMod, dLt, dLe, dGt, dGe, dNeg, dIpAdd, dLen, dIntOf, dAbs, dMax2, dTuple, dList, dIsN, elems, dFmt, dStrI, List.getElem?_cons_zero, List.getElem?_cons_succ, List.set_cons_zero, List.set_cons_succ, List.length_cons, List.length_nil, List.cons_append, List.nil_append, List.map_cons, List.map_nil, List.replicate_succ, List.replicate_zero, List.take_succ_cons, List.take_zero, if_true, if_false, ite_true, ite_false, Bool.and_true, Bool.true_and, Bool.false_eq_true, reduceIte, Option.map_some, Option.bind_some, Nat.reduceAdd, Nat.reduceSub, Nat.reduceLT, Nat.reduceLeDiff, decide_true, decide_false, Bool.not_true, Bool.not_false, Bool.or_true, Bool.or_false, Bool.false_or, Bool.true_or, eqD_int, eqD_str, dEq, dNe, Option.map_none, atI_0, atI_1, atI_2, mulOk_a, mulOk_b, cap, restE, wipeE, dMul, dAdd, ixN30, ixN31, ixN32, List.range_succ_eq_map, h1, h2, h3, h4, e1, e2, e3]
theorem lb_10 (a0 a1 a2 a3 a4 a5 a6 a7 a8 a9 a10 a11 a12 a13 a14 a15 a16 a17 : PD.Loc) (F : PD.Env → Option (Res D)) (z p r : D) (c : Str) (o : Option D) (h1 : ∀ d, o = some d → ∃ E, F [.dat z, .dat p] = some (.ok d E)) (h2 : o = none → ∃ E, F [.dat z, .dat p] = some (.er "PatchError" E)) :
    (mAsg (mTold "PatchError" "PatchError" (mCall F (mArg (rd 4) (mArg (rd 6) (PD.ret []))))) (setD 14)) [a0, a1, a2, a3, .dat z, a5, .dat p, a7, a8, a9, a10, a11, a12, a13, a14, a15, a16, a17] = some (.nx [a0, a1, a2, a3, .dat z, a5, .dat p, a7, a8, a9, a10, a11, a12, a13, .dat (o.getD (.str "PatchError")), a15, a16, a17]) := by
  cases o with
  | some d => obtain ⟨E, h⟩ := h1 d rfl; simp [mSeq, mE, mIf, mRet, mAsg, mDrop, mAug, mPar, mPar3, mNext, mBreak, mCont, setD, setCons, setTup, setNil, mOp, mUn, mCb, mArg, mTest, mTru, mAnd, mOr, mNot, mIfE, mChain, mTupD, mLstD, mLstO, mSetO, mPart, mSl, mAndV, mOrV, mNotV, bnd, PD.ret, lft, rd, rdD, asB, asI, mIxO, ixOwn, ownAt, ownSet, mSetAtO, mSetAt, mMeth, mLenO, mTruO, mCall, mCallP, locsP, runF, okEnd, isPin, clean, cleanL, noPin, pin0, mTup, mLst, mCbO, mOpO, asL, asO, mLc, inB, mFor, mForE, mForR, mRaiseE, mRaise, mTold, Own.d, dInt, dInt2, dSub, dDiv, dMod, dLt, dLe, dGt, dGe, dNeg, dIpAdd, dLen, dIntOf, dAbs, dMax2, dTuple, dList, dIsN, elems, dFmt, dStrI, List.getElem?_cons_zero, List.getElem?_cons_succ, List.set_cons_zero, List.set_cons_succ, List.length_cons, List.length_nil, List.cons_append, List.nil_append, List.map_cons, List.map_nil, List.replicate_succ, List.replicate_zero, List.take_succ_cons, List.take_zero, if_true, if_false, ite_true, ite_false, Bool.and_true, Bool.true_and, Bool.false_eq_true, reduceIte, Option.map_some, Option.bind_some, Nat.reduceAdd, Nat.reduceSub, Nat.reduceLT, Nat.reduceLeDiff, decide_true, decide_false, Bool.not_true, Bool.not_false, Bool.or_true, Bool.or_false, Bool.false_or, Bool.true_or, eqD_int, eqD_str, dEq, dNe, Option.map_none, atI_0, atI_1, atI_2, mulOk_a, mulOk_b, cap, restE, wipeE, dMul, dAdd, ixN30, ixN31, ixN32, List.range_succ_eq_map, h]
  | none => obtain ⟨E, h⟩ := h2 rfl; simp [mSeq, mE, mIf, mRet, mAsg, mDrop, mAug, mPar, mPar3, mNext, mBreak, mCont, setD, setCons, setTup, setNil, mOp, mUn, mCb, mArg, mTest, mTru, mAnd, mOr, mNot, mIfE, mChain, mTupD, mLstD, mLstO, mSetO, mPart, mSl, mAndV, mOrV, mNotV, bnd, PD.ret, lft, rd, rdD, asB, asI, mIxO, ixOwn, ownAt, ownSet, mSetAtO, mSetAt, mMeth, mLenO, mTruO, mCall, mCallP, locsP, runF, okEnd, isPin, clean, cleanL, noPin, pin0, mTup, mLst, mCbO, mOpO, asL, asO, mLc, inB, mFor, mForE, mForR, mRaiseE, mRaise, mTold, Own.d, dInt, dInt2, dSub, dDiv, dMod, dLt, dLe, dGt, dGe, dNeg, dIpAdd, dLen, dIntOf, dAbs, dMax2, dTuple, dList, dIsN, elems, dFmt, dStrI, List.getElem?_cons_zero, List.getElem?_cons_succ, List.set_cons_zero, List.set_cons_succ, List.length_cons, List.length_nil, List.cons_append, List.nil_append, List.map_cons, List.map_nil, List.replicate_succ, List.replicate_zero, List.take_succ_cons, List.take_zero, if_true, if_false, ite_true, ite_false, Bool.and_true, Bool.true_and, Bool.false_eq_true, reduceIte, Option.map_some, Option.bind_some, Nat.reduceAdd, Nat.reduceSub, Nat.reduceLT, Nat.reduceLeDiff, decide_true, decide_false, Bool.not_true, Bool.not_false, Bool.or_true, Bool.or_false, Bool.false_or, Bool.true_or, eqD_int, eqD_str, dEq, dNe, Option.map_none, atI_0, atI_1, atI_2, mulOk_a, mulOk_b, cap, restE, wipeE, dMul, dAdd, ixN30, ixN31, ixN32, List.range_succ_eq_map, h]
theorem lb_11 (a0 a1 a2 a3 a4 a5 a6 a7 a8 a9 a10 a11 a12 a13 a14 a15 a16 a17 : PD.Loc) (F : PD.Env → Option (Res D)) (x y r : D) (E : PD.Env) (h : F [.dat x, .dat y] = some (.ok r E)) :
    (mAsg (mCall F (mArg (rd 4) (mArg (rd 6) (PD.ret [])))) (setD 15)) [a0, a1, a2, a3, .dat x, a5, .dat y, a7, a8, a9, a10, a11, a12, a13, a14, a15, a16, a17] = some (.nx [a0, a1, a2, a3, .dat x, a5, .dat y, a7, a8, a9, a10, a11, a12, a13, a14, .dat r, a16, a17]) := by
  simp [mSeq, mE, mIf, mRet, mAsg, mDrop, mAug, mPar, mPar3, mNext, mBreak, mCont, setD, setCons, setTup, setNil, mOp, mUn, mCb, mArg, mTest, mTru, mAnd, mOr, mNot, mIfE, mChain, mTupD, mLstD, mLstO, mSetO, mPart, mSl, mAndV, mOrV, mNotV, bnd, PD.ret, lft, rd, rdD, asB, asI, mIxO, ixOwn, ownAt, ownSet, mSetAtO, mSetAt, mMeth, mLenO, mTruO, mCall, mCallP, locsP, runF, okEnd, isPin, clean, cleanL, noPin, pin0, mTup, mLst, mCbO, mOpO, asL, asO, mLc, inB, mFor, mForE, mForR, mRaiseE, mRaise, mTold, Own.d, dInt, dInt2, dSub, dDiv, dMod, dLt, dLe, dGt, dGe, dNeg, dIpAdd, dLen, dIntOf, dAbs, dMax2, dTuple, dList, dIsN, elems, dFmt, dStrI, List.getElem?_cons_zero, List.getElem?_cons_succ, List.set_cons_zero, List.set_cons_succ, List.length_cons, List.length_nil, List.cons_append, List.nil_append, List.map_cons, List.map_nil, List.replicate_succ, List.replicate_zero, List.take_succ_cons, List.take_zero, if_true, if_false, ite_true, ite_false, Bool.and_true, Bool.true_and, Bool.false_eq_true, reduceIte, Option.map_some, Option.bind_some, Nat.reduceAdd, Nat.reduceSub, Nat.reduceLT, Nat.reduceLeDiff, decide_true, decide_false, Bool.not_true, Bool.not_false, Bool.or_true, Bool.or_false, Bool.false_or, Bool.true_or, eqD_int, eqD_str, dEq, dNe, Option.map_none, atI_0, atI_1, atI_2, mulOk_a, mulOk_b, cap, restE, wipeE, dMul, dAdd, ixN30, ixN31, ixN32, List.range_succ_eq_map, h]
theorem lb_13 (a0 a1 a2 a3 a4 a5 a6 a7 a8 a9 a10 a11 a12 a13 a14 a15 a16 a17 : PD.Loc) (F : PD.Env → Option (Res D)) (y r : D) (E : PD.Env) (h : F [.dat y] = some (.ok r E)) :
    (mAsg (mCall F (mArg (rd 6) (PD.ret []))) (setD 16)) [a0, a1, a2, a3, a4, a5, .dat y, a7, a8, a9, a10, a11, a12, a13, a14, a15, a16, a17] = some (.nx [a0, a1, a2, a3, a4, a5, .dat y, a7, a8, a9, a10, a11, a12, a13, a14, a15, .dat r, a17]) := by
  simp [mSeq, mE, mIf, mRet, mAsg, mDrop, mAug, mPar, mPar3, mNext, mBreak, mCont, setD, setCons, setTup, setNil, mOp, mUn, mCb, mArg, mTest, mTru, mAnd, mOr, mNot, mIfE, mChain, mTupD, mLstD, mLstO, mSetO, mPart, mSl, mAndV, mOrV, mNotV, bnd, PD.ret, lft, rd, rdD, asB, asI, mIxO, ixOwn, ownAt, ownSet, mSetAtO, mSetAt, mMeth, mLenO, mTruO, mCall, mCallP, locsP, runF, okEnd, isPin, clean, cleanL, noPin, pin0, mTup, mLst, mCbO, mOpO, asL, asO, mLc, inB, mFor, mForE, mForR, mRaiseE, mRaise, mTold, Own.d, dInt, dInt2, dSub, dDiv, dMod, dLt, dLe, dGt, dGe, dNeg, dIpAdd, dLen, dIntOf, dAbs, dMax2, dTuple, dList, dIsN, elems, dFmt, dStrI, List.getElem?_cons_zero, List.getElem?_cons_succ, List.set_cons_zero, List.set_cons_succ, List.length_cons, List.length_nil, List.cons_append, List.nil_append, List.map_cons, List.map_nil, List.replicate_succ, List.replicate_zero, List.take_succ_cons, List.take_zero, if_true, if_false, ite_true, ite_false, Bool.and_true, Bool.true_and, Bool.false_eq_true, reduceIte, Option.map_some, Option.bind_some, Nat.reduceAdd, Nat.reduceSub, Nat.reduceLT, Nat.reduceLeDiff, decide_true, decide_false, Bool.not_true, Bool.not_false, Bool.or_true, Bool.or_false, Bool.false_or, Bool.true_or, eqD_int, eqD_str, dEq, dNe, Option.map_none, atI_0, atI_1, atI_2, mulOk_a, mulOk_b, cap, restE, wipeE, dMul, dAdd, ixN30, ixN31, ixN32, List.range_succ_eq_map, h]
theorem lb_14 (a0 a1 a2 a3 a4 a5 a6 a7 a8 a9 a10 a11 a12 a13 a14 a15 a16 a17 : PD.Loc) (F G : PD.Env → Option (Res D)) (p t : D) (E1 E2 : PD.Env) (h1 : F [.dat t] = some (.ok p E1)) (h2 : G [.dat p] = some (.ok t E2)) (e1 : eqD p p = some true) (e2 : eqD t t = some true) :
    (mIf (mOr (mTest (mOp dNe (mCall F (mArg (rd 16) (PD.ret []))) (rd 6))) (mTest (mOp dNe (rd 16) (mCall G (mArg (rd 6) (PD.ret [])))))) (mRet (PD.ret (.bl false))) mNext) [a0, a1, a2, a3, a4, a5, .dat p, a7, a8, a9, a10, a11, a12, a13, a14, a15, .dat t, a17] = some (.nx [a0, a1, a2, a3, a4, a5, .dat p, a7, a8, a9, a10, a11, a12, a13, a14, a15, .dat t, a17]) := by
  simp [mSeq, mE, mIf, mRet, mAsg, mDrop, mAug, mPar, mPar3, mNext, mBreak, mCont, setD, setCons, setTup, setNil, mOp, mUn, mCb, mArg, mTest, mTru, mAnd, mOr, mNot, mIfE, mChain, mTupD, mLstD, mLstO, mSetO, mPart, mSl, mAndV, mOrV, mNotV, bnd, PD.ret, lft, rd, rdD, asB, asI, mIxO, ixOwn, ownAt, ownSet, mSetAtO, mSetAt, mMeth, mLenO, mTruO, mCall, mCallP, locsP, runF, okEnd, isPin, clean, cleanL, noPin, pin0, mTup, mLst, mCbO, mOpO, asL, asO, mLc, inB, mFor, mForE, mForR, mRaiseE, mRaise, mTold, Own.d, dInt, dInt2, dSub, dDiv, dMod, dLt, dLe, dGt, dGe, dNeg, dIpAdd, dLen, dIntOf, dAbs, dMax2, dTuple, dList, dIsN, elems, dFmt, dStrI, List.getElem?_cons_zero, List.getElem?_cons_succ, List.set_cons_zero, List.set_cons_succ, List.length_cons, List.length_nil, List.cons_append, List.nil_append, List.map_cons, List.map_nil, List.replicate_succ, List.replicate_zero, List.take_succ_cons, List.take_zero, if_true, if_false, ite_true, ite_false, Bool.and_true, Bool.true_and, Bool.false_eq_true, reduceIte, Option.map_some, Option.bind_some, Nat.reduceAdd, Nat.reduceSub, Nat.reduceLT, Nat.reduceLeDiff, decide_true, decide_false, Bool.not_true, Bool.not_false, Bool.or_true, Bool.or_false, Bool.false_or, Bool.true_or, eqD_int, eqD_str, dEq, dNe, Option.map_none, atI_0, atI_1, atI_2, mulOk_a, mulOk_b, cap, restE, wipeE, dMul, dAdd, ixN30, ixN31, ixN32, List.range_succ_eq_map, h1, h2, e1, e2]
theorem lb_7 (a0 a1 a2 a3 a4 a5 a6 a7 a8 a9 a10 a11 a12 a13 a14 a15 a16 a17 : PD.Loc) (F : PD.Env → Option (Res D)) (x y : List D) (l : List D) (p : D) (k : Int) (E : PD.Env) (h : F [.dat p] = some (.ok (.tup [.int ((y.length : Int) - l.length), .int ((x.length : Int) - l.length)]) E)) (hk : k = (l.length : Int)) (e : ∀ i j : Int, eqD (.tup [.int i, .int j]) (.tup [.int i, .int j]) = some true) :
    (mIf (mOr (mTest (mOp dNe (mCall F (mArg (rd 6) (PD.ret []))) (mTupD (mArg (mOp dSub (mCb dLen (mArg (rd 3) (PD.ret []))) (mCb dLen (mArg (rd 5) (PD.ret [])))) (mArg (mOp dSub (mCb dLen (mArg (rd 2) (PD.ret []))) (mCb dLen (mArg (rd 5) (PD.ret [])))) (PD.ret [])))))) (mTest (mOp dNe (rd 7) (mCb dLen (mArg (rd 5) (PD.ret [])))))) (mRet (PD.ret (.bl false))) mNext) [a0, a1, .dat (.tup x), .dat (.tup y), a4, .dat (.lst l), .dat p, .dat (.int k), a8, a9, a10, a11, a12, a13, a14, a15, a16, a17] = some (.nx [a0, a1, .dat (.tup x), .dat (.tup y), a4, .dat (.lst l), .dat p, .dat (.int k), a8, a9, a10, a11, a12, a13, a14, a15, a16, a17]) := by
  simp [mSeq, mE, mIf, mRet, mAsg, mDrop, mAug, mPar, mPar3, mNext, mBreak, mCont, setD, setCons, setTup, setNil, mOp, mUn, mCb, mArg, mTest, mTru, mAnd, mOr, mNot, mIfE, mChain, mTupD, mLstD, mLstO, mSetO, mPart, mSl, mAndV, mOrV, mNotV, bnd, PD.ret, lft, rd, rdD, asB, asI, mIxO, ixOwn, ownAt, ownSet, mSetAtO, mSetAt, mMeth, mLenO, mTruO, mCall, mCallP, locsP, runF, okEnd, isPin, clean, cleanL, noPin, pin0, mTup, mLst, mCbO, mOpO, asL, asO, mLc, inB, mFor, mForE, mForR, mRaiseE, mRaise, mTold, Own.d, dInt, dInt2, dSub, dDiv, dMod, dLt, dLe, dGt, dGe, dNeg, dIpAdd, dLen, dIntOf, dAbs, dMax2, dTuple, dList, dIsN, elems, dFmt, dStrI, List.getElem?_cons_zero, List.getElem?_cons_succ, List.set_cons_zero, List.set_cons_succ, List.length_cons, List.length_nil, List.cons_append, List.nil_append, List.map_cons, List.map_nil, List.replicate_succ, List.replicate_zero, List.take_succ_cons, List.take_zero, if_true, if_false, ite_true, ite_false, Bool.and_true, Bool.true_and, Bool.false_eq_true, reduceIte, Option.map_some, Option.bind_some, Nat.reduceAdd, Nat.reduceSub, Nat.reduceLT, Nat.reduceLeDiff, decide_true, decide_false, Bool.not_true, Bool.not_false, Bool.or_true, Bool.or_false, Bool.false_or, Bool.true_or, eqD_int, eqD_str, dEq, dNe, Option.map_none, atI_0, atI_1, atI_2, mulOk_a, mulOk_b, cap, restE, wipeE, dMul, dAdd, ixN30, ixN31, ixN32, List.range_succ_eq_map, h, hk, e]
end K02
end
section
set_option maxHeartbeats 0
namespace K02
open PySem L2 PD

theorem lb_6 (a0 a1 a2 a3 a4 a5 a6 a7 a8 a9 a10 a11 a12 a13 a14 a15 a16 a17 : PD.Loc) (ds zs : List D) (k : Int) (hc : compL (setTup 2 (setCons (setD 8) (setCons (setD 9) setNil))) m_law_c1 m_law_e1 [8, 9] ds [] [a0, a1, a2, a3, a4, a5, .dat (.tup ds), a7, .non, .non, a10, a11, a12, a13, a14, a15, a16, a17] = some (zs, [a0, a1, a2, a3, a4, a5, .dat (.tup ds), a7, .non, .non, a10, a11, a12, a13, a14, a15, a16, a17])) (hs : dSum [.lst zs] = some (.int k)) :
    (mAsg (mCb dSum (mArg (asL (mLc (rd 6) elems [8, 9] (setTup 2 (setCons (setD 8) (setCons (setD 9) setNil))) m_law_c1 m_law_e1)) (PD.ret []))) (setD 7)) [a0, a1, a2, a3, a4, a5, .dat (.tup ds), a7, .non, .non, a10, a11, a12, a13, a14, a15, a16, a17] = some (.nx [a0, a1, a2, a3, a4, a5, .dat (.tup ds), .dat (.int k), .non, .non, a10, a11, a12, a13, a14, a15, a16, a17]) := by
  simp [mSeq, mE, mIf, mRet, mAsg, mDrop, mAug, mPar, mPar3, mNext, mBreak, mCont, setD, setCons, setTup, setNil, mOp, mUn, mCb, mArg, mTest, mTru, mAnd, mOr, mNot, mIfE, mChain, mTupD, mLstD, mLstO, mSetO, mPart, mSl, mAndV, mOrV, mNotV, bnd, PD.ret, lft, rd, rdD, asB, asI, mIxO, ixOwn, ownAt, ownSet, mSetAtO, mSetAt, mMeth, mLenO, mTruO, mCall, mCallP, locsP, runF, okEnd, isPin, clean, cleanL, noPin, pin0, mTup, mLst, mCbO, mOpO, asL, asO, mLc, inB, mFor, mForE, mForR, mRaiseE, mRaise, mTold, Own.d, dInt, dInt2, dSub, dDiv, dMod, dLt, dLe, dGt, dGe, dNeg, dIpAdd, dLen, dIntOf, dAbs, dMax2, dTuple, dList, dIsN, elems, dFmt, dStrI, List.getElem?_cons_zero, List.getElem?_cons_succ, List.set_cons_zero, List.set_cons_succ, List.length_cons, List.length_nil, List.cons_append, List.nil_append, List.map_cons, List.map_nil, List.replicate_succ, List.replicate_zero, List.take_succ_cons, List.take_zero, if_true, if_false, ite_true, ite_false, Bool.and_true, Bool.true_and, Bool.false_eq_true, reduceIte, Option.map_some, Option.bind_some, Nat.reduceAdd, Nat.reduceSub, Nat.reduceLT, Nat.reduceLeDiff, decide_true, decide_false, Bool.not_true, Bool.not_false, Bool.or_true, Bool.or_false, Bool.false_or, Bool.true_or, eqD_int, eqD_str, dEq, dNe, Option.map_none, atI_0, atI_1, atI_2, mulOk_a, mulOk_b, cap, restE, wipeE, dMul, dAdd, ixN30, ixN31, ixN32, List.range_succ_eq_map, hc, hs]
theorem lb_8 (a0 a1 a2 a3 a4 a5 a6 a7 a8 a9 a10 a11 a12 a13 a14 a15 a16 a17 : PD.Loc) (ds es : List D) (h1 : dSl (.tup ds) (some 1) none = some (.tup es)) (hc : compL (setTup 2 (setCons (setD 10) (setCons (setD 11) setNil))) m_law_c2 m_law_e2 [10, 11] (List.zipWith (fun a b => .tup [a, b]) ds es) [] [a0, a1, a2, a3, a4, a5, .dat (.tup ds), a7, a8, a9, .non, .non, a12, a13, a14, a15, a16, a17] = some ([], [a0, a1, a2, a3, a4, a5, .dat (.tup ds), a7, a8, a9, .non, .non, a12, a13, a14, a15, a16, a17])) :
    (mIf (mTest (mOp dNe (asL (mLc (mArg (rd 6) (mArg (mSl (rd 6) (mPart (PD.ret (.int 1))) (PD.ret none)) (PD.ret []))) zipDA [10, 11] (setTup 2 (setCons (setD 10) (setCons (setD 11) setNil))) m_law_c2 m_law_e2)) (mLstD (PD.ret [])))) (mRet (PD.ret (.bl false))) mNext) [a0, a1, a2, a3, a4, a5, .dat (.tup ds), a7, a8, a9, .non, .non, a12, a13, a14, a15, a16, a17] = some (.nx [a0, a1, a2, a3, a4, a5, .dat (.tup ds), a7, a8, a9, .non, .non, a12, a13, a14, a15, a16, a17]) := by
  simp [mSeq, mE, mIf, mRet, mAsg, mDrop, mAug, mPar, mPar3, mNext, mBreak, mCont, setD, setCons, setTup, setNil, mOp, mUn, mCb, mArg, mTest, mTru, mAnd, mOr, mNot, mIfE, mChain, mTupD, mLstD, mLstO, mSetO, mPart, mSl, mAndV, mOrV, mNotV, bnd, PD.ret, lft, rd, rdD, asB, asI, mIxO, ixOwn, ownAt, ownSet, mSetAtO, mSetAt, mMeth, mLenO, mTruO, mCall, mCallP, locsP, runF, okEnd, isPin, clean, cleanL, noPin, pin0, mTup, mLst, mCbO, mOpO, asL, asO, mLc, inB, mFor, mForE, mForR, mRaiseE, mRaise, mTold, Own.d, dInt, dInt2, dSub, dDiv, dMod, dLt, dLe, dGt, dGe, dNeg, dIpAdd, dLen, dIntOf, dAbs, dMax2, dTuple, dList, dIsN, elems, dFmt, dStrI, List.getElem?_cons_zero, List.getElem?_cons_succ, List.set_cons_zero, List.set_cons_succ, List.length_cons, List.length_nil, List.cons_append, List.nil_append, List.map_cons, List.map_nil, List.replicate_succ, List.replicate_zero, List.take_succ_cons, List.take_zero, if_true, if_false, ite_true, ite_false, Bool.and_true, Bool.true_and, Bool.false_eq_true, reduceIte, Option.map_some, Option.bind_some, Nat.reduceAdd, Nat.reduceSub, Nat.reduceLT, Nat.reduceLeDiff, decide_true, decide_false, Bool.not_true, Bool.not_false, Bool.or_true, Bool.or_false, Bool.false_or, Bool.true_or, eqD_int, eqD_str, dEq, dNe, Option.map_none, atI_0, atI_1, atI_2, mulOk_a, mulOk_b, cap, restE, wipeE, dMul, dAdd, ixN30, ixN31, ixN32, List.range_succ_eq_map, h1, zipDA, hc, eqD_l0]
theorem lb_9 (a0 a1 a2 a3 a4 a5 a6 a7 a8 a9 a10 a11 a12 a13 a14 a15 a16 a17 : PD.Loc) (ds zs : List D) (hc : compL (setD 13) m_law_c3 m_law_e3 [13] ds [] [a0, a1, a2, a3, a4, a5, .dat (.tup ds), a7, a8, a9, a10, a11, a12, .non, a14, a15, a16, a17] = some (zs, [a0, a1, a2, a3, a4, a5, .dat (.tup ds), a7, a8, a9, a10, a11, a12, .non, a14, a15, a16, a17])) :
    (mAsg (asL (mLc (rd 6) elems [13] (setD 13) m_law_c3 m_law_e3)) (setD 12)) [a0, a1, a2, a3, a4, a5, .dat (.tup ds), a7, a8, a9, a10, a11, a12, .non, a14, a15, a16, a17] = some (.nx [a0, a1, a2, a3, a4, a5, .dat (.tup ds), a7, a8, a9, a10, a11, .dat (.lst zs), .non, a14, a15, a16, a17]) := by
  simp [mSeq, mE, mIf, mRet, mAsg, mDrop, mAug, mPar, mPar3, mNext, mBreak, mCont, setD, setCons, setTup, setNil, mOp, mUn, mCb, mArg, mTest, mTru, mAnd, mOr, mNot, mIfE, mChain, mTupD, mLstD, mLstO, mSetO, mPart, mSl, mAndV, mOrV, mNotV, bnd, PD.ret, lft, rd, rdD, asB, asI, mIxO, ixOwn, ownAt, ownSet, mSetAtO, mSetAt, mMeth, mLenO, mTruO, mCall, mCallP, locsP, runF, okEnd, isPin, clean, cleanL, noPin, pin0, mTup, mLst, mCbO, mOpO, asL, asO, mLc, inB, mFor, mForE, mForR, mRaiseE, mRaise, mTold, Own.d, dInt, dInt2, dSub, dDiv, dMod, dLt, dLe, dGt, dGe, dNeg, dIpAdd, dLen, dIntOf, dAbs, dMax2, dTuple, dList, dIsN, elems, dFmt, dStrI, List.getElem?_cons_zero, List.getElem?_cons_succ, List.set_cons_zero, List.set_cons_succ, List.length_cons, List.length_nil, List.cons_append, List.nil_append, List.map_cons, List.map_nil, List.replicate_succ, List.replicate_zero, List.take_succ_cons, List.take_zero, if_true, if_false, ite_true, ite_false, Bool.and_true, Bool.true_and, Bool.false_eq_true, reduceIte, Option.map_some, Option.bind_some, Nat.reduceAdd, Nat.reduceSub, Nat.reduceLT, Nat.reduceLeDiff, decide_true, decide_false, Bool.not_true, Bool.not_false, Bool.or_true, Bool.or_false, Bool.false_or, Bool.true_or, eqD_int, eqD_str, dEq, dNe, Option.map_none, atI_0, atI_1, atI_2, mulOk_a, mulOk_b, cap, restE, wipeE, dMul, dAdd, ixN30, ixN31, ixN32, List.range_succ_eq_map, hc]
theorem lb_12 (a0 a1 a2 a3 a4 a5 a6 a7 a8 a9 a10 a11 a12 a13 a14 a15 a16 a17 : PD.Loc) (ds zs : List D) (o : Option D) (hl : zs.length ≤ ds.length) (h1 : ∀ d, o = some d → dIsN d = some (.bl false) ∧ eqD d d = some true) :
    (mIf (mOr (mTest (mOp dNe (rd 14) (mIfE (mTest (mUn dIsN (rd 15))) (PD.ret (.str "PatchError")) (rd 15)))) (mTest (mOp dGt (mCb dLen (mArg (rd 12) (PD.ret []))) (mCb dLen (mArg (rd 6) (PD.ret [])))))) (mRet (PD.ret (.bl false))) mNext) [a0, a1, a2, a3, a4, a5, .dat (.tup ds), a7, a8, a9, a10, a11, .dat (.lst zs), a13, .dat (o.getD (.str "PatchError")), .dat (o.getD .non), a16, a17] = some (.nx [a0, a1, a2, a3, a4, a5, .dat (.tup ds), a7, a8, a9, a10, a11, .dat (.lst zs), a13, .dat (o.getD (.str "PatchError")), .dat (o.getD .non), a16, a17]) := by
  have hl2 : ¬ ((ds.length : Int) < (zs.length : Int)) := by omega
  cases o with
  | some d =>
    obtain ⟨k1, k2⟩ := h1 d rfl
    have hn : ∀ m : MM D, mIfE (mTest (mUn dIsN (rd 15))) m (rd 15) [a0, a1, a2, a3, a4, a5, .dat (.tup ds), a7, a8, a9, a10, a11, .dat (.lst zs), a13, .dat d, .dat d, a16, a17] = some (.ok d [a0, a1, a2, a3, a4, a5, .dat (.tup ds), a7, a8, a9, a10, a11, .dat (.lst zs), a13, .dat d, .dat d, a16, a17]) := fun m => by
      unfold mIfE mTest mUn
      simp only [bnd, rd, lft, List.getElem?_cons_succ, List.getElem?_cons_zero, k1, asB, Bool.false_eq_true, if_false]
    have hc : mOp dNe (rd 14) (mIfE (mTest (mUn dIsN (rd 15))) (PD.ret (.str "PatchError")) (rd 15)) [a0, a1, a2, a3, a4, a5, .dat (.tup ds), a7, a8, a9, a10, a11, .dat (.lst zs), a13, .dat d, .dat d, a16, a17] = some (.ok (.bl false) [a0, a1, a2, a3, a4, a5, .dat (.tup ds), a7, a8, a9, a10, a11, .dat (.lst zs), a13, .dat d, .dat d, a16, a17]) := mOp_ok rfl (hn _) (by unfold dNe; rw [k2]; rfl)
    have ht : mOr (mTest (mOp dNe (rd 14) (mIfE (mTest (mUn dIsN (rd 15))) (PD.ret (.str "PatchError")) (rd 15)))) (mTest (mOp dGt (mCb dLen (mArg (rd 12) (PD.ret []))) (mCb dLen (mArg (rd 6) (PD.ret []))))) [a0, a1, a2, a3, a4, a5, .dat (.tup ds), a7, a8, a9, a10, a11, .dat (.lst zs), a13, .dat d, .dat d, a16, a17] = some (.ok false [a0, a1, a2, a3, a4, a5, .dat (.tup ds), a7, a8, a9, a10, a11, .dat (.lst zs), a13, .dat d, .dat d, a16, a17]) := by
      have t1 : mTest (mOp dNe (rd 14) (mIfE (mTest (mUn dIsN (rd 15))) (PD.ret (.str "PatchError")) (rd 15))) [a0, a1, a2, a3, a4, a5, .dat (.tup ds), a7, a8, a9, a10, a11, .dat (.lst zs), a13, .dat d, .dat d, a16, a17] = some (.ok false [a0, a1, a2, a3, a4, a5, .dat (.tup ds), a7, a8, a9, a10, a11, .dat (.lst zs), a13, .dat d, .dat d, a16, a17]) := (bnd_ok hc).trans rfl
      unfold mOr
      rw [bnd_ok t1]
      simp [mSeq, mE, mIf, mRet, mAsg, mDrop, mAug, mPar, mPar3, mNext, mBreak, mCont, setD, setCons, setTup, setNil, mOp, mUn, mCb, mArg, mTest, mTru, mAnd, mOr, mNot, mIfE, mChain, mTupD, mLstD, mLstO, mSetO, mPart, mSl, mAndV, mOrV, mNotV, bnd, PD.ret, lft, rd, rdD, asB, asI, mIxO, ixOwn, ownAt, ownSet, mSetAtO, mSetAt, mMeth, mLenO, mTruO, mCall, mCallP, locsP, runF, okEnd, isPin, clean, cleanL, noPin, pin0, mTup, mLst, mCbO, mOpO, asL, asO, mLc, inB, mFor, mForE, mForR, mRaiseE, mRaise, mTold, Own.d, dInt, dInt2, dSub, dDiv, dMod, dLt, dLe, dGt, dGe, dNeg, dIpAdd, dLen, dIntOf, dAbs, dMax2, dTuple, dList, dIsN, elems, dFmt, dStrI, List.getElem?_cons_zero, List.getElem?_cons_succ, List.set_cons_zero, List.set_cons_succ, List.length_cons, List.length_nil, List.cons_append, List.nil_append, List.map_cons, List.map_nil, List.replicate_succ, List.replicate_zero, List.take_succ_cons, List.take_zero, if_true, if_false, ite_true, ite_false, Bool.and_true, Bool.true_and, Bool.false_eq_true, reduceIte, Option.map_some, Option.bind_some, Nat.reduceAdd, Nat.reduceSub, Nat.reduceLT, Nat.reduceLeDiff, decide_true, decide_false, Bool.not_true, Bool.not_false, Bool.or_true, Bool.or_false, Bool.false_or, Bool.true_or, eqD_int, eqD_str, dEq, dNe, Option.map_none, atI_0, atI_1, atI_2, mulOk_a, mulOk_b, cap, restE, wipeE, dMul, dAdd, ixN30, ixN31, ixN32, List.range_succ_eq_map, hl2]
    exact (mIf_f ht).trans rfl
  | none => simp [mSeq, mE, mIf, mRet, mAsg, mDrop, mAug, mPar, mPar3, mNext, mBreak, mCont, setD, setCons, setTup, setNil, mOp, mUn, mCb, mArg, mTest, mTru, mAnd, mOr, mNot, mIfE, mChain, mTupD, mLstD, mLstO, mSetO, mPart, mSl, mAndV, mOrV, mNotV, bnd, PD.ret, lft, rd, rdD, asB, asI, mIxO, ixOwn, ownAt, ownSet, mSetAtO, mSetAt, mMeth, mLenO, mTruO, mCall, mCallP, locsP, runF, okEnd, isPin, clean, cleanL, noPin, pin0, mTup, mLst, mCbO, mOpO, asL, asO, mLc, inB, mFor, mForE, mForR, mRaiseE, mRaise, mTold, Own.d, dInt, dInt2, dSub, dDiv, dMod, dLt, dLe, dGt, dGe, dNeg, dIpAdd, dLen, dIntOf, dAbs, dMax2, dTuple, dList, dIsN, elems, dFmt, dStrI, List.getElem?_cons_zero, List.getElem?_cons_succ, List.set_cons_zero, List.set_cons_succ, List.length_cons, List.length_nil, List.cons_append, List.nil_append, List.map_cons, List.map_nil, List.replicate_succ, List.replicate_zero, List.take_succ_cons, List.take_zero, if_true, if_false, ite_true, ite_false, Bool.and_true, Bool.true_and, Bool.false_eq_true, reduceIte, Option.map_some, Option.bind_some, Nat.reduceAdd, Nat.reduceSub, Nat.reduceLT, Nat.reduceLeDiff, decide_true, decide_false, Bool.not_true, Bool.not_false, Bool.or_true, Bool.or_false, Bool.false_or, Bool.true_or, eqD_int, eqD_str, dEq, dNe, Option.map_none, atI_0, atI_1, atI_2, mulOk_a, mulOk_b, cap, restE, wipeE, dMul, dAdd, ixN30, ixN31, ixN32, List.range_succ_eq_map, hl2]
theorem lb_15 (a0 a1 a2 a3 a4 a5 a6 a7 a8 a9 a10 a11 a12 a13 a14 a15 a16 a17 : PD.Loc) (F : PD.Env → Option (Res D)) (o1 o2 : Own) (r : Int) (E : PD.Env) (h : F [.pin o1, .dat (.int 10)] = some (.ok (.int r) (.pin o2 :: E))) (h0 : 0 ≤ r) (h1 : r < 10) : ∃ b ∈ bads, (mAsg (mOp dIx (mLstD (mArg (mLstD (mArg (PD.ret (.str "= 0")) (PD.ret []))) (mArg (mLstD (mArg (PD.ret (.str "= x")) (PD.ret []))) (mArg (mLstD (mArg (PD.ret (.str "= ")) (PD.ret []))) (mArg (mLstD (mArg (PD.ret (.str "* a")) (PD.ret []))) (mArg (mLstD (mArg (PD.ret (.str "")) (PD.ret []))) (mArg (mLstD (mArg (PD.ret (.str "+ a")) (mArg (PD.ret (.str "- b")) (PD.ret [])))) (mArg (mLstD (mArg (PD.ret (.str "= 1")) (mArg (PD.ret (.str "= 2")) (PD.ret [])))) (mArg (mLstD (mArg (PD.ret (.str "= 01")) (PD.ret []))) (mArg (mLstD (mArg (PD.ret (.str "=1")) (PD.ret []))) (mArg (mLstD (mArg (PD.ret (.str "= 1234567")) (PD.ret []))) (PD.ret [])))))))))))) (mCallP F 1 (mArg (PD.ret (.int 10)) (PD.ret [])))) (setD 17)) [a0, .own o1, a2, a3, a4, a5, a6, a7, a8, a9, a10, a11, a12, a13, a14, a15, a16, a17] = some (.nx [a0, .own o2, a2, a3, a4, a5, a6, a7, a8, a9, a10, a11, a12, a13, a14, a15, a16, .dat (.lst (b.map .str))]) := by
  have : r = 0 ∨ r = 1 ∨ r = 2 ∨ r = 3 ∨ r = 4 ∨ r = 5 ∨ r = 6 ∨ r = 7 ∨ r = 8 ∨ r = 9 := by omega
  rcases this with rfl | rfl | rfl | rfl | rfl | rfl | rfl | rfl | rfl | rfl
  · exact ⟨_, List.mem_of_getElem (i := 0) (h := by decide) rfl, by simp [mSeq, mE, mIf, mRet, mAsg, mDrop, mAug, mPar, mPar3, mNext, mBreak, mCont, setD, setCons, setTup, setNil, mOp, mUn, mCb, mArg, mTest, mTru, mAnd, mOr, mNot, mIfE, mChain, mTupD, mLstD, mLstO, mSetO, mPart, mSl, mAndV, mOrV, mNotV, bnd, PD.ret, lft, rd, rdD, asB, asI, mIxO, ixOwn, ownAt, ownSet, mSetAtO, mSetAt, mMeth, mLenO, mTruO, mCall, mCallP, locsP, runF, okEnd, isPin, clean, cleanL, noPin, pin0, mTup, mLst, mCbO, mOpO, asL, asO, mLc, inB, mFor, mForE, mForR, mRaiseE, mRaise, mTold, Own.d, dInt, dInt2, dSub, dDiv, dMod, dLt, dLe, dGt, dGe, dNeg, dIpAdd, dLen, dIntOf, dAbs, dMax2, dTuple, dList, dIsN, elems, dFmt, dStrI, List.getElem?_cons_zero, List.getElem?_cons_succ, List.set_cons_zero, List.set_cons_succ, List.length_cons, List.length_nil, List.cons_append, List.nil_append, List.map_cons, List.map_nil, List.replicate_succ, List.replicate_zero, List.take_succ_cons, List.take_zero, if_true, if_false, ite_true, ite_false, Bool.and_true, Bool.true_and, Bool.false_eq_true, reduceIte, Option.map_some, Option.bind_some, Nat.reduceAdd, Nat.reduceSub, Nat.reduceLT, Nat.reduceLeDiff, decide_true, decide_false, Bool.not_true, Bool.not_false, Bool.or_true, Bool.or_false, Bool.false_or, Bool.true_or, eqD_int, eqD_str, dEq, dNe, Option.map_none, atI_0, atI_1, atI_2, mulOk_a, mulOk_b, cap, restE, wipeE, dMul, dAdd, ixN30, ixN31, ixN32, List.range_succ_eq_map, h, dIx, atI, ixN, bads]⟩
  · exact ⟨_, List.mem_of_getElem (i := 1) (h := by decide) rfl, by simp [mSeq, mE, mIf, mRet, mAsg, mDrop, mAug, mPar, mPar3, mNext, mBreak, mCont, setD, setCons, setTup, setNil, mOp, mUn, mCb, mArg, mTest, mTru, mAnd, mOr, mNot, mIfE, mChain, mTupD, mLstD, mLstO, mSetO, mPart, mSl, mAndV, mOrV, mNotV, bnd, PD.ret, lft, rd, rdD, asB, asI, mIxO, ixOwn, ownAt, ownSet, mSetAtO, mSetAt, mMeth, mLenO, mTruO, mCall, mCallP, locsP, runF, okEnd, isPin, clean, cleanL, noPin, pin0, mTup, mLst, mCbO, mOpO, asL, asO, mLc, inB, mFor, mForE, mForR, mRaiseE, mRaise, mTold, Own.d, dInt, dInt2, dSub, dDiv, dMod, dLt, dLe, dGt, dGe, dNeg, dIpAdd, dLen, dIntOf, dAbs, dMax2, dTuple, dList, dIsN, elems, dFmt, dStrI, List.getElem?_cons_zero, List.getElem?_cons_succ, List.set_cons_zero, List.set_cons_succ, List.length_cons, List.length_nil, List.cons_append, List.nil_append, List.map_cons, List.map_nil, List.replicate_succ, List.replicate_zero, List.take_succ_cons, List.take_zero, if_true, if_false, ite_true, ite_false, Bool.and_true, Bool.true_and, Bool.false_eq_true, reduceIte, Option.map_some, Option.bind_some, Nat.reduceAdd, Nat.reduceSub, Nat.reduceLT, Nat.reduceLeDiff, decide_true, decide_false, Bool.not_true, Bool.not_false, Bool.or_true, Bool.or_false, Bool.false_or, Bool.true_or, eqD_int, eqD_str, dEq, dNe, Option.map_none, atI_0, atI_1, atI_2, mulOk_a, mulOk_b, cap, restE, wipeE, dMul, dAdd, ixN30, ixN31, ixN32, List.range_succ_eq_map, h, dIx, atI, ixN, bads]⟩
  · exact ⟨_, List.mem_of_getElem (i := 2) (h := by decide) rfl, by simp [mSeq, mE, mIf, mRet, mAsg, mDrop, mAug, mPar, mPar3, mNext, mBreak, mCont, setD, setCons, setTup, setNil, mOp, mUn, mCb, mArg, mTest, mTru, mAnd, mOr, mNot, mIfE, mChain, mTupD, mLstD, mLstO, mSetO, mPart, mSl, mAndV, mOrV, mNotV, bnd, PD.ret, lft, rd, rdD, asB, asI, mIxO, ixOwn, ownAt, ownSet, mSetAtO, mSetAt, mMeth, mLenO, mTruO, mCall, mCallP, locsP, runF, okEnd, isPin, clean, cleanL, noPin, pin0, mTup, mLst, mCbO, mOpO, asL, asO, mLc, inB, mFor, mForE, mForR, mRaiseE, mRaise, mTold, Own.d, dInt, dInt2, dSub, dDiv, dMod, dLt, dLe, dGt, dGe, dNeg, dIpAdd, dLen, dIntOf, dAbs, dMax2, dTuple, dList, dIsN, elems, dFmt, dStrI, List.getElem?_cons_zero, List.getElem?_cons_succ, List.set_cons_zero, List.set_cons_succ, List.length_cons, List.length_nil, List.cons_append, List.nil_append, List.map_cons, List.map_nil, List.replicate_succ, List.replicate_zero, List.take_succ_cons, List.take_zero, if_true, if_false, ite_true, ite_false, Bool.and_true, Bool.true_and, Bool.false_eq_true, reduceIte, Option.map_some, Option.bind_some, Nat.reduceAdd, Nat.reduceSub, Nat.reduceLT, Nat.reduceLeDiff, decide_true, decide_false, Bool.not_true, Bool.not_false, Bool.or_true, Bool.or_false, Bool.false_or, Bool.true_or, eqD_int, eqD_str, dEq, dNe, Option.map_none, atI_0, atI_1, atI_2, mulOk_a, mulOk_b, cap, restE, wipeE, dMul, dAdd, ixN30, ixN31, ixN32, List.range_succ_eq_map, h, dIx, atI, ixN, bads]⟩
  · exact ⟨_, List.mem_of_getElem (i := 3) (h := by decide) rfl, by simp [mSeq, mE, mIf, mRet, mAsg, mDrop, mAug, mPar, mPar3, mNext, mBreak, mCont, setD, setCons, setTup, setNil, mOp, mUn, mCb, mArg, mTest, mTru, mAnd, mOr, mNot, mIfE, mChain, mTupD, mLstD, mLstO, mSetO, mPart, mSl, mAndV, mOrV, mNotV, bnd, PD.ret, lft, rd, rdD, asB, asI, mIxO, ixOwn, ownAt, ownSet, mSetAtO, mSetAt, mMeth, mLenO, mTruO, mCall, mCallP, locsP, runF, okEnd, isPin, clean, cleanL, noPin, pin0, mTup, mLst, mCbO, mOpO, asL, asO, mLc, inB, mFor, mForE, mForR, mRaiseE, mRaise, mTold, Own.d, dInt, dInt2, dSub, dDiv, dMod, dLt, dLe, dGt, dGe, dNeg, dIpAdd, dLen, dIntOf, dAbs, dMax2, dTuple, dList, dIsN, elems, dFmt, dStrI, List.getElem?_cons_zero, List.getElem?_cons_succ, List.set_cons_zero, List.set_cons_succ, List.length_cons, List.length_nil, List.cons_append, List.nil_append, List.map_cons, List.map_nil, List.replicate_succ, List.replicate_zero, List.take_succ_cons, List.take_zero, if_true, if_false, ite_true, ite_false, Bool.and_true, Bool.true_and, Bool.false_eq_true, reduceIte, Option.map_some, Option.bind_some, Nat.reduceAdd, Nat.reduceSub, Nat.reduceLT, Nat.reduceLeDiff, decide_true, decide_false, Bool.not_true, Bool.not_false, Bool.or_true, Bool.or_false, Bool.false_or, Bool.true_or, eqD_int, eqD_str, dEq, dNe, Option.map_none, atI_0, atI_1, atI_2, mulOk_a, mulOk_b, cap, restE, wipeE, dMul, dAdd, ixN30, ixN31, ixN32, List.range_succ_eq_map, h, dIx, atI, ixN, bads]⟩
  · exact ⟨_, List.mem_of_getElem (i := 4) (h := by decide) rfl, by simp [mSeq, mE, mIf, mRet, mAsg, mDrop, mAug, mPar, mPar3, mNext, mBreak, mCont, setD, setCons, setTup, setNil, mOp, mUn, mCb, mArg, mTest, mTru, mAnd, mOr, mNot, mIfE, mChain, mTupD, mLstD, mLstO, mSetO, mPart, mSl, mAndV, mOrV, mNotV, bnd, PD.ret, lft, rd, rdD, asB, asI, mIxO, ixOwn, ownAt, ownSet, mSetAtO, mSetAt, mMeth, mLenO, mTruO, mCall, mCallP, locsP, runF, okEnd, isPin, clean, cleanL, noPin, pin0, mTup, mLst, mCbO, mOpO, asL, asO, mLc, inB, mFor, mForE, mForR, mRaiseE, mRaise, mTold, Own.d, dInt, dInt2, dSub, dDiv, dMod, dLt, dLe, dGt, dGe, dNeg, dIpAdd, dLen, dIntOf, dAbs, dMax2, dTuple, dList, dIsN, elems, dFmt, dStrI, List.getElem?_cons_zero, List.getElem?_cons_succ, List.set_cons_zero, List.set_cons_succ, List.length_cons, List.length_nil, List.cons_append, List.nil_append, List.map_cons, List.map_nil, List.replicate_succ, List.replicate_zero, List.take_succ_cons, List.take_zero, if_true, if_false, ite_true, ite_false, Bool.and_true, Bool.true_and, Bool.false_eq_true, reduceIte, Option.map_some, Option.bind_some, Nat.reduceAdd, Nat.reduceSub, Nat.reduceLT, Nat.reduceLeDiff, decide_true, decide_false, Bool.not_true, Bool.not_false, Bool.or_true, Bool.or_false, Bool.false_or, Bool.true_or, eqD_int, eqD_str, dEq, dNe, Option.map_none, atI_0, atI_1, atI_2, mulOk_a, mulOk_b, cap, restE, wipeE, dMul, dAdd, ixN30, ixN31, ixN32, List.range_succ_eq_map, h, dIx, atI, ixN, bads]⟩
  · exact ⟨_, List.mem_of_getElem (i := 5) (h := by decide) rfl, by simp [mSeq, mE, mIf, mRet, mAsg, mDrop, mAug, mPar, mPar3, mNext, mBreak, mCont, setD, setCons, setTup, setNil, mOp, mUn, mCb, mArg, mTest, mTru, mAnd, mOr, mNot, mIfE, mChain, mTupD, mLstD, mLstO, mSetO, mPart, mSl, mAndV, mOrV, mNotV, bnd, PD.ret, lft, rd, rdD, asB, asI, mIxO, ixOwn, ownAt, ownSet, mSetAtO, mSetAt, mMeth, mLenO, mTruO, mCall, mCallP, locsP, runF, okEnd, isPin, clean, cleanL, noPin, pin0, mTup, mLst, mCbO, mOpO, asL, asO, mLc, inB, mFor, mForE, mForR, mRaiseE, mRaise, mTold, Own.d, dInt, dInt2, dSub, dDiv, dMod, dLt, dLe, dGt, dGe, dNeg, dIpAdd, dLen, dIntOf, dAbs, dMax2, dTuple, dList, dIsN, elems, dFmt, dStrI, List.getElem?_cons_zero, List.getElem?_cons_succ, List.set_cons_zero, List.set_cons_succ, List.length_cons, List.length_nil, List.cons_append, List.nil_append, List.map_cons, List.map_nil, List.replicate_succ, List.replicate_zero, List.take_succ_cons, List.take_zero, if_true, if_false, ite_true, ite_false, Bool.and_true, Bool.true_and, Bool.false_eq_true, reduceIte, Option.map_some, Option.bind_some, Nat.reduceAdd, Nat.reduceSub, Nat.reduceLT, Nat.reduceLeDiff, decide_true, decide_false, Bool.not_true, Bool.not_false, Bool.or_true, Bool.or_false, Bool.false_or, Bool.true_or, eqD_int, eqD_str, dEq, dNe, Option.map_none, atI_0, atI_1, atI_2, mulOk_a, mulOk_b, cap, restE, wipeE, dMul, dAdd, ixN30, ixN31, ixN32, List.range_succ_eq_map, h, dIx, atI, ixN, bads]⟩
  · exact ⟨_, List.mem_of_getElem (i := 6) (h := by decide) rfl, by simp [mSeq, mE, mIf, mRet, mAsg, mDrop, mAug, mPar, mPar3, mNext, mBreak, mCont, setD, setCons, setTup, setNil, mOp, mUn, mCb, mArg, mTest, mTru, mAnd, mOr, mNot, mIfE, mChain, mTupD, mLstD, mLstO, mSetO, mPart, mSl, mAndV, mOrV, mNotV, bnd, PD.ret, lft, rd, rdD, asB, asI, mIxO, ixOwn, ownAt, ownSet, mSetAtO, mSetAt, mMeth, mLenO, mTruO, mCall, mCallP, locsP, runF, okEnd, isPin, clean, cleanL, noPin, pin0, mTup, mLst, mCbO, mOpO, asL, asO, mLc, inB, mFor, mForE, mForR, mRaiseE, mRaise, mTold, Own.d, dInt, dInt2, dSub, dDiv, dMod, dLt, dLe, dGt, dGe, dNeg, dIpAdd, dLen, dIntOf, dAbs, dMax2, dTuple, dList, dIsN, elems, dFmt, dStrI, List.getElem?_cons_zero, List.getElem?_cons_succ, List.set_cons_zero, List.set_cons_succ, List.length_cons, List.length_nil, List.cons_append, List.nil_append, List.map_cons, List.map_nil, List.replicate_succ, List.replicate_zero, List.take_succ_cons, List.take_zero, if_true, if_false, ite_true, ite_false, Bool.and_true, Bool.true_and, Bool.false_eq_true, reduceIte, Option.map_some, Option.bind_some, Nat.reduceAdd, Nat.reduceSub, Nat.reduceLT, Nat.reduceLeDiff, decide_true, decide_false, Bool.not_true, Bool.not_false, Bool.or_true, Bool.or_false, Bool.false_or, Bool.true_or, eqD_int, eqD_str, dEq, dNe, Option.map_none, atI_0, atI_1, atI_2, mulOk_a, mulOk_b, cap, restE, wipeE, dMul, dAdd, ixN30, ixN31, ixN32, List.range_succ_eq_map, h, dIx, atI, ixN, bads]⟩
  · exact ⟨_, List.mem_of_getElem (i := 7) (h := by decide) rfl, by simp [mSeq, mE, mIf, mRet, mAsg, mDrop, mAug, mPar, mPar3, mNext, mBreak, mCont, setD, setCons, setTup, setNil, mOp, mUn, mCb, mArg, mTest, mTru, mAnd, mOr, mNot, mIfE, mChain, mTupD, mLstD, mLstO, mSetO, mPart, mSl, mAndV, mOrV, mNotV, bnd, PD.ret, lft, rd, rdD, asB, asI, mIxO, ixOwn, ownAt, ownSet, mSetAtO, mSetAt, mMeth, mLenO, mTruO, mCall, mCallP, locsP, runF, okEnd, isPin, clean, cleanL, noPin, pin0, mTup, mLst, mCbO, mOpO, asL, asO, mLc, inB, mFor, mForE, mForR, mRaiseE, mRaise, mTold, Own.d, dInt, dInt2, dSub, dDiv, dMod, dLt, dLe, dGt, dGe, dNeg, dIpAdd, dLen, dIntOf, dAbs, dMax2, dTuple, dList, dIsN, elems, dFmt, dStrI, List.getElem?_cons_zero, List.getElem?_cons_succ, List.set_cons_zero, List.set_cons_succ, List.length_cons, List.length_nil, List.cons_append, List.nil_append, List.map_cons, List.map_nil, List.replicate_succ, List.replicate_zero, List.take_succ_cons, List.take_zero, if_true, if_false, ite_true, ite_false, Bool.and_true, Bool.true_and, Bool.false_eq_true, reduceIte, Option.map_some, Option.bind_some, Nat.reduceAdd, Nat.reduceSub, Nat.reduceLT, Nat.reduceLeDiff, decide_true, decide_false, Bool.not_true, Bool.not_false, Bool.or_true, Bool.or_false, Bool.false_or, Bool.true_or, eqD_int, eqD_str, dEq, dNe, Option.map_none, atI_0, atI_1, atI_2, mulOk_a, mulOk_b, cap, restE, wipeE, dMul, dAdd, ixN30, ixN31, ixN32, List.range_succ_eq_map, h, dIx, atI, ixN, bads]⟩
  · exact ⟨_, List.mem_of_getElem (i := 8) (h := by decide) rfl, by simp [mSeq, mE, mIf, mRet, mAsg, mDrop, mAug, mPar, mPar3, mNext, mBreak, mCont, setD, setCons, setTup, setNil, mOp, mUn, mCb, mArg, mTest, mTru, mAnd, mOr, mNot, mIfE, mChain, mTupD, mLstD, mLstO, mSetO, mPart, mSl, mAndV, mOrV, mNotV, bnd, PD.ret, lft, rd, rdD, asB, asI, mIxO, ixOwn, ownAt, ownSet, mSetAtO, mSetAt, mMeth, mLenO, mTruO, mCall, mCallP, locsP, runF, okEnd, isPin, clean, cleanL, noPin, pin0, mTup, mLst, mCbO, mOpO, asL, asO, mLc, inB, mFor, mForE, mForR, mRaiseE, mRaise, mTold, Own.d, dInt, dInt2, dSub, dDiv, dMod, dLt, dLe, dGt, dGe, dNeg, dIpAdd, dLen, dIntOf, dAbs, dMax2, dTuple, dList, dIsN, elems, dFmt, dStrI, List.getElem?_cons_zero, List.getElem?_cons_succ, List.set_cons_zero, List.set_cons_succ, List.length_cons, List.length_nil, List.cons_append, List.nil_append, List.map_cons, List.map_nil, List.replicate_succ, List.replicate_zero, List.take_succ_cons, List.take_zero, if_true, if_false, ite_true, ite_false, Bool.and_true, Bool.true_and, Bool.false_eq_true, reduceIte, Option.map_some, Option.bind_some, Nat.reduceAdd, Nat.reduceSub, Nat.reduceLT, Nat.reduceLeDiff, decide_true, decide_false, Bool.not_true, Bool.not_false, Bool.or_true, Bool.or_false, Bool.false_or, Bool.true_or, eqD_int, eqD_str, dEq, dNe, Option.map_none, atI_0, atI_1, atI_2, mulOk_a, mulOk_b, cap, restE, wipeE, dMul, dAdd, ixN30, ixN31, ixN32, List.range_succ_eq_map, h, dIx, atI, ixN, bads]⟩
  · exact ⟨_, List.mem_of_getElem (i := 9) (h := by decide) rfl, by simp [mSeq, mE, mIf, mRet, mAsg, mDrop, mAug, mPar, mPar3, mNext, mBreak, mCont, setD, setCons, setTup, setNil, mOp, mUn, mCb, mArg, mTest, mTru, mAnd, mOr, mNot, mIfE, mChain, mTupD, mLstD, mLstO, mSetO, mPart, mSl, mAndV, mOrV, mNotV, bnd, PD.ret, lft, rd, rdD, asB, asI, mIxO, ixOwn, ownAt, ownSet, mSetAtO, mSetAt, mMeth, mLenO, mTruO, mCall, mCallP, locsP, runF, okEnd, isPin, clean, cleanL, noPin, pin0, mTup, mLst, mCbO, mOpO, asL, asO, mLc, inB, mFor, mForE, mForR, mRaiseE, mRaise, mTold, Own.d, dInt, dInt2, dSub, dDiv, dMod, dLt, dLe, dGt, dGe, dNeg, dIpAdd, dLen, dIntOf, dAbs, dMax2, dTuple, dList, dIsN, elems, dFmt, dStrI, List.getElem?_cons_zero, List.getElem?_cons_succ, List.set_cons_zero, List.set_cons_succ, List.length_cons, List.length_nil, List.cons_append, List.nil_append, List.map_cons, List.map_nil, List.replicate_succ, List.replicate_zero, List.take_succ_cons, List.take_zero, if_true, if_false, ite_true, ite_false, Bool.and_true, Bool.true_and, Bool.false_eq_true, reduceIte, Option.map_some, Option.bind_some, Nat.reduceAdd, Nat.reduceSub, Nat.reduceLT, Nat.reduceLeDiff, decide_true, decide_false, Bool.not_true, Bool.not_false, Bool.or_true, Bool.or_false, Bool.false_or, Bool.true_or, eqD_int, eqD_str, dEq, dNe, Option.map_none, atI_0, atI_1, atI_2, mulOk_a, mulOk_b, cap, restE, wipeE, dMul, dAdd, ixN30, ixN31, ixN32, List.range_succ_eq_map, h, dIx, atI, ixN, bads]⟩
theorem lb_16 (a0 a1 a2 a3 a4 a5 a6 a7 a8 a9 a10 a11 a12 a13 a14 a15 a16 a17 : PD.Loc) (F : PD.Env → Option (Res D)) (bs ls : List D) (E1 E2 : PD.Env) (hl : ls.length + 2 ≤ 100000) (h1 : F [.dat (.lst bs)] = some (.er "PatchError" E1)) (h2 : F [.dat (.lst (ls ++ [.str "= 1", .str "= 1"]))] = some (.er "PatchError" E2)) : (mIf (mOr (mTest (mOp dNe (mTold "PatchError" "PatchError" (mCall F (mArg (rd 17) (PD.ret [])))) (PD.ret (.str "PatchError")))) (mTest (mOp dNe (mTold "PatchError" "PatchError" (mCall F (mArg (mOp dAdd (mCb (fun as => (dList as).map .lst) (mArg (rd 16) (PD.ret []))) (mLstD (mArg (PD.ret (.str "= 1")) (mArg (PD.ret (.str "= 1")) (PD.ret []))))) (PD.ret [])))) (PD.ret (.str "PatchError"))))) (mRet (PD.ret (.bl false))) mNext) [a0, a1, a2, a3, a4, a5, a6, a7, a8, a9, a10, a11, a12, a13, a14, a15, .dat (.tup ls), .dat (.lst bs)] = some (.nx [a0, a1, a2, a3, a4, a5, a6, a7, a8, a9, a10, a11, a12, a13, a14, a15, .dat (.tup ls), .dat (.lst bs)]) := by
  simp [mSeq, mE, mIf, mRet, mAsg, mDrop, mAug, mPar, mPar3, mNext, mBreak, mCont, setD, setCons, setTup, setNil, mOp, mUn, mCb, mArg, mTest, mTru, mAnd, mOr, mNot, mIfE, mChain, mTupD, mLstD, mLstO, mSetO, mPart, mSl, mAndV, mOrV, mNotV, bnd, PD.ret, lft, rd, rdD, asB, asI, mIxO, ixOwn, ownAt, ownSet, mSetAtO, mSetAt, mMeth, mLenO, mTruO, mCall, mCallP, locsP, runF, okEnd, isPin, clean, cleanL, noPin, pin0, mTup, mLst, mCbO, mOpO, asL, asO, mLc, inB, mFor, mForE, mForR, mRaiseE, mRaise, mTold, Own.d, dInt, dInt2, dSub, dDiv, dMod, dLt, dLe, dGt, dGe, dNeg, dIpAdd, dLen, dIntOf, dAbs, dMax2, dTuple, dList, dIsN, elems, dFmt, dStrI, List.getElem?_cons_zero, List.getElem?_cons_succ, List.set_cons_zero, List.set_cons_succ, List.length_cons, List.length_nil, List.cons_append, List.nil_append, List.map_cons, List.map_nil, List.replicate_succ, List.replicate_zero, List.take_succ_cons, List.take_zero, if_true, if_false, ite_true, ite_false, Bool.and_true, Bool.true_and, Bool.false_eq_true, reduceIte, Option.map_some, Option.bind_some, Nat.reduceAdd, Nat.reduceSub, Nat.reduceLT, Nat.reduceLeDiff, decide_true, decide_false, Bool.not_true, Bool.not_false, Bool.or_true, Bool.or_false, Bool.false_or, Bool.true_or, eqD_int, eqD_str, dEq, dNe, Option.map_none, atI_0, atI_1, atI_2, mulOk_a, mulOk_b, cap, restE, wipeE, dMul, dAdd, ixN30, ixN31, ixN32, List.range_succ_eq_map, h1, h2, hl]
end K02
end
section
set_option maxHeartbeats 0
namespace K02
open PySem L2 PD
theorem asStrs_map : ∀ xs : List Str, asStrs (xs.map .str) = some xs
  | [] => rfl
  | x :: xs => by simp only [List.map_cons, asStrs, asStrs_map xs]; rfl
theorem pairs_ok (xs ys : List Str) (hx : xs.length ≤ 500) (hy : ys.length ≤ 500) : F__law_pairs [.dat (linesT xs), .dat (linesT ys)] = some (.ok (.lst ((gw xs ys 0 0).map pairD)) [.non, .non]) := by
  unfold linesT
  simp only [F__law_pairs, asStrs_map]
  rw [if_pos ⟨by omega, by omega⟩]
theorem tab_head (xs ys : List Str) : ∃ r rs, tabD xs ys = .lst (.lst (.int (lcs xs ys) :: r) :: rs) := by
  have e : rowF ys.length (rowL (xs.drop 0) ys) = .int (lcs xs ys) :: ((List.range ys.length).map Nat.succ).map (fun j => D.int (rowL (xs.drop 0) ys j)) := by
    unfold rowF
    rw [List.range_succ_eq_map, List.map_cons]
    rfl
  unfold tabD
  rw [show List.range (xs.length + 1) = 0 :: (List.range xs.length).map Nat.succ from List.range_succ_eq_map, List.map_cons, e]
  exact ⟨_, _, rfl⟩
theorem kept_c (a0 a1 a2 a3 a4 a5 a6 a7 a8 a9 a10 a11 a12 a13 a14 a15 a16 a17 : PD.Loc) (P : D) (p : List Op) (hl : p.length < 90000) : compL (setTup 2 (setCons (setD 8) (setCons (setD 9) setNil))) m_law_c1 m_law_e1 [8, 9] (p.map opD) [] [a0, a1, a2, a3, a4, a5, .dat P, a7, .non, .non, a10, a11, a12, a13, a14, a15, a16, a17] = some (((p.filter isKp).map size).map (fun (n : Nat) => D.int (n : Int)), [a0, a1, a2, a3, a4, a5, .dat P, a7, .non, .non, a10, a11, a12, a13, a14, a15, a16, a17]) := by
  have c := compL_gen (g := setTup 2 (setCons (setD 8) (setCons (setD 9) setNil))) (t := m_law_c1) (e := m_law_e1) (vs := [8, 9]) opD [a0, a1, a2, a3, a4, a5, .dat P, a7, .non, .non, a10, a11, a12, a13, a14, a15, a16, a17] (fun o => [a0, a1, a2, a3, a4, a5, .dat P, a7, .dat (.str (word o)), .dat (valD o), a10, a11, a12, a13, a14, a15, a16, a17]) isKp (fun o => .int (size o : Nat)) (fun o => by cases o <;> rfl) (fun o => by
      unfold m_law_c1
      simp only [mSeq, mE, mIf, mRet, mAsg, mDrop, mAug, mPar, mPar3, mNext, mBreak, mCont, setD, setCons, setTup, setNil, mOp, mUn, mCb, mArg, mTest, mTru, mAnd, mOr, mNot, mIfE, mChain, mTupD, mLstD, mLstO, mSetO, mPart, mSl, mAndV, mOrV, mNotV, bnd, PD.ret, lft, rd, rdD, asB, asI, mIxO, ixOwn, ownAt, ownSet, mSetAtO, mSetAt, mMeth, mLenO, mTruO, mCall, mCallP, locsP, runF, okEnd, isPin, clean, cleanL, noPin, pin0, mTup, mLst, mCbO, mOpO, asL, asO, mLc, inB, mFor, mForE, mForR, mRaiseE, mRaise, mTold, Own.d, dInt, dInt2, dSub, dDiv, dMod, dLt, dLe, dGt, dGe, dNeg, dIpAdd, dLen, dIntOf, dAbs, dMax2, dTuple, dList, dIsN, elems, dFmt, dStrI, List.getElem?_cons_zero, List.getElem?_cons_succ, List.set_cons_zero, List.set_cons_succ, List.length_cons, List.length_nil, List.cons_append, List.nil_append, List.map_cons, List.map_nil, List.replicate_succ, List.replicate_zero, List.take_succ_cons, List.take_zero, if_true, if_false, ite_true, ite_false, Bool.and_true, Bool.true_and, Bool.false_eq_true, reduceIte, Option.map_some, Option.bind_some, Nat.reduceAdd, Nat.reduceSub, Nat.reduceLT, Nat.reduceLeDiff, decide_true, decide_false, Bool.not_true, Bool.not_false, Bool.or_true, Bool.or_false, Bool.false_or, Bool.true_or, eqD_int, eqD_str, dEq, dNe, Option.map_none, atI_0, atI_1, atI_2, mulOk_a, mulOk_b, cap, restE, wipeE, dMul, dAdd, ixN30, ixN31, ixN32, List.range_succ_eq_map, word_keep]) (fun o => rfl) p [] (fun o _ hb => by
      cases o with
      | keep n => rfl
      | drop ls => cases hb
      | add ls => cases hb) (by simp; omega)
  rw [c, List.nil_append, List.map_map]
  rfl
theorem drops_c (a0 a1 a2 a3 a4 a5 a6 a7 a8 a9 a10 a11 a12 a13 a14 a15 a16 a17 : PD.Loc) (P : D) (p : List Op) (hl : p.length < 90000) : compL (setD 13) m_law_c3 m_law_e3 [13] (p.map opD) [] [a0, a1, a2, a3, a4, a5, .dat P, a7, a8, a9, a10, a11, a12, .non, a14, a15, a16, a17] = some ((p.filter isDrop).map opD, [a0, a1, a2, a3, a4, a5, .dat P, a7, a8, a9, a10, a11, a12, .non, a14, a15, a16, a17]) := by
  have c := compL_gen (g := setD 13) (t := m_law_c3) (e := m_law_e3) (vs := [13]) opD [a0, a1, a2, a3, a4, a5, .dat P, a7, a8, a9, a10, a11, a12, .non, a14, a15, a16, a17] (fun o => [a0, a1, a2, a3, a4, a5, .dat P, a7, a8, a9, a10, a11, a12, .dat (opD o), a14, a15, a16, a17]) isDrop opD (fun o => rfl) (fun o => by
      unfold m_law_c3
      rw [opD_eq]
      simp only [mSeq, mE, mIf, mRet, mAsg, mDrop, mAug, mPar, mPar3, mNext, mBreak, mCont, setD, setCons, setTup, setNil, mOp, mUn, mCb, mArg, mTest, mTru, mAnd, mOr, mNot, mIfE, mChain, mTupD, mLstD, mLstO, mSetO, mPart, mSl, mAndV, mOrV, mNotV, bnd, PD.ret, lft, rd, rdD, asB, asI, mIxO, ixOwn, ownAt, ownSet, mSetAtO, mSetAt, mMeth, mLenO, mTruO, mCall, mCallP, locsP, runF, okEnd, isPin, clean, cleanL, noPin, pin0, mTup, mLst, mCbO, mOpO, asL, asO, mLc, inB, mFor, mForE, mForR, mRaiseE, mRaise, mTold, Own.d, dInt, dInt2, dSub, dDiv, dMod, dLt, dLe, dGt, dGe, dNeg, dIpAdd, dLen, dIntOf, dAbs, dMax2, dTuple, dList, dIsN, elems, dFmt, dStrI, List.getElem?_cons_zero, List.getElem?_cons_succ, List.set_cons_zero, List.set_cons_succ, List.length_cons, List.length_nil, List.cons_append, List.nil_append, List.map_cons, List.map_nil, List.replicate_succ, List.replicate_zero, List.take_succ_cons, List.take_zero, if_true, if_false, ite_true, ite_false, Bool.and_true, Bool.true_and, Bool.false_eq_true, reduceIte, Option.map_some, Option.bind_some, Nat.reduceAdd, Nat.reduceSub, Nat.reduceLT, Nat.reduceLeDiff, decide_true, decide_false, Bool.not_true, Bool.not_false, Bool.or_true, Bool.or_false, Bool.false_or, Bool.true_or, eqD_int, eqD_str, dEq, dNe, Option.map_none, atI_0, atI_1, atI_2, mulOk_a, mulOk_b, cap, restE, wipeE, dMul, dAdd, ixN30, ixN31, ixN32, List.range_succ_eq_map, dIx, List.getElem?_cons_zero, word_drop]) (fun o => rfl) p [] (fun o _ hb => rfl) (by simp; omega)
  rw [c, List.nil_append]
theorem side_g (a0 a1 a2 a3 a4 a5 a6 a7 a8 a9 a10 a11 a12 a13 a14 a15 a16 a17 : PD.Loc) (w u : Str) (x y : D) : m_law_c2 [a0, a1, a2, a3, a4, a5, a6, a7, a8, a9, .dat (.tup [.str w, x]), .dat (.tup [.str u, y]), a12, a13, a14, a15, a16, a17] = some (.ok (decide (w = u) || (decide (w = "add") && decide (u = "drop"))) [a0, a1, a2, a3, a4, a5, a6, a7, a8, a9, .dat (.tup [.str w, x]), .dat (.tup [.str u, y]), a12, a13, a14, a15, a16, a17]) := by
  unfold m_law_c2
  by_cases h1 : w = u
  · simp [mSeq, mE, mIf, mRet, mAsg, mDrop, mAug, mPar, mPar3, mNext, mBreak, mCont, setD, setCons, setTup, setNil, mOp, mUn, mCb, mArg, mTest, mTru, mAnd, mOr, mNot, mIfE, mChain, mTupD, mLstD, mLstO, mSetO, mPart, mSl, mAndV, mOrV, mNotV, bnd, PD.ret, lft, rd, rdD, asB, asI, mIxO, ixOwn, ownAt, ownSet, mSetAtO, mSetAt, mMeth, mLenO, mTruO, mCall, mCallP, locsP, runF, okEnd, isPin, clean, cleanL, noPin, pin0, mTup, mLst, mCbO, mOpO, asL, asO, mLc, inB, mFor, mForE, mForR, mRaiseE, mRaise, mTold, Own.d, dInt, dInt2, dSub, dDiv, dMod, dLt, dLe, dGt, dGe, dNeg, dIpAdd, dLen, dIntOf, dAbs, dMax2, dTuple, dList, dIsN, elems, dFmt, dStrI, List.getElem?_cons_zero, List.getElem?_cons_succ, List.set_cons_zero, List.set_cons_succ, List.length_cons, List.length_nil, List.cons_append, List.nil_append, List.map_cons, List.map_nil, List.replicate_succ, List.replicate_zero, List.take_succ_cons, List.take_zero, if_true, if_false, ite_true, ite_false, Bool.and_true, Bool.true_and, Bool.false_eq_true, reduceIte, Option.map_some, Option.bind_some, Nat.reduceAdd, Nat.reduceSub, Nat.reduceLT, Nat.reduceLeDiff, decide_true, decide_false, Bool.not_true, Bool.not_false, Bool.or_true, Bool.or_false, Bool.false_or, Bool.true_or, eqD_int, eqD_str, dEq, dNe, Option.map_none, atI_0, atI_1, atI_2, mulOk_a, mulOk_b, cap, restE, wipeE, dMul, dAdd, ixN30, ixN31, ixN32, List.range_succ_eq_map, dIx, h1]
  · by_cases h2 : w = "add"
    · subst h2
      simp [mSeq, mE, mIf, mRet, mAsg, mDrop, mAug, mPar, mPar3, mNext, mBreak, mCont, setD, setCons, setTup, setNil, mOp, mUn, mCb, mArg, mTest, mTru, mAnd, mOr, mNot, mIfE, mChain, mTupD, mLstD, mLstO, mSetO, mPart, mSl, mAndV, mOrV, mNotV, bnd, PD.ret, lft, rd, rdD, asB, asI, mIxO, ixOwn, ownAt, ownSet, mSetAtO, mSetAt, mMeth, mLenO, mTruO, mCall, mCallP, locsP, runF, okEnd, isPin, clean, cleanL, noPin, pin0, mTup, mLst, mCbO, mOpO, asL, asO, mLc, inB, mFor, mForE, mForR, mRaiseE, mRaise, mTold, Own.d, dInt, dInt2, dSub, dDiv, dMod, dLt, dLe, dGt, dGe, dNeg, dIpAdd, dLen, dIntOf, dAbs, dMax2, dTuple, dList, dIsN, elems, dFmt, dStrI, List.getElem?_cons_zero, List.getElem?_cons_succ, List.set_cons_zero, List.set_cons_succ, List.length_cons, List.length_nil, List.cons_append, List.nil_append, List.map_cons, List.map_nil, List.replicate_succ, List.replicate_zero, List.take_succ_cons, List.take_zero, if_true, if_false, ite_true, ite_false, Bool.and_true, Bool.true_and, Bool.false_eq_true, reduceIte, Option.map_some, Option.bind_some, Nat.reduceAdd, Nat.reduceSub, Nat.reduceLT, Nat.reduceLeDiff, decide_true, decide_false, Bool.not_true, Bool.not_false, Bool.or_true, Bool.or_false, Bool.false_or, Bool.true_or, eqD_int, eqD_str, dEq, dNe, Option.map_none, atI_0, atI_1, atI_2, mulOk_a, mulOk_b, cap, restE, wipeE, dMul, dAdd, ixN30, ixN31, ixN32, List.range_succ_eq_map, dIx, h1]
    · simp [mSeq, mE, mIf, mRet, mAsg, mDrop, mAug, mPar, mPar3, mNext, mBreak, mCont, setD, setCons, setTup, setNil, mOp, mUn, mCb, mArg, mTest, mTru, mAnd, mOr, mNot, mIfE, mChain, mTupD, mLstD, mLstO, mSetO, mPart, mSl, mAndV, mOrV, mNotV, bnd, PD.ret, lft, rd, rdD, asB, asI, mIxO, ixOwn, ownAt, ownSet, mSetAtO, mSetAt, mMeth, mLenO, mTruO, mCall, mCallP, locsP, runF, okEnd, isPin, clean, cleanL, noPin, pin0, mTup, mLst, mCbO, mOpO, asL, asO, mLc, inB, mFor, mForE, mForR, mRaiseE, mRaise, mTold, Own.d, dInt, dInt2, dSub, dDiv, dMod, dLt, dLe, dGt, dGe, dNeg, dIpAdd, dLen, dIntOf, dAbs, dMax2, dTuple, dList, dIsN, elems, dFmt, dStrI, List.getElem?_cons_zero, List.getElem?_cons_succ, List.set_cons_zero, List.set_cons_succ, List.length_cons, List.length_nil, List.cons_append, List.nil_append, List.map_cons, List.map_nil, List.replicate_succ, List.replicate_zero, List.take_succ_cons, List.take_zero, if_true, if_false, ite_true, ite_false, Bool.and_true, Bool.true_and, Bool.false_eq_true, reduceIte, Option.map_some, Option.bind_some, Nat.reduceAdd, Nat.reduceSub, Nat.reduceLT, Nat.reduceLeDiff, decide_true, decide_false, Bool.not_true, Bool.not_false, Bool.or_true, Bool.or_false, Bool.false_or, Bool.true_or, eqD_int, eqD_str, dEq, dNe, Option.map_none, atI_0, atI_1, atI_2, mulOk_a, mulOk_b, cap, restE, wipeE, dMul, dAdd, ixN30, ixN31, ixN32, List.range_succ_eq_map, dIx, h1, h2]
theorem side_t (a0 a1 a2 a3 a4 a5 a6 a7 a8 a9 a10 a11 a12 a13 a14 a15 a16 a17 : PD.Loc) (a b : Op) : m_law_c2 [a0, a1, a2, a3, a4, a5, a6, a7, a8, a9, .dat (opD a), .dat (opD b), a12, a13, a14, a15, a16, a17] = some (.ok (badB a b) [a0, a1, a2, a3, a4, a5, a6, a7, a8, a9, .dat (opD a), .dat (opD b), a12, a13, a14, a15, a16, a17]) := by
  unfold badB
  rw [opD_eq, opD_eq]
  exact side_g a0 a1 a2 a3 a4 a5 a6 a7 a8 a9 a10 a11 a12 a13 a14 a15 a16 a17 _ _ _ _
theorem side_c (a0 a1 a2 a3 a4 a5 a6 a7 a8 a9 a10 a11 a12 a13 a14 a15 a16 a17 : PD.Loc) (P : D) : ∀ (p : List Op) (x : Option Nat), WF x p → compL (setTup 2 (setCons (setD 10) (setCons (setD 11) setNil))) m_law_c2 m_law_e2 [10, 11] (pairs2 p) [] [a0, a1, a2, a3, a4, a5, .dat P, a7, a8, a9, .non, .non, a12, a13, a14, a15, a16, a17] = some ([], [a0, a1, a2, a3, a4, a5, .dat P, a7, a8, a9, .non, .non, a12, a13, a14, a15, a16, a17])
  | [], _, _ => rfl
  | [a], _, _ => rfl
  | a :: b :: l, x, h => by
    have t := side_t a0 a1 a2 a3 a4 a5 (.dat P) a7 a8 a9 a10 a11 a12 a13 a14 a15 a16 a17 a b
    rw [(bad_iff a b).mpr h.2.1] at t
    rw [pairs2_cons]
    refine (compL_no (ρ1 := [a0, a1, a2, a3, a4, a5, .dat P, a7, a8, a9, .dat (opD a), .dat (opD b), a12, a13, a14, a15, a16, a17]) rfl t).trans ?_
    exact side_c a0 a1 a2 a3 a4 a5 a6 a7 a8 a9 a10 a11 a12 a13 a14 a15 a16 a17 P (b :: l) _ h.2
end K02
end
section
set_option maxHeartbeats 0
namespace K02
open PySem L2 PD
theorem flat_pairs (l : List (Nat × Nat)) : flat 2 (.lst (l.map pairD)) = true := by
  simp only [flat, flats_all, List.all_map]
  rw [List.all_eq_true]
  intro x _
  simp [pairD, flat, flats]
theorem eq_two (i j : Int) : eqD (.tup [.int i, .int j]) (.tup [.int i, .int j]) = some true := eqD_refl (n := 1) (by simp [flat, flats]) (by omega)
theorem isN_lines (xs : List Str) : dIsN (linesT xs) = some (.bl false) := rfl
theorem fitD_eq (o : Option (List Str)) : fitD o = (o.map linesT).getD .non := by cases o <;> rfl
theorem body_ok (c0 c1 c2 : Int) : ∃ ρ2, m_law_body (ownEnv 18 1 (.lst (intsD' [c0, c1, c2]))) = some (.nx ρ2) := by
  obtain ⟨xs, a0, a1, a2, lx, sx, tx⟩ := text_ok c0 c1 c2
  obtain ⟨ys, b0, b1, b2, ly, sy, ty⟩ := text_ok a0 a1 a2
  obtain ⟨zs, d0, d1, d2, lz, sz, tz⟩ := text_ok b0 b1 b2
  obtain ⟨r, f0, f1, f2, r0, r1, tr⟩ := roll_ok d0 d1 d2 10 (by omega) (by omega)
  have L := patch_leads xs ys
  have W := patch_wf xs ys
  have RD := leads_read L sx sy lx ly
  have SD : ∀ o ∈ patch xs ys, ShortO o := fun o ho => (RD o ho).s
  have pl : (patch xs ys).length ≤ 24 := by have := (leads_sized L).2.1; omega
  have Lt := leads_turn _ (Nat.le_refl _) L
  have Wt := wf_turn0 W
  have hgl := gw_len _ xs ys 0 0 (Nat.le_refl _)
  obtain ⟨kr, krs, hk⟩ := tab_head xs ys
  have hm := matches_ok xs ys (by omega) (by omega)
  have hc := common_rows_ok xs ys (by omega) (by omega)
  rw [hk] at hc
  have hp := patch_ok xs ys (by omega) (by omega)
  have hkept := patch_kept xs ys
  have htot := leads_total L
  have ap1 := (apply_ok xs _ (leads_size L lx ly lx)).1 ys (fit_leads L)
  have ap2 := (apply_ok ys _ (leads_size Lt ly lx ly)).1 xs (fit_leads Lt)
  have tu1 := turned_ok _ W (by omega)
  have tu2 := turned_ok _ Wt (by rw [turn_len _ (Nat.le_refl _)]; omega)
  rw [turn_turn _ (Nat.le_refl _) W] at tu2
  have S := leads_size (zs := zs) L lx ly lz
  have ap3 := apply_ok zs _ S
  obtain ⟨ef, hf⟩ := fitted_ok zs _ S
  rw [fitD_eq] at hf
  have htx := text_of _ SD (by omega)
  have hall := all_of _ SD (by omega)
  have hrd := read_ok _ RD W (by omega)
  obtain ⟨et, hrt⟩ := read_twice _ RD W (by omega)
  have tlen : (textP (patch xs ys)).length ≤ 50000 := by
    have key : ∀ p : List Op, (∀ o ∈ p, ShortO o) → (textP p).length ≤ 1000 * p.length := by
      intro p
      induction p with
      | nil => intro _; simp [textP]
      | cons o p ih =>
        intro h
        have h1 := rowsO_len o (h o List.mem_cons_self)
        have h2 := ih fun q hq => h q (List.mem_cons_of_mem _ hq)
        simp only [textP, List.length_append, List.length_cons]
        omega
    have := key _ SD
    omega
  generalize hP : patch xs ys = p at *
  have e1 := lb_1 F__law_text (dice3 c0 c1 c2) (dice3 a0 a1 a2) (dice3 b0 b1 b2) (dice3 d0 d1 d2) (.tup (xs.map .str)) (.tup (ys.map .str)) (.tup (zs.map .str)) tx ty tz
  have e2 := lb_2 .non (.own (dice3 d0 d1 d2)) .non .non (.dat (.tup (zs.map .str))) .non .non .non .non .non .non .non .non .non .non .non .non .non F__law_pairs (.tup (xs.map .str)) (.tup (ys.map .str)) (.lst ((gw xs ys 0 0).map pairD)) [.non, .non] (pairs_ok xs ys (by omega) (by omega))
  have e3 := lb_3 .non (.own (dice3 d0 d1 d2)) .non .non (.dat (.tup (zs.map .str))) .non .non .non .non .non .non .non .non .non .non .non .non .non F_matches F_common_rows (.tup (xs.map .str)) (.tup (ys.map .str)) _ _ ((gw xs ys 0 0).map pairD) kr krs (lcs xs ys : Int) hm (eqD_refl (flat_pairs _) (by omega)) hc (by rw [List.length_map, hgl])
  have e4 := lb_4 .non (.own (dice3 d0 d1 d2)) .non .non (.dat (.tup (zs.map .str))) (.dat (.lst ((gw xs ys 0 0).map pairD))) .non .non .non .non .non .non .non .non .non .non .non .non F_patch_between (.tup (xs.map .str)) (.tup (ys.map .str)) (.tup (p.map opD)) _ hp
  have e5 := lb_5 .non (.own (dice3 d0 d1 d2)) .non .non (.dat (.tup (zs.map .str))) (.dat (.lst ((gw xs ys 0 0).map pairD))) .non .non .non .non .non .non .non .non .non .non .non .non F_apply_patch F_turned (.tup (xs.map .str)) (.tup (ys.map .str)) (.tup (p.map opD)) (.tup ((turn p).map opD)) _ _ _ _ ap1 tu1 ap2 tu2 (eqD_refl (flat_lines ys) (by omega)) (eqD_refl (flat_lines xs) (by omega)) (eqD_refl (flat_patch p) (by omega))
  have e6 := lb_6 .non (.own (dice3 d0 d1 d2)) (.dat (.tup (xs.map .str))) (.dat (.tup (ys.map .str))) (.dat (.tup (zs.map .str))) (.dat (.lst ((gw xs ys 0 0).map pairD))) .non .non .non .non .non .non .non .non .non .non .non .non (p.map opD) _ _ (kept_c _ _ _ _ _ _ .non _ .non .non _ _ _ _ _ _ _ _ _ p (by omega)) (dSum_map _)
  have e7 := lb_7 .non (.own (dice3 d0 d1 d2)) .non .non (.dat (.tup (zs.map .str))) .non .non .non .non .non .non .non .non .non .non .non .non .non F_counts (xs.map .str) (ys.map .str) ((gw xs ys 0 0).map pairD) (.tup (p.map opD)) (total isKp p : Nat) [.non] (by
    have z := counts_ok p (by omega)
    rw [List.length_map, List.length_map, List.length_map, show ((ys.length : Nat) : Int) - ((gw xs ys 0 0).length : Nat) = (total isAdd p : Nat) by omega, show ((xs.length : Nat) : Int) - ((gw xs ys 0 0).length : Nat) = (total isDrop p : Nat) by omega]
    exact z) (by rw [List.length_map]; omega) eq_two
  have e8 := lb_8 .non (.own (dice3 d0 d1 d2)) (.dat (.tup (xs.map .str))) (.dat (.tup (ys.map .str))) (.dat (.tup (zs.map .str))) (.dat (.lst ((gw xs ys 0 0).map pairD))) .non (.dat (.int (total isKp p : Nat))) .non .non .non .non .non .non .non .non .non .non (p.map opD) ((p.map opD).drop 1) (by show some (D.tup (cutD (p.map opD) (some 1) none)) = _; rw [cut_1]) (side_c _ _ _ _ _ _ .non _ _ _ .non .non _ _ _ _ _ _ _ p none W)
  have e9 := lb_9 .non (.own (dice3 d0 d1 d2)) (.dat (.tup (xs.map .str))) (.dat (.tup (ys.map .str))) (.dat (.tup (zs.map .str))) (.dat (.lst ((gw xs ys 0 0).map pairD))) .non (.dat (.int (total isKp p : Nat))) .non .non .non .non .non .non .non .non .non .non (p.map opD) _ (drops_c _ _ _ _ _ _ .non _ _ _ _ _ _ .non _ _ _ _ _ p (by omega))
  have e10 := lb_10 .non (.own (dice3 d0 d1 d2)) (.dat (.tup (xs.map .str))) (.dat (.tup (ys.map .str))) .non (.dat (.lst ((gw xs ys 0 0).map pairD))) .non (.dat (.int (total isKp p : Nat))) .non .non .non .non (.dat (.lst ((p.filter isDrop).map opD))) .non .non .non .non .non F_apply_patch (.tup (zs.map .str)) (.tup (p.map opD)) (.tup []) "" ((fit p zs).map linesT) (fun d h => by
    obtain ⟨q, h1, rfl⟩ := Option.map_eq_some_iff.mp h
    exact ⟨_, ap3.1 q h1⟩) (fun h => ap3.2 (Option.map_eq_none_iff.mp h))
  have e11 := lb_11 .non (.own (dice3 d0 d1 d2)) (.dat (.tup (xs.map .str))) (.dat (.tup (ys.map .str))) .non (.dat (.lst ((gw xs ys 0 0).map pairD))) .non (.dat (.int (total isKp p : Nat))) .non .non .non .non (.dat (.lst ((p.filter isDrop).map opD))) .non (.dat (((fit p zs).map linesT).getD (.str "PatchError"))) .non .non .non F__law_fitted (.tup (zs.map .str)) (.tup (p.map opD)) (((fit p zs).map linesT).getD .non) _ hf
  have e12 := lb_12 .non (.own (dice3 d0 d1 d2)) (.dat (.tup (xs.map .str))) (.dat (.tup (ys.map .str))) (.dat (.tup (zs.map .str))) (.dat (.lst ((gw xs ys 0 0).map pairD))) .non (.dat (.int (total isKp p : Nat))) .non .non .non .non .non .non .non .non .non .non (p.map opD) ((p.filter isDrop).map opD) ((fit p zs).map linesT) (by rw [List.length_map, List.length_map]; exact List.length_filter_le _ _) (fun d h => by
    obtain ⟨q, h1, rfl⟩ := Option.map_eq_some_iff.mp h
    exact ⟨rfl, eqD_refl (flat_lines q) (by omega)⟩)
  have e13 := lb_13 .non (.own (dice3 d0 d1 d2)) (.dat (.tup (xs.map .str))) (.dat (.tup (ys.map .str))) (.dat (.tup (zs.map .str))) (.dat (.lst ((gw xs ys 0 0).map pairD))) .non (.dat (.int (total isKp p : Nat))) .non .non .non .non (.dat (.lst ((p.filter isDrop).map opD))) .non (.dat (((fit p zs).map linesT).getD (.str "PatchError"))) (.dat (((fit p zs).map linesT).getD .non)) .non .non F_patch_text (.tup (p.map opD)) (.tup ((textP p).map .str)) _ htx
  have e14 := lb_14 .non (.own (dice3 d0 d1 d2)) (.dat (.tup (xs.map .str))) (.dat (.tup (ys.map .str))) (.dat (.tup (zs.map .str))) (.dat (.lst ((gw xs ys 0 0).map pairD))) .non (.dat (.int (total isKp p : Nat))) .non .non .non .non (.dat (.lst ((p.filter isDrop).map opD))) .non (.dat (((fit p zs).map linesT).getD (.str "PatchError"))) (.dat (((fit p zs).map linesT).getD .non)) .non .non F_read_patch F__law_all (.tup (p.map opD)) (.tup ((textP p).map .str)) _ _ hrd hall (eqD_refl (flat_patch p) (by omega)) (eqD_refl (flat_lines (textP p)) (by omega))
  obtain ⟨bd, hbd, e15⟩ := lb_15 .non .non (.dat (.tup (xs.map .str))) (.dat (.tup (ys.map .str))) (.dat (.tup (zs.map .str))) (.dat (.lst ((gw xs ys 0 0).map pairD))) (.dat (.tup (p.map opD))) (.dat (.int (total isKp p : Nat))) .non .non .non .non (.dat (.lst ((p.filter isDrop).map opD))) .non (.dat (((fit p zs).map linesT).getD (.str "PatchError"))) (.dat (((fit p zs).map linesT).getD .non)) (.dat (.tup ((textP p).map .str))) .non F__law_roll (dice3 d0 d1 d2) (dice3 f0 f1 f2) r [.non] tr r0 r1
  obtain ⟨eb, hb⟩ := isErr_ok (List.all_eq_true.mp bads_err bd hbd)
  have e16 := lb_16 .non (.own (dice3 f0 f1 f2)) (.dat (.tup (xs.map .str))) (.dat (.tup (ys.map .str))) (.dat (.tup (zs.map .str))) (.dat (.lst ((gw xs ys 0 0).map pairD))) (.dat (.tup (p.map opD))) (.dat (.int (total isKp p : Nat))) .non .non .non .non (.dat (.lst ((p.filter isDrop).map opD))) .non (.dat (((fit p zs).map linesT).getD (.str "PatchError"))) (.dat (((fit p zs).map linesT).getD .non)) .non .non F_read_patch (bd.map .str) ((textP p).map .str) eb et (by rw [List.length_map]; omega) hb hrt
  have fin := ((mSeq_nx e1).trans ((mSeq_nx e2).trans ((mSeq_nx e3).trans ((mSeq_nx e4).trans ((mSeq_nx e5).trans ((mSeq_nx e6).trans ((mSeq_nx e7).trans ((mSeq_nx e8).trans ((mSeq_nx e9).trans ((mSeq_nx e10).trans ((mSeq_nx e11).trans ((mSeq_nx e12).trans ((mSeq_nx e13).trans ((mSeq_nx e14).trans ((mSeq_nx e15).trans e16)))))))))))))))
  exact ⟨_, fin⟩
end K02
end
section
set_option maxHeartbeats 0
namespace K02
open PySem L2 PD
theorem ret_g (F G H : PD.Env → Option (Res D)) (E1 E2 E3 : PD.Env) (h1 : F [.dat (.tup []), .dat (.tup [])] = some (.ok (.tup []) E1)) (h2 : G [.dat (.tup []), .dat (.tup [])] = some (.ok (.tup []) E2)) (h3 : H [.dat (.tup [])] = some (.ok (.tup []) E3)) (he : eqD (.tup []) (.tup []) = some true) (ρ : PD.Env) :
    mRet (mAndV (mOp dEq (mCall F (mArg (mTupD (PD.ret [])) (mArg (mTupD (PD.ret [])) (PD.ret [])))) (mTupD (PD.ret []))) (mAndV (mOp dEq (mCall G (mArg (mTupD (PD.ret [])) (mArg (mTupD (PD.ret [])) (PD.ret [])))) (mTupD (PD.ret []))) (mOp dEq (mCall H (mArg (mTupD (PD.ret [])) (PD.ret []))) (mTupD (PD.ret []))))) ρ = some (.rt (.bl true) ρ) := by
  simp [mSeq, mE, mIf, mRet, mAsg, mDrop, mAug, mPar, mPar3, mNext, mBreak, mCont, setD, setCons, setTup, setNil, mOp, mUn, mCb, mArg, mTest, mTru, mAnd, mOr, mNot, mIfE, mChain, mTupD, mLstD, mLstO, mSetO, mPart, mSl, mAndV, mOrV, mNotV, bnd, PD.ret, lft, rd, rdD, asB, asI, mIxO, ixOwn, ownAt, ownSet, mSetAtO, mSetAt, mMeth, mLenO, mTruO, mCall, mCallP, locsP, runF, okEnd, isPin, clean, cleanL, noPin, pin0, mTup, mLst, mCbO, mOpO, asL, asO, mLc, inB, mFor, mForE, mForR, mRaiseE, mRaise, mTold, Own.d, dInt, dInt2, dSub, dDiv, dMod, dLt, dLe, dGt, dGe, dNeg, dIpAdd, dLen, dIntOf, dAbs, dMax2, dTuple, dList, dIsN, elems, dFmt, dStrI, List.getElem?_cons_zero, List.getElem?_cons_succ, List.set_cons_zero, List.set_cons_succ, List.length_cons, List.length_nil, List.cons_append, List.nil_append, List.map_cons, List.map_nil, List.replicate_succ, List.replicate_zero, List.take_succ_cons, List.take_zero, if_true, if_false, ite_true, ite_false, Bool.and_true, Bool.true_and, Bool.false_eq_true, reduceIte, Option.map_some, Option.bind_some, Nat.reduceAdd, Nat.reduceSub, Nat.reduceLT, Nat.reduceLeDiff, decide_true, decide_false, Bool.not_true, Bool.not_false, Bool.or_true, Bool.or_false, Bool.false_or, Bool.true_or, eqD_int, eqD_str, dEq, dNe, Option.map_none, atI_0, atI_1, atI_2, mulOk_a, mulOk_b, cap, restE, wipeE, dMul, dAdd, ixN30, ixN31, ixN32, List.range_succ_eq_map, h1, h2, h3, he]
theorem patch_nil : patch [] [] = [] := by
  unfold patch allP
  simp [gw, pbL, preO, nextK, fin]
theorem ret_ok (ρ : PD.Env) : m_law_ret ρ = some (.rt (.bl true) ρ) := by
  have h1 := patch_ok [] [] (by simp) (by simp)
  rw [patch_nil] at h1
  have h2 := (apply_ok [] [] ⟨by simp, by simp [wt], (fun o ho => nomatch ho), (fun o ho => nomatch ho)⟩).1 [] rfl
  have h3 := read_ok [] (fun o ho => nomatch ho) trivial (by simp)
  exact ret_g F_patch_between F_apply_patch F_read_patch _ _ _ h1 h2 h3 (eqD_refl (n := 0) (by simp [flat]) (by omega)) ρ
theorem good (ns : List Int) : GoodL N_law.length 1 m_law_call m_law_body m_law_ret ns := by
  obtain ⟨a, b, c, ρ1, h1⟩ := call_ok ns
  obtain ⟨ρ2, h2⟩ := body_ok a b c
  exact ⟨[a, b, c], ρ1, ρ2, ρ2, h1, h2, ret_ok ρ2⟩
end K02
end
theorem PySem.Challenge.cw_landstack_k02_patches_between_texts_holds : PySem.Challenge.rw_landstack_k02_patches_between_texts.Holds :=
  K02.of_good K02.good
