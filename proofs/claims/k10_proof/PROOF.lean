import PyProof.Rows.All
import Wide.All
import OpenK.AllK
import Wide.FinOn
import HandS.ForMost
import HandS.Evl
import HandS.Exc
import HandS.More
import HandS.TupAny
import HandS.TupMul
import HandS.Zip
import HandS.FStr
import PyProof.TypeEq
import KE.KDictZip
import PyProof.FactsAll.object_2
import HandS.ExcInit
import HandS.WordsExc
import HandS.IsInst
import HandS.Text
import PyProof.StrOps2
import PyProof.ReprRoads
import KE.KRevSl
import HandS.WordsDict
import HandS.TryMany
import HandS.ExcIs
import HandS.ExcField
import HandS.Lambda
import KE.KExcIs
import KE.KExcInit
import PyProof.ExcBaseAll.LookupError
import PyProof.InstStoreFacts
import HandS.Gcd
import HandS.Deep
import HandS.Wide
import HandS.EndTab
import HandS.SortKw
import KE.DatumOrd
import KE.KNestM
import PySem.Challenge.RW_allsorts_k10_values_looked_at
set_option Elab.async false
set_option linter.all false
set_option maxRecDepth 100000
set_option maxHeartbeats 4000000
namespace DL
open PySem PySem.Spec PyProof.Rows L2

inductive Dat where
  | non | bl (b : Bool) | int (i : Int) | str (x : Str) | tup (xs : List Dat) | lst (xs : List Dat) | dic (ks : List Key) (vs : List Dat) | anl

/-! ### what a value stands for -/
def WrT (K : PySem.W.Frag) (a : Addr) (xs : List V) : Prop := ∃ (o : Obj) (its : Array Value) (n : Nat), K.lookup a = some o ∧ o.cls = .type "tuple" ∧ o.data = .seq its n ∧ its.size ≤ sizeLine ∧ Vals xs its.toList
def WrL (K : PySem.W.Frag) (a : Addr) (xs : List V) : Prop := ∃ (o : Obj) (its : Array Value) (n : Nat), K.lookup a = some o ∧ o.cls = .type "list" ∧ o.dict = none ∧ o.data = .seq its n ∧ its.size ≤ sizeLine ∧ Vals xs its.toList
mutual
def Dv (K : PySem.W.Frag) (S : Addr → Prop) (H : Hp) : Dat → V → Prop
  | .non, v => v = .non
  | .bl b, v => v = .bl b
  | .int i, v => v = .int i
  | .str x, v => v = .str x
  | .tup ds, v => ∃ a xs, v = .ref a ∧ ((¬ S a ∧ H a = some (.tup xs)) ∨ WrT K a xs) ∧ DvL K S H ds xs
  | .lst ds, v => ∃ a xs, v = .ref a ∧ ¬ S a ∧ H a = some (.lst xs) ∧ DvL K S H ds xs
  | .dic ks ds, v => ∃ a kvs, v = .ref a ∧ ¬ S a ∧ H a = some (.dK kvs) ∧ kvs.map (·.1) = ks ∧ DvL K S H ds (kvs.map (·.2))
  | .anl, v => ∃ a xs, v = .ref a ∧ ¬ S a ∧ H a = some (.lst xs)
def DvL (K : PySem.W.Frag) (S : Addr → Prop) (H : Hp) : List Dat → List V → Prop
  | [], vs => vs = []
  | d :: ds, vs => ∃ v r, vs = v :: r ∧ Dv K S H d v ∧ DvL K S H ds r
end
section
variable {K : PySem.W.Frag} {S S' : Addr → Prop} {H H' : Hp}
theorem sqT_of {a : Addr} {xs : List V} (h : (¬ S a ∧ H a = some (.tup xs)) ∨ WrT K a xs) : SqT K H a xs := by
  rcases h with ⟨_, h⟩ | h
  · exact .inl (.inl h)
  · exact .inr h
mutual
theorem Dv.move (h : ∀ a o, ¬ S a → H a = some o → ¬ S' a ∧ H' a = some o) : ∀ (d : Dat) (v : V), Dv K S H d v → Dv K S' H' d v
  | .non, _, e => e
  | .bl _, _, e => e
  | .int _, _, e => e
  | .str _, _, e => e
  | .tup ds, v, e => by
    obtain ⟨a, xs, rfl, h1, h2⟩ := (e : ∃ a xs, v = .ref a ∧ ((¬ S a ∧ H a = some (.tup xs)) ∨ WrT K a xs) ∧ DvL K S H ds xs)
    refine ⟨a, xs, rfl, ?_, DvL.move h ds xs h2⟩
    rcases h1 with ⟨n, e⟩ | e
    · exact .inl (h a _ n e)
    · exact .inr e
  | .lst ds, v, e => by
    obtain ⟨a, xs, rfl, n, h1, h2⟩ := (e : ∃ a xs, v = .ref a ∧ ¬ S a ∧ H a = some (.lst xs) ∧ DvL K S H ds xs)
    exact ⟨a, xs, rfl, (h a _ n h1).1, (h a _ n h1).2, DvL.move h ds xs h2⟩
  | .dic ks ds, v, e => by
    obtain ⟨a, kvs, rfl, n, h1, hk, h2⟩ := (e : ∃ a kvs, v = .ref a ∧ ¬ S a ∧ H a = some (.dK kvs) ∧ kvs.map (·.1) = ks ∧ DvL K S H ds (kvs.map (·.2)))
    exact ⟨a, kvs, rfl, (h a _ n h1).1, (h a _ n h1).2, hk, DvL.move h ds _ h2⟩
  | .anl, v, e => by
    obtain ⟨a, xs, rfl, n, h1⟩ := (e : ∃ a xs, v = .ref a ∧ ¬ S a ∧ H a = some (.lst xs))
    exact ⟨a, xs, rfl, (h a _ n h1).1, (h a _ n h1).2⟩
theorem DvL.move (h : ∀ a o, ¬ S a → H a = some o → ¬ S' a ∧ H' a = some o) : ∀ (ds : List Dat) (vs : List V), DvL K S H ds vs → DvL K S' H' ds vs
  | [], _, e => e
  | d :: ds, vs, e => by
    obtain ⟨v, r, rfl, h1, h2⟩ := (e : ∃ v r, vs = v :: r ∧ Dv K S H d v ∧ DvL K S H ds r)
    exact ⟨v, r, rfl, Dv.move h d v h1, DvL.move h ds r h2⟩
end
theorem DvL.len : ∀ {ds : List Dat} {vs : List V}, DvL K S H ds vs → vs.length = ds.length
  | [], _, e => by cases (e : _ = []); rfl
  | d :: ds, vs, e => by
    obtain ⟨v, r, rfl, _, h2⟩ := (e : ∃ v r, vs = v :: r ∧ Dv K S H d v ∧ DvL K S H ds r)
    simp [h2.len]
theorem DvL.get : ∀ {ds : List Dat} {vs : List V} {i : Nat} {d : Dat}, DvL K S H ds vs → ds[i]? = some d → ∃ v, vs[i]? = some v ∧ Dv K S H d v
  | [], _, _, _, _, h => by simp at h
  | d :: ds, vs, 0, d', e, h => by
    obtain ⟨v, r, rfl, h1, _⟩ := (e : ∃ v r, vs = v :: r ∧ Dv K S H d v ∧ DvL K S H ds r)
    simp at h; subst h
    exact ⟨v, rfl, h1⟩
  | d :: ds, vs, i + 1, d', e, h => by
    obtain ⟨v, r, rfl, _, h2⟩ := (e : ∃ v r, vs = v :: r ∧ Dv K S H d v ∧ DvL K S H ds r)
    simpa using DvL.get h2 (by simpa using h)
theorem DvL.getV : ∀ {ds : List Dat} {vs : List V} {i : Nat} {v : V}, DvL K S H ds vs → vs[i]? = some v → ∃ d, ds[i]? = some d ∧ Dv K S H d v
  | [], _, _, _, e, h => by cases (e : _ = []); simp at h
  | d :: ds, vs, 0, v', e, h => by
    obtain ⟨v, r, rfl, h1, _⟩ := (e : ∃ v r, vs = v :: r ∧ Dv K S H d v ∧ DvL K S H ds r)
    simp at h; subst h
    exact ⟨d, rfl, h1⟩
  | d :: ds, vs, i + 1, v', e, h => by
    obtain ⟨v, r, rfl, _, h2⟩ := (e : ∃ v r, vs = v :: r ∧ Dv K S H d v ∧ DvL K S H ds r)
    simpa using DvL.getV h2 (by simpa using h)
theorem DvL.append : ∀ {ds es : List Dat} {vs us : List V}, DvL K S H ds vs → DvL K S H es us → DvL K S H (ds ++ es) (vs ++ us)
  | [], _, _, _, e, h => by cases (e : _ = []); exact h
  | d :: ds, es, vs, us, e, h => by
    obtain ⟨v, r, rfl, h1, h2⟩ := (e : ∃ v r, vs = v :: r ∧ Dv K S H d v ∧ DvL K S H ds r)
    exact ⟨v, r ++ us, rfl, h1, h2.append h⟩
theorem DvL.take : ∀ {ds : List Dat} {vs : List V} (n : Nat), DvL K S H ds vs → DvL K S H (ds.take n) (vs.take n)
  | _, _, 0, _ => rfl
  | [], _, _ + 1, e => by cases (e : _ = []); rfl
  | d :: ds, vs, n + 1, e => by
    obtain ⟨v, r, rfl, h1, h2⟩ := (e : ∃ v r, vs = v :: r ∧ Dv K S H d v ∧ DvL K S H ds r)
    exact ⟨v, r.take n, rfl, h1, h2.take n⟩
theorem DvL.drop : ∀ {ds : List Dat} {vs : List V} (n : Nat), DvL K S H ds vs → DvL K S H (ds.drop n) (vs.drop n)
  | _, _, 0, h => h
  | [], _, _ + 1, e => by cases (e : _ = []); rfl
  | d :: ds, vs, n + 1, e => by
    obtain ⟨v, r, rfl, h1, h2⟩ := (e : ∃ v r, vs = v :: r ∧ Dv K S H d v ∧ DvL K S H ds r)
    exact h2.drop n
theorem DvL.strs : ∀ {zs : List Str} {vs : List V}, DvL K S H (zs.map Dat.str) vs → vs = zs.map V.str
  | [], _, e => e
  | z :: zs, vs, e => by
    obtain ⟨v, r, rfl, h1, h2⟩ := (e : ∃ v r, vs = v :: r ∧ Dv K S H (.str z) v ∧ DvL K S H (zs.map Dat.str) r)
    rw [h2.strs, (h1 : v = .str z)]; rfl
theorem DvL.of_strs : ∀ (zs : List Str), DvL K S H (zs.map Dat.str) (zs.map V.str)
  | [] => rfl
  | z :: zs => ⟨_, _, rfl, rfl, DvL.of_strs zs⟩
end

/-! ### what a slot stands for; where one stands -/
inductive Slot where
  | un | d (x : Dat) | raw (v : V) | own (xs : List Dat) | ownd (ks : List Key) (xs : List Dat) | ownt (ks : List (List Key)) (xs : List Dat) | ownp (p : Addr) (xs : List Dat) | scr (ns : List Int)
def Slot.isOwn : Slot → Bool
  | .own _ => true
  | .ownd _ _ => true
  | .ownt _ _ => true
  | .ownp _ _ => true
  | _ => false
/-- a list of ints that is read alone: tracked or locked, or the module's -/
def ScrOk (K : PySem.W.Frag) (S : Addr → Prop) (H : Hp) (ns : List Int) (v : V) : Prop := ∃ a, v = .ref a ∧ ((¬ S a ∧ Rd H a (.lst (ns.map V.int))) ∨ WrL K a (ns.map V.int))
theorem ScrOk.move {K : PySem.W.Frag} {S S' : Addr → Prop} {H H' : Hp} {ns : List Int} {v : V} (q : ScrOk K S H ns v) (h : ∀ a o, ¬ S a → H a = some o → ¬ S' a ∧ H' a = some o) : ScrOk K S' H' ns v := by
  obtain ⟨a, rfl, ⟨n, e⟩ | e⟩ := q
  · refine ⟨a, rfl, .inl ?_⟩
    rcases e with e | ⟨o, e⟩
    · exact ⟨(h a _ n e).1, .inl (h a _ n e).2⟩
    · exact ⟨(h a _ n e).1, .inr ⟨o, (h a _ n e).2⟩⟩
  · exact ⟨a, rfl, .inr e⟩
theorem ScrOk.sq {K : PySem.W.Frag} {S : Addr → Prop} {H : Hp} {ns : List Int} {a : Addr} (q : ScrOk K S H ns (.ref a)) : SqL K H a (ns.map V.int) := by
  obtain ⟨b, e, ⟨n, h⟩ | h⟩ := q
  · cases e; exact .inl h
  · cases e; exact .inr h
def SlotOk (K : PySem.W.Frag) (S : Addr → Prop) (H0 H : Hp) : Option V → Slot → Prop
  | _, .un => True
  | some v, .d x => Dv K S H x v
  | some v, .raw w => v = w
  | some v, .scr ns => ScrOk K S H ns v
  | some v, .own ds => ∃ a xs, v = .ref a ∧ S a ∧ H0 a = none ∧ H a = some (.lst xs) ∧ DvL K S H ds xs
  | some v, .ownd ks ds => ∃ a kvs, v = .ref a ∧ S a ∧ H0 a = none ∧ H a = some (.dK kvs) ∧ kvs.map (·.1) = ks ∧ DvL K S H ds (kvs.map (·.2))
  | some v, .ownt ks ds => ∃ a kvs, v = .ref a ∧ S a ∧ H0 a = none ∧ H a = some (.dT kvs) ∧ kvs.map (·.1) = ks ∧ DvL K S H ds (kvs.map (·.2))
  | some v, .ownp pp ds => ∃ a xs, (v = .ref a ∧ a = pp) ∧ S a ∧ H0 a = none ∧ H a = some (.lst xs) ∧ DvL K S H ds xs
  | none, _ => False
abbrev Exc := Addr × List (Str × Dat)
/-- what is known by its own words stays -/
abbrev KeepX (H H' : Hp) : Prop := ∀ (a : Addr) (φ : Heap → Prop), H a = some (.ext φ) → H' a = some (.ext φ)
theorem keepX_upd {H : Hp} {p : Addr} {o : HO} (h : ∀ φ, H p ≠ some (.ext φ)) : KeepX H (upd H p o) := fun a φ e => by rw [upd_ne (fun z => h φ (by rw [← z]; exact e))]; exact e
structure Ctx where
  X : Cx
  H0 : Hp
  S0 : Addr → Prop
  W : Hp → Prop
  clo : ∀ H H', W H → (∀ a o o0, H0 a = some o0 → H a = some o → H' a = some o) → KeepX H H' → W H'
  top : ∀ H, W H → ∀ a o, H0 a = some o → ∃ o', H a = some o'
  s0 : ∀ a, S0 a → ∃ o, H0 a = some o
  E : XK
  EX : Exc → Prop
  elink : ∀ (C d : Addr) (fs : List (Str × V)) (ds : List (Str × Dat)) (H : Hp), EX (C, ds) → W H → H d = some (.xd fs) → fs.map (·.1) = ds.map (·.1) → DvL X.K S0 H (ds.map (·.2)) (fs.map (·.2)) → H0 d = none → E (.ref C) (some d) H
structure Gd (G : Ctx) (S : Addr → Prop) (σ : L2.St) (H : Hp) (ρ : List Slot) : Prop where
  wld : G.W H
  all : ∀ a, S a → ∃ o, H a = some o
  sub : ∀ a, G.S0 a → S a
  len : σ.length = ρ.length
  slots : ∀ (i : Nat) (s : Slot), ρ[i]? = some s → SlotOk G.X.K S G.H0 H (σ[i]?.join) s
  apart : ∀ (i j : Nat) (si sj : Slot) (v : V), ρ[i]? = some si → ρ[j]? = some sj → si.isOwn = true → sj.isOwn = true → σ[i]? = some (some v) → σ[j]? = some (some v) → i = j
structure Stp (G : Ctx) (H H' : Hp) : Prop where
  wld : G.W H'
  keep : ∀ a o, ¬ G.S0 a → H a = some o → H' a = some o
  has : ∀ a o, H a = some o → ∃ o', H' a = some o'
section
variable {G : Ctx} {S : Addr → Prop} {σ : L2.St} {H H' H2 : Hp} {ρ : List Slot}
theorem Stp.fr (st : Stp G H H') (g : Gd G S σ H ρ) : ∀ a o, ¬ S a → H a = some o → ¬ S a ∧ H' a = some o := fun a o n e => ⟨n, st.keep a o (fun z => n (g.sub a z)) e⟩
theorem Stp.refl (h : G.W H) : Stp G H H := ⟨h, fun _ _ _ e => e, fun _ o e => ⟨o, e⟩⟩
theorem Stp.trans (a : Stp G H H') (b : Stp G H' H2) : Stp G H H2 := ⟨b.wld, fun c o n e => b.keep c o n (a.keep c o n e), fun c o e => by
  obtain ⟨o', e'⟩ := a.has c o e
  exact b.has c o' e'⟩
theorem Stp.ex (h : G.W H) (e : Evl.Ex H H') : Stp G H H' := ⟨G.clo H H' h (fun a o _ _ q => e a o q) (fun a _ q => e a _ q), fun a o _ q => e a o q, fun a o q => ⟨o, e a o q⟩⟩
theorem Stp.new (h : G.W H) {p : Addr} {o : HO} (n : H p = none) : Stp G H (upd H p o) := Stp.ex h (Evl.Ex.new n)
theorem Gd.fresh0 (g : Gd G S σ H ρ) {p : Addr} (n : H p = none) : G.H0 p = none := by
  cases q : G.H0 p with
  | none => rfl
  | some o =>
    obtain ⟨o', e⟩ := G.top H g.wld p o q
    rw [n] at e; cases e
theorem Gd.fresh (g : Gd G S σ H ρ) {p : Addr} (n : H p = none) : ¬ S p := fun h => by
  obtain ⟨o, e⟩ := g.all p h
  rw [n] at e; cases e
theorem Stp.dv (st : Stp G H H') (g : Gd G S σ H ρ) {d : Dat} {v : V} (h : Dv G.X.K S H d v) : Dv G.X.K S H' d v := h.move fun a o n e => ⟨n, st.keep a o (fun z => n (g.sub a z)) e⟩
theorem Stp.dvl (st : Stp G H H') (g : Gd G S σ H ρ) {d : List Dat} {v : List V} (h : DvL G.X.K S H d v) : DvL G.X.K S H' d v := h.move fun a o n e => ⟨n, st.keep a o (fun z => n (g.sub a z)) e⟩
theorem Gd.step (g : Gd G S σ H ρ) (st : Stp G H H') : Gd G S σ H' ρ := by
  refine ⟨st.wld, fun a h => ?_, g.sub, g.len, fun i s hs => ?_, g.apart⟩
  · obtain ⟨o, e⟩ := g.all a h
    exact st.has a o e
  · have q := g.slots i s hs
    have ns : ∀ a, G.H0 a = none → ¬ G.S0 a := fun a n z => by
      obtain ⟨o, e⟩ := G.s0 a z
      rw [n] at e; cases e
    cases s with
    | un => exact trivial
    | d x =>
      cases e : σ[i]?.join with
      | none => rw [e] at q; exact q.elim
      | some v => rw [e] at q; exact st.dv g (show Dv G.X.K S H x v from q)
    | raw w =>
      cases e : σ[i]?.join with
      | none => rw [e] at q; exact q.elim
      | some v => rw [e] at q; exact q
    | scr ns =>
      cases e : σ[i]?.join with
      | none => rw [e] at q; exact q.elim
      | some v => rw [e] at q; exact ScrOk.move q fun a o n e => ⟨n, st.keep a o (fun z => n (g.sub a z)) e⟩
    | own ds =>
      cases e : σ[i]?.join with
      | none => rw [e] at q; exact q.elim
      | some v =>
        rw [e] at q
        obtain ⟨a, xs, e1, e2, e3, e4, e5⟩ := (q : ∃ a xs, v = .ref a ∧ S a ∧ G.H0 a = none ∧ H a = some (.lst xs) ∧ DvL G.X.K S H ds xs)
        exact ⟨a, xs, e1, e2, e3, st.keep a _ (ns a e3) e4, st.dvl g e5⟩
    | ownp pp ds =>
      cases e : σ[i]?.join with
      | none => rw [e] at q; exact q.elim
      | some v =>
        rw [e] at q
        obtain ⟨a, xs, ⟨e1, epp⟩, e2, e3, e4, e5⟩ := (q : ∃ a xs, (v = .ref a ∧ a = pp) ∧ S a ∧ G.H0 a = none ∧ H a = some (.lst xs) ∧ DvL G.X.K S H ds xs)
        exact ⟨a, xs, ⟨e1, epp⟩, e2, e3, st.keep a _ (ns a e3) e4, st.dvl g e5⟩
    | ownd ks ds =>
      cases e : σ[i]?.join with
      | none => rw [e] at q; exact q.elim
      | some v =>
        rw [e] at q
        obtain ⟨a, xs, e1, e2, e3, e4, e6, e5⟩ := (q : ∃ a kvs, v = .ref a ∧ S a ∧ G.H0 a = none ∧ H a = some (.dK kvs) ∧ kvs.map (·.1) = ks ∧ DvL G.X.K S H ds (kvs.map (·.2)))
        exact ⟨a, xs, e1, e2, e3, st.keep a _ (ns a e3) e4, e6, st.dvl g e5⟩
    | ownt ks ds =>
      cases e : σ[i]?.join with
      | none => rw [e] at q; exact q.elim
      | some v =>
        rw [e] at q
        obtain ⟨a, xs, e1, e2, e3, e4, e6, e5⟩ := (q : ∃ a kvs, v = .ref a ∧ S a ∧ G.H0 a = none ∧ H a = some (.dT kvs) ∧ kvs.map (·.1) = ks ∧ DvL G.X.K S H ds (kvs.map (·.2)))
        exact ⟨a, xs, e1, e2, e3, st.keep a _ (ns a e3) e4, e6, st.dvl g e5⟩
end

/-! ### the judgements -/
abbrev FE := List Slot → (Dat → Prop) → Prop
abbrev FT := List Slot → (Bool → Prop) → Prop
abbrev FA := List Slot → (List Dat → Prop) → Prop
structure DEnds where
  nx : List Slot → Prop
  rt : Dat → Prop
  bk : List Slot → Prop := fun _ => False
  ct : List Slot → Prop := fun _ => False
abbrev FS := DEnds → List Slot → Prop
def LiftE (G : Ctx) (t : TE) (F : FE) : Prop := ∀ S σ H ρ P (Q : VK), Gd G S σ H ρ → F ρ P → (∀ v d H', Stp G H H' → Dv G.X.K S H' d v → P d → Q v H') → t σ H Q
def LiftT (G : Ctx) (t : TT) (F : FT) : Prop := ∀ S σ H ρ P (Q : Bool → Hp → Prop), Gd G S σ H ρ → F ρ P → (∀ b H', Stp G H H' → P b → Q b H') → t σ H Q
def LiftA (G : Ctx) (t : TA) (F : FA) : Prop := ∀ S σ H ρ P (Q : List V → Hp → Prop), Gd G S σ H ρ → F ρ P → (∀ vs ds H', Stp G H H' → DvL G.X.K S H' ds vs → P ds → Q vs H') → t σ H Q
/-- what stood outside the scratch stands there still -/
def Fr (S : Addr → Prop) (H : Hp) (S' : Addr → Prop) (H' : Hp) : Prop := ∀ a o, ¬ S a → H a = some o → ¬ S' a ∧ H' a = some o
theorem Fr.refl (S : Addr → Prop) (H : Hp) : Fr S H S H := fun _ _ n e => ⟨n, e⟩
theorem Fr.trans {S S' S2 : Addr → Prop} {H H' H2 : Hp} (a : Fr S H S' H') (b : Fr S' H' S2 H2) : Fr S H S2 H2 := fun c o n e => b c o (a c o n e).1 (a c o n e).2
structure EndsOk (G : Ctx) (S : Addr → Prop) (H : Hp) (D : DEnds) (Dh : Ends) : Prop where
  nx : ∀ S' σ' H' ρ', Gd G S' σ' H' ρ' → Fr S H S' H' → D.nx ρ' → Dh.nx σ' H'
  rt : ∀ v d H', G.W H' → Dv G.X.K G.S0 H' d v → D.rt d → Dh.rt v H'
  bk : ∀ S' σ' H' ρ', Gd G S' σ' H' ρ' → Fr S H S' H' → D.bk ρ' → Dh.bk σ' H'
  ct : ∀ S' σ' H' ρ', Gd G S' σ' H' ρ' → Fr S H S' H' → D.ct ρ' → Dh.ct σ' H'
def LiftS (G : Ctx) (t : TS) (F : FS) : Prop := ∀ S σ H ρ D Dh, Gd G S σ H ρ → F D ρ → EndsOk G S H D Dh → t Dh σ H
structure DE (G : Ctx) (e : Expr) (F : FE) : Prop where
  ex : ∃ t, PE G.X e t ∧ LiftE G t F
structure DT (G : Ctx) (e : Expr) (F : FT) : Prop where
  ex : ∃ t, PT G.X e t ∧ LiftT G t F
structure DW (G : Ctx) (e : Expr) (F : FT) : Prop where
  ex : ∃ t, PW G.X e t ∧ LiftT G t F
structure DA (G : Ctx) (es : List Expr) (F : FA) : Prop where
  ex : ∃ t, PA G.X es t ∧ LiftA G t F
structure DS (G : Ctx) (st : Stmt) (F : FS) : Prop where
  ex : ∃ t, PS G.X st t ∧ LiftS G t F
structure DB (G : Ctx) (st : List Stmt) (F : FS) : Prop where
  ex : ∃ t, PSs G.X st t ∧ LiftS G t F
/-- reading a slot -/
def rd (ρ : List Slot) (i : Nat) (P : Dat → Prop) : Prop := match ρ[i]? with
  | some (.d x) => P x
  | _ => False
theorem rd_inv {ρ : List Slot} {i : Nat} {P : Dat → Prop} (h : rd ρ i P) : ∃ x, ρ[i]? = some (.d x) ∧ P x := by
  unfold rd at h
  split at h
  · rename_i x e; exact ⟨x, e, h⟩
  · exact h.elim
theorem Gd.slot_d {G : Ctx} {S : Addr → Prop} {σ : L2.St} {H : Hp} {ρ : List Slot} (g : Gd G S σ H ρ) {i : Nat} {x : Dat} (h : ρ[i]? = some (.d x)) : ∃ v, σ[i]? = some (some v) ∧ Dv G.X.K S H x v := by
  have q := g.slots i _ h
  cases e : σ[i]? with
  | none => rw [e] at q; exact q.elim
  | some o =>
    cases o with
    | none => rw [e] at q; exact q.elim
    | some v => rw [e] at q; exact ⟨v, rfl, q⟩
theorem Gd.slot_own {G : Ctx} {S : Addr → Prop} {σ : L2.St} {H : Hp} {ρ : List Slot} (g : Gd G S σ H ρ) {i : Nat} {ds : List Dat} (h : ρ[i]? = some (.own ds)) :
    ∃ a xs, σ[i]? = some (some (.ref a)) ∧ S a ∧ G.H0 a = none ∧ H a = some (.lst xs) ∧ DvL G.X.K S H ds xs := by
  have q := g.slots i _ h
  cases e : σ[i]? with
  | none => rw [e] at q; exact q.elim
  | some o =>
    cases o with
    | none => rw [e] at q; exact q.elim
    | some v =>
      rw [e] at q
      obtain ⟨a, xs, rfl, r⟩ := (q : ∃ a xs, v = .ref a ∧ S a ∧ G.H0 a = none ∧ H a = some (.lst xs) ∧ DvL G.X.K S H ds xs)
      exact ⟨a, xs, rfl, r⟩
section
variable {G : Ctx} {pos : Pos}
theorem de_var {x : Str} (i : Nat) (hN : G.X.N[i]? = some x := by rfl) (hv : Vis G.X.env.scope x := by first | exact Or.inl rfl | exact Or.inr (Or.inl rfl) | exact Or.inr (Or.inr rfl)) (hd : (x == ("__debug__" : Str)) = false := by decide)
    (hcd : (x == ("__classdict__" : Str)) = false := by decide) : DE G (.Name x pos) (fun ρ P => rd ρ i P) :=
  ⟨⟨_, pe_var hN hv hd hcd, fun S σ H ρ P Q g h q => by
    obtain ⟨x, e, hp⟩ := rd_inv h
    obtain ⟨v, e1, e2⟩ := g.slot_d e
    exact ⟨v, e1, q v x H (Stp.refl g.wld) e2 hp⟩⟩⟩
theorem de_int {i j} : DE G (.Constant (.int i) j pos) (fun _ P => P (.int i)) := ⟨⟨_, pe_int, fun _ _ H _ _ _ g h q => q _ (.int i) H (Stp.refl g.wld) rfl h⟩⟩
theorem de_str {i j} : DE G (.Constant (.str i) j pos) (fun _ P => P (.str i)) := ⟨⟨_, pe_str, fun _ _ H _ _ _ g h q => q _ (.str i) H (Stp.refl g.wld) rfl h⟩⟩
theorem de_bl {i j} : DE G (.Constant (.bool i) j pos) (fun _ P => P (.bl i)) := ⟨⟨_, pe_bl, fun _ _ H _ _ _ g h q => q _ (.bl i) H (Stp.refl g.wld) rfl h⟩⟩
theorem de_non {j} : DE G (.Constant .none j pos) (fun _ P => P .non) := ⟨⟨_, pe_non, fun _ _ H _ _ _ g h q => q _ .non H (Stp.refl g.wld) rfl h⟩⟩
/-- a module's constant -/
theorem de_glob {x : Str} {d : Dat} {v : V} {u : Value} (hg : Gl G.X x) (hm : G.X.mg x = some u) (r : RelV v u) (hv : ∀ S H, Dv G.X.K S H d v) (hd : (x == ("__debug__" : Str)) = false := by decide) : DE G (.Name x pos) (fun _ P => P d) :=
  ⟨⟨_, pe_glob hg hm r hd, fun _ _ H _ _ _ g h q => q _ _ H (Stp.refl g.wld) (hv _ _) h⟩⟩
theorem da_nil : DA G [] (fun _ P => P []) := ⟨⟨_, pa_nil, fun _ _ H _ _ _ g h q => q [] [] H (Stp.refl g.wld) rfl h⟩⟩
theorem da_cons {e : Expr} {es : List Expr} {F : FE} {Fs : FA} (ha : DE G e F) (hr : DA G es Fs) (hs : starEach (e :: es) G.X.env = (false, eval e G.X.env) :: starEach es G.X.env := by rfl) :
    DA G (e :: es) (fun ρ P => F ρ fun x => Fs ρ fun xs => P (x :: xs)) := by
  obtain ⟨t, h1, l1⟩ := ha.ex
  obtain ⟨u, h2, l2⟩ := hr.ex
  refine ⟨⟨_, pa_cons h1 h2 hs, fun S σ H ρ P Q g h q => ?_⟩⟩
  refine l1 S σ H ρ _ _ g h fun v d H1 st hv h' => ?_
  refine l2 S σ H1 ρ _ _ (g.step st) h' fun vs ds H2 st2 hvs hp => ?_
  exact q _ (d :: ds) H2 (st.trans st2) ⟨v, vs, rfl, st2.dv (g.step st) hv, hvs⟩ hp
theorem de_tup {es : List Expr} {Fs : FA} {k} (h : DA G es Fs) : DE G (.Tuple es k pos) (fun ρ P => Fs ρ fun xs => xs.length ≤ sizeLine ∧ P (.tup xs)) := by
  obtain ⟨t, h1, l1⟩ := h.ex
  refine ⟨⟨_, pe_tup h1, fun S σ H ρ P Q g h q => ?_⟩⟩
  refine l1 S σ H ρ _ _ g h fun vs ds H1 st hv ⟨hl, hp⟩ => ⟨by rw [hv.len]; exact hl, fun p np => ?_⟩
  have g1 := g.step st
  have st2 : Stp G H1 (upd H1 p (.tup vs)) := Stp.new g1.wld np
  exact q _ (.tup ds) _ (st.trans st2) ⟨p, vs, rfl, .inl ⟨g1.fresh np, upd_same⟩, st2.dvl g1 hv⟩ hp
theorem de_lst {es : List Expr} {Fs : FA} (h : DA G es Fs) : DE G (.List es pos) (fun ρ P => Fs ρ fun xs => xs.length ≤ sizeLine ∧ P (.lst xs)) := by
  obtain ⟨t, h1, l1⟩ := h.ex
  refine ⟨⟨_, pe_lst h1, fun S σ H ρ P Q g h q => ?_⟩⟩
  refine l1 S σ H ρ _ _ g h fun vs ds H1 st hv ⟨hl, hp⟩ => ⟨by rw [hv.len]; exact hl, fun p np => ?_⟩
  have g1 := g.step st
  have st2 : Stp G H1 (upd H1 p (.lst vs)) := Stp.new g1.wld np
  exact q _ (.lst ds) _ (st.trans st2) ⟨p, vs, rfl, g1.fresh np, upd_same, st2.dvl g1 hv⟩ hp

/-! ### two-place operations by what their values stand for -/
abbrev R2D := Dat → Dat → (Dat → Prop) → Prop
/-- r serves D -/
def Serves (G : Ctx) (r : R2) (D : R2D) : Prop := ∀ S σ ρ H x y dx dy P (Q : VK), Gd G S σ H ρ → Dv G.X.K S H dx x → Dv G.X.K S H dy y → D dx dy P → (∀ v d H', Stp G H H' → Dv G.X.K S H' d v → P d → Q v H') → r x y H Q
theorem lift_op {r : R2} {D : R2D} {ta tb : TE} {Fa Fb : FE} (hr : Serves G r D) (la : LiftE G ta Fa) (lb : LiftE G tb Fb) : LiftE G (tOp r ta tb) (fun ρ P => Fa ρ fun x => Fb ρ fun y => D x y P) := by
  intro S σ H ρ P Q g h q
  refine la S σ H ρ _ _ g h fun v d H1 st hv h' => ?_
  refine lb S σ H1 ρ _ _ (g.step st) h' fun v2 d2 H2 st2 hv2 hp => ?_
  exact hr S σ ρ H2 v v2 d d2 P Q ((g.step st).step st2) (st2.dv (g.step st) hv) hv2 hp fun v3 d3 H3 st3 => q v3 d3 H3 ((st.trans st2).trans st3)
theorem de_bin {op : Operator} {r : R2} {D : R2D} {a b : Expr} {Fa Fb : FE} (ho : OpR G.X (binaryOp op) r) (hr : Serves G r D) (ha : DE G a Fa) (hb : DE G b Fb) : DE G (.BinOp a op b pos) (fun ρ P => Fa ρ fun x => Fb ρ fun y => D x y P) := by
  obtain ⟨ta, h1, l1⟩ := ha.ex
  obtain ⟨tb, h2, l2⟩ := hb.ex
  exact ⟨⟨_, pe_op ho h1 h2, lift_op hr l1 l2⟩⟩
theorem de_cmp {op : CmpOp} {r : R2} {D : R2D} {a b : Expr} {Fa Fb : FE} (ho : OpR G.X (compareOp op) r) (hr : Serves G r D) (ha : DE G a Fa) (hb : DE G b Fb) (hm : behindInMarks op b = false := by first | exact nobehind _ (by decide) (by decide) | rfl) : DE G (.Compare a [op] [b] pos) (fun ρ P => Fa ρ fun x => Fb ρ fun y => D x y P) := by
  obtain ⟨ta, h1, l1⟩ := ha.ex
  obtain ⟨tb, h2, l2⟩ := hb.ex
  exact ⟨⟨_, pe_cmpR ho h1 h2 hm, lift_op hr l1 l2⟩⟩
/-- a value that is a bool, as a test -/
def isB (d : Dat) (P : Bool → Prop) : Prop := match d with
  | .bl b => P b
  | _ => False
theorem isB_inv {d : Dat} {P : Bool → Prop} (h : isB d P) : ∃ b, d = .bl b ∧ P b := by
  unfold isB at h
  split at h
  · exact ⟨_, rfl, h⟩
  · exact h.elim
theorem dt_val {e : Expr} {F : FE} (h : DE G e F) (he : ∀ whole, isTrue e G.X.env whole = (do let v ← whole; standAt e.pos; holding [v] (truthy v)) := by intro _; rfl) : DT G e (fun ρ P => F ρ fun x => isB x P) := by
  obtain ⟨t, h1, l1⟩ := h.ex
  refine ⟨⟨_, pt_val h1 he, fun S σ H ρ P Q g h q => ?_⟩⟩
  refine l1 S σ H ρ _ _ g h fun v d H1 st hv hp => ?_
  obtain ⟨b, rfl, hp⟩ := isB_inv hp
  exact ⟨b, hv, q b H1 st hp⟩
theorem dt_cmp {op : CmpOp} {r : R2} {D : R2D} {a b : Expr} {Fa Fb : FE} (ho : OpR G.X (compareOp op) r) (hr : Serves G r D) (ha : DE G a Fa) (hb : DE G b Fb) (hm : behindInMarks op b = false := by first | exact nobehind _ (by decide) (by decide) | rfl) : DT G (.Compare a [op] [b] pos) (fun ρ P => Fa ρ fun x => Fb ρ fun y => D x y fun z => isB z P) := by
  obtain ⟨ta, h1, l1⟩ := ha.ex
  obtain ⟨tb, h2, l2⟩ := hb.ex
  refine ⟨⟨_, pt_cmpR ho h1 h2 hm, fun S σ H ρ P Q g h q => ?_⟩⟩
  refine lift_op hr l1 l2 S σ H ρ _ _ g h fun v d H1 st hv hp => ?_
  obtain ⟨b, rfl, hp⟩ := isB_inv hp
  exact ⟨b, hv, q b H1 st hp⟩
/-! ### and, or, not, if -/
variable {a b c : Expr} {rest : List Expr}
theorem dw_and1 {F : FT} (ha : DT G a F) : DW G (.BoolOp .And [a] pos) F := by
  obtain ⟨t, h, l⟩ := ha.ex
  exact ⟨⟨_, pw_and1 h, l⟩⟩
theorem dw_or1 {F : FT} (ha : DT G a F) : DW G (.BoolOp .Or [a] pos) F := by
  obtain ⟨t, h, l⟩ := ha.ex
  exact ⟨⟨_, pw_or1 h, l⟩⟩
theorem dw_and {F F' : FT} (ha : DT G a F) (hb : DW G (.BoolOp .And (b :: rest) pos) F') : DW G (.BoolOp .And (a :: b :: rest) pos) (fun ρ P => F ρ fun c => if c = true then F' ρ P else P false) := by
  obtain ⟨t, h, l⟩ := ha.ex
  obtain ⟨u, h2, l2⟩ := hb.ex
  refine ⟨⟨_, pw_and h h2, fun S σ H ρ P Q g h q => ?_⟩⟩
  refine l S σ H ρ _ _ g h fun b H1 st hp => ?_
  cases b with
  | true => exact l2 S σ H1 ρ _ _ (g.step st) hp fun b H2 st2 => q b H2 (st.trans st2)
  | false => exact q false H1 st hp
theorem dw_or {F F' : FT} (ha : DT G a F) (hb : DW G (.BoolOp .Or (b :: rest) pos) F') : DW G (.BoolOp .Or (a :: b :: rest) pos) (fun ρ P => F ρ fun c => if c = true then P true else F' ρ P) := by
  obtain ⟨t, h, l⟩ := ha.ex
  obtain ⟨u, h2, l2⟩ := hb.ex
  refine ⟨⟨_, pw_or h h2, fun S σ H ρ P Q g h q => ?_⟩⟩
  refine l S σ H ρ _ _ g h fun b H1 st hp => ?_
  cases b with
  | false => exact l2 S σ H1 ρ _ _ (g.step st) hp fun b H2 st2 => q b H2 (st.trans st2)
  | true => exact q true H1 st hp
theorem dt_w {F : FT} {e : Expr} (h : DW G e F) : DT G e F := by
  obtain ⟨t, h, l⟩ := h.ex
  exact ⟨⟨_, h.pt, l⟩⟩
theorem dt_not {F : FT} (ha : DT G a F) : DT G (.UnaryOp .Not a pos) (fun ρ P => F ρ fun c => P (!c)) := by
  obtain ⟨t, h, l⟩ := ha.ex
  exact ⟨⟨_, pt_not h, fun S σ H ρ P Q g h q => l S σ H ρ _ _ g h fun b H1 st hp => q (!b) H1 st hp⟩⟩
theorem de_one {op} {F : FE} (ha : DE G a F) : DE G (.BoolOp op [a] pos) F := by
  obtain ⟨t, h, l⟩ := ha.ex
  exact ⟨⟨_, pe_one h, l⟩⟩
theorem de_and {F F' : FE} (ha : DE G a F) (hb : DE G (.BoolOp .And (b :: rest) pos) F') : DE G (.BoolOp .And (a :: b :: rest) pos) (fun ρ P => F ρ fun c => isB c fun c => if c = true then F' ρ P else P (.bl false)) := by
  obtain ⟨t, h, l⟩ := ha.ex
  obtain ⟨u, h2, l2⟩ := hb.ex
  refine ⟨⟨_, pe_and h h2, fun S σ H ρ P Q g h q => ?_⟩⟩
  refine l S σ H ρ _ _ g h fun v d H1 st hv hp => ?_
  obtain ⟨b, rfl, hp⟩ := isB_inv hp
  refine ⟨b, hv, ?_⟩
  cases b with
  | true => exact l2 S σ H1 ρ _ _ (g.step st) hp fun v d H2 st2 => q v d H2 (st.trans st2)
  | false => exact q _ (.bl false) H1 st rfl hp
theorem de_or {F F' : FE} (ha : DE G a F) (hb : DE G (.BoolOp .Or (b :: rest) pos) F') : DE G (.BoolOp .Or (a :: b :: rest) pos) (fun ρ P => F ρ fun c => isB c fun c => if c = true then P (.bl true) else F' ρ P) := by
  obtain ⟨t, h, l⟩ := ha.ex
  obtain ⟨u, h2, l2⟩ := hb.ex
  refine ⟨⟨_, pe_or h h2, fun S σ H ρ P Q g h q => ?_⟩⟩
  refine l S σ H ρ _ _ g h fun v d H1 st hv hp => ?_
  obtain ⟨b, rfl, hp⟩ := isB_inv hp
  refine ⟨b, hv, ?_⟩
  cases b with
  | false => exact l2 S σ H1 ρ _ _ (g.step st) hp fun v d H2 st2 => q v d H2 (st.trans st2)
  | true => exact q _ (.bl true) H1 st rfl hp
theorem de_not {F : FE} (ha : DE G a F) : DE G (.UnaryOp .Not a pos) (fun ρ P => F ρ fun c => isB c fun c => P (.bl (!c))) := by
  obtain ⟨t, h, l⟩ := ha.ex
  refine ⟨⟨_, pe_not h, fun S σ H ρ P Q g h q => ?_⟩⟩
  refine l S σ H ρ _ _ g h fun v d H1 st hv hp => ?_
  obtain ⟨b, rfl, hp⟩ := isB_inv hp
  exact ⟨b, hv, q _ (.bl (!b)) H1 st rfl hp⟩
theorem de_if {Fc : FT} {F F' : FE} (hc : DT G c Fc) (ha : DE G a F) (hb : DE G b F') : DE G (.IfExp c a b pos) (fun ρ P => Fc ρ fun c => if c = true then F ρ P else F' ρ P) := by
  obtain ⟨t0, h0, l0⟩ := hc.ex
  obtain ⟨t, h, l⟩ := ha.ex
  obtain ⟨u, h2, l2⟩ := hb.ex
  refine ⟨⟨_, pe_ifExp h0 h h2, fun S σ H ρ P Q g h q => ?_⟩⟩
  refine l0 S σ H ρ _ _ g h fun b H1 st hp => ?_
  cases b with
  | true => exact l S σ H1 ρ _ _ (g.step st) hp fun v d H2 st2 => q v d H2 (st.trans st2)
  | false => exact l2 S σ H1 ρ _ _ (g.step st) hp fun v d H2 st2 => q v d H2 (st.trans st2)
end
end DL
namespace DL
open PySem PySem.Spec PyProof.Rows L2
section
variable {G : Ctx} {S S' : Addr → Prop} {σ : L2.St} {H H' : Hp} {ρ : List Slot} {pos : Pos}
theorem getset {α : Type} (l : List α) (i j : Nat) (x : α) : (l.set i x)[j]? = if j = i then (if i < l.length then some x else none) else l[j]? := by
  rw [List.getElem?_set]
  by_cases h : i = j
  · subst h; simp
  · rw [if_neg h, if_neg (fun e => h e.symm)]
/-- other slots stay, whatever else comes to be scratch: what the old heap did not know -/
theorem SlotOk.move {K : PySem.W.Frag} {H0 : Hp} {o : Option V} {s : Slot} (q : SlotOk K S H0 H o s) (fr : Fr S H S' H') (sub : ∀ a, S a → S' a) (keep : ∀ a u, s.isOwn = true → o = some (.ref a) → H a = some u → H' a = some u) : SlotOk K S' H0 H' o s := by
  cases s with
  | un => exact trivial
  | d x =>
    cases o with
    | none => exact q.elim
    | some v => exact Dv.move fr x v q
  | raw w =>
    cases o with
    | none => exact q.elim
    | some v => exact q
  | scr ns =>
    cases o with
    | none => exact q.elim
    | some v => exact ScrOk.move q fr
  | own ds =>
    cases o with
    | none => exact q.elim
    | some v =>
      obtain ⟨a, xs, rfl, e2, e3, e4, e5⟩ := (q : ∃ a xs, v = .ref a ∧ S a ∧ H0 a = none ∧ H a = some (.lst xs) ∧ DvL K S H ds xs)
      exact ⟨a, xs, rfl, sub a e2, e3, keep a _ rfl rfl e4, DvL.move fr ds xs e5⟩
  | ownp pp ds =>
    cases o with
    | none => exact q.elim
    | some v =>
      obtain ⟨a, xs, ⟨rfl, epp⟩, e2, e3, e4, e5⟩ := (q : ∃ a xs, (v = .ref a ∧ a = pp) ∧ S a ∧ H0 a = none ∧ H a = some (.lst xs) ∧ DvL K S H ds xs)
      exact ⟨a, xs, ⟨rfl, epp⟩, sub a e2, e3, keep a _ rfl rfl e4, DvL.move fr ds xs e5⟩
  | ownd ks ds =>
    cases o with
    | none => exact q.elim
    | some v =>
      obtain ⟨a, xs, rfl, e2, e3, e4, e6, e5⟩ := (q : ∃ a kvs, v = .ref a ∧ S a ∧ H0 a = none ∧ H a = some (.dK kvs) ∧ kvs.map (·.1) = ks ∧ DvL K S H ds (kvs.map (·.2)))
      exact ⟨a, xs, rfl, sub a e2, e3, keep a _ rfl rfl e4, e6, DvL.move fr ds _ e5⟩
  | ownt ks ds =>
    cases o with
    | none => exact q.elim
    | some v =>
      obtain ⟨a, xs, rfl, e2, e3, e4, e6, e5⟩ := (q : ∃ a kvs, v = .ref a ∧ S a ∧ H0 a = none ∧ H a = some (.dT kvs) ∧ kvs.map (·.1) = ks ∧ DvL K S H ds (kvs.map (·.2)))
      exact ⟨a, xs, rfl, sub a e2, e3, keep a _ rfl rfl e4, e6, DvL.move fr ds _ e5⟩
theorem Gd.set (g : Gd G S σ H ρ) {i : Nat} {d : Dat} {v : V} (h : Dv G.X.K S H d v) : Gd G S (σ.set i (some v)) H (ρ.set i (.d d)) := by
  refine ⟨g.wld, g.all, g.sub, by simp [g.len], fun j s hs => ?_, fun j k sj sk w h1 h2 o1 o2 e1 e2 => ?_⟩
  · rw [getset] at hs
    rw [getset]
    by_cases hj : j = i
    · subst hj
      rw [if_pos rfl] at hs ⊢
      have hl := g.len
      by_cases hi : j < ρ.length
      · rw [if_pos hi] at hs
        cases hs
        rw [if_pos (by omega)]
        exact h
      · rw [if_neg hi] at hs; cases hs
    · rw [if_neg hj] at hs ⊢
      exact g.slots j s hs
  · rw [getset] at h1 h2
    rw [getset] at e1 e2
    by_cases hj : j = i
    · rw [if_pos hj] at h1
      split at h1
      · cases h1; cases o1
      · cases h1
    · by_cases hk : k = i
      · rw [if_pos hk] at h2
        split at h2
        · cases h2; cases o2
        · cases h2
      · rw [if_neg hj] at h1 e1
        rw [if_neg hk] at h2 e2
        exact g.apart j k sj sk w h1 h2 o1 o2 e1 e2
/-- a slot forgotten -/
theorem Gd.wipe (g : Gd G S σ H ρ) {i : Nat} {o : Option V} : Gd G S (σ.set i o) H (ρ.set i .un) := by
  refine ⟨g.wld, g.all, g.sub, by simp [g.len], fun j s hs => ?_, fun j k sj sk w h1 h2 o1 o2 e1 e2 => ?_⟩
  · rw [getset] at hs
    rw [getset]
    by_cases hj : j = i
    · subst hj
      rw [if_pos rfl] at hs
      split at hs
      · cases hs; exact trivial
      · cases hs
    · rw [if_neg hj] at hs ⊢
      exact g.slots j s hs
  · rw [getset] at h1 h2
    rw [getset] at e1 e2
    by_cases hj : j = i
    · rw [if_pos hj] at h1
      split at h1
      · cases h1; cases o1
      · cases h1
    · by_cases hk : k = i
      · rw [if_pos hk] at h2
        split at h2
        · cases h2; cases o2
        · cases h2
      · rw [if_neg hj] at h1 e1
        rw [if_neg hk] at h2 e2
        exact g.apart j k sj sk w h1 h2 o1 o2 e1 e2
/-- the scratch grows by a new address -/
theorem Gd.grow (g : Gd G S σ H ρ) {p : Addr} {o : HO} (np : H p = none) : Gd G (fun a => S a ∨ a = p) σ (upd H p o) ρ ∧ Fr S H (fun a => S a ∨ a = p) (upd H p o) := by
  have fr : Fr S H (fun a => S a ∨ a = p) (upd H p o) := fun a u n e => ⟨fun z => z.elim n (ne_of_none e np), by rw [upd_ne (ne_of_none e np)]; exact e⟩
  have st : Stp G H (upd H p o) := Stp.new g.wld np
  refine ⟨⟨st.wld, fun a h => ?_, fun a h => .inl (g.sub a h), g.len, fun i s hs => (g.slots i s hs).move fr (fun a => .inl) fun a u _ _ e => by rw [upd_ne (ne_of_none e np)]; exact e, g.apart⟩, fr⟩
  rcases h with h | rfl
  · obtain ⟨u, e⟩ := g.all a h
    exact st.has a u e
  · exact ⟨o, upd_same⟩
theorem SlotOk.addr {K : PySem.W.Frag} {H0 : Hp} {o : Option V} {s : Slot} (q : SlotOk K S H0 H o s) (h : s.isOwn = true) : ∃ a u, o = some (.ref a) ∧ S a ∧ H a = some u ∧ H0 a = none := by
  cases s with
  | own ds =>
    cases o with
    | none => exact q.elim
    | some v =>
      obtain ⟨a, xs, rfl, e2, e3, e4, e5⟩ := (q : ∃ a xs, v = .ref a ∧ S a ∧ H0 a = none ∧ H a = some (.lst xs) ∧ DvL K S H ds xs)
      exact ⟨a, _, rfl, e2, e4, e3⟩
  | ownp pp ds =>
    cases o with
    | none => exact q.elim
    | some v =>
      obtain ⟨a, xs, ⟨rfl, epp⟩, e2, e3, e4, e5⟩ := (q : ∃ a xs, (v = .ref a ∧ a = pp) ∧ S a ∧ H0 a = none ∧ H a = some (.lst xs) ∧ DvL K S H ds xs)
      exact ⟨a, _, rfl, e2, e4, e3⟩
  | ownd ks ds =>
    cases o with
    | none => exact q.elim
    | some v =>
      obtain ⟨a, xs, rfl, e2, e3, e4, e6, e5⟩ := (q : ∃ a kvs, v = .ref a ∧ S a ∧ H0 a = none ∧ H a = some (.dK kvs) ∧ kvs.map (·.1) = ks ∧ DvL K S H ds (kvs.map (·.2)))
      exact ⟨a, _, rfl, e2, e4, e3⟩
  | ownt ks ds =>
    cases o with
    | none => exact q.elim
    | some v =>
      obtain ⟨a, xs, rfl, e2, e3, e4, e6, e5⟩ := (q : ∃ a kvs, v = .ref a ∧ S a ∧ H0 a = none ∧ H a = some (.dT kvs) ∧ kvs.map (·.1) = ks ∧ DvL K S H ds (kvs.map (·.2)))
      exact ⟨a, _, rfl, e2, e4, e3⟩
  | un => cases h
  | d _ => cases h
  | raw _ => cases h
  | scr _ => cases h
/-- a slot that owns a new object -/
theorem Gd.setOwn (g : Gd G S σ H ρ) {i : Nat} {s : Slot} {p : Addr} {o : HO} (np : H p = none) (hs : s.isOwn = true) (h : SlotOk G.X.K (fun a => S a ∨ a = p) G.H0 (upd H p o) (some (.ref p)) s) :
    Gd G (fun a => S a ∨ a = p) (σ.set i (some (.ref p))) (upd H p o) (ρ.set i s) := by
  obtain ⟨g1, fr⟩ := g.grow (o := o) np
  have other : ∀ (j : Nat) sj, ρ[j]? = some sj → sj.isOwn = true → σ[j]? = some (some (.ref p)) → False := fun j sj hj oj e => by
    have q := g.slots j sj hj
    rw [e] at q
    obtain ⟨a, u, e1, _, e2, _⟩ := SlotOk.addr q oj
    cases e1
    rw [np] at e2; cases e2
  refine ⟨g1.wld, g1.all, g1.sub, by simp [g.len], fun j t ht => ?_, fun j k sj sk w h1 h2 o1 o2 e1 e2 => ?_⟩
  · rw [getset] at ht
    rw [getset]
    by_cases hj : j = i
    · subst hj
      rw [if_pos rfl] at ht ⊢
      have hl := g.len
      by_cases hi : j < ρ.length
      · rw [if_pos hi] at ht
        cases ht
        rw [if_pos (by omega)]
        exact h
      · rw [if_neg hi] at ht; cases ht
    · rw [if_neg hj] at ht ⊢
      exact g1.slots j t ht
  · rw [getset] at h1 h2
    rw [getset] at e1 e2
    by_cases hj : j = i
    · by_cases hk : k = i
      · omega
      · rw [if_pos hj] at e1
        split at e1
        · cases e1
          rw [if_neg hk] at h2 e2
          exact (other k sk h2 o2 e2).elim
        · cases e1
    · by_cases hk : k = i
      · rw [if_pos hk] at e2
        split at e2
        · cases e2
          rw [if_neg hj] at h1 e1
          exact (other j sj h1 o1 e1).elim
        · cases e2
      · rw [if_neg hj] at h1 e1
        rw [if_neg hk] at h2 e2
        exact g.apart j k sj sk w h1 h2 o1 o2 e1 e2
theorem SlotOk.noext {K : PySem.W.Frag} {S : Addr → Prop} {H0 H : Hp} {p : Addr} {s : Slot} (q : SlotOk K S H0 H (some (.ref p)) s) (h : s.isOwn = true) (φ : Heap → Prop) : H p ≠ some (.ext φ) := fun z => by
  cases s with
  | own ds =>
    obtain ⟨a, xs, e1, _, _, e4, _⟩ := (q : ∃ a xs, V.ref p = .ref a ∧ S a ∧ H0 a = none ∧ H a = some (.lst xs) ∧ DvL K S H ds xs)
    cases e1
    rw [z] at e4; cases e4
  | ownp pp ds =>
    obtain ⟨a, xs, ⟨e1, epp⟩, _, _, e4, _⟩ := (q : ∃ a xs, (V.ref p = .ref a ∧ a = pp) ∧ S a ∧ H0 a = none ∧ H a = some (.lst xs) ∧ DvL K S H ds xs)
    cases e1
    rw [z] at e4; cases e4
  | ownd ks ds =>
    obtain ⟨a, xs, e1, _, _, e4, _⟩ := (q : ∃ a kvs, V.ref p = .ref a ∧ S a ∧ H0 a = none ∧ H a = some (.dK kvs) ∧ kvs.map (·.1) = ks ∧ DvL K S H ds (kvs.map (·.2)))
    cases e1
    rw [z] at e4; cases e4
  | ownt ks ds =>
    obtain ⟨a, xs, e1, _, _, e4, _⟩ := (q : ∃ a kvs, V.ref p = .ref a ∧ S a ∧ H0 a = none ∧ H a = some (.dT kvs) ∧ kvs.map (·.1) = ks ∧ DvL K S H ds (kvs.map (·.2)))
    cases e1
    rw [z] at e4; cases e4
  | _ => cases h
/-- an owned object is changed -/
theorem Gd.write (g : Gd G S σ H ρ) {i : Nat} {s s' : Slot} {p : Addr} {o : HO} (hs : ρ[i]? = some s) (hp : σ[i]? = some (some (.ref p))) (ho : s.isOwn = true) (ho' : s'.isOwn = true) (h : SlotOk G.X.K S G.H0 (upd H p o) (some (.ref p)) s') :
    Gd G S σ (upd H p o) (ρ.set i s') ∧ Fr S H S (upd H p o) := by
  have q := g.slots i s hs
  rw [hp] at q
  obtain ⟨a, u, e1, sa, ea, e0⟩ := SlotOk.addr q ho
  cases e1
  have fr : Fr S H S (upd H p o) := fun b u n e => ⟨n, by rw [upd_ne (fun z => n (by rw [z]; exact sa))]; exact e⟩
  have ilt : i < ρ.length := (List.getElem?_eq_some_iff.mp hs).1
  refine ⟨⟨G.clo H _ g.wld (fun b u u0 e e' => ?_) (keepX_upd (SlotOk.noext q ho)), fun b hb => ?_, g.sub, by simp [g.len], fun j t ht => ?_, fun j k sj sk w h1 h2 o1 o2 e1 e2 => ?_⟩, fr⟩
  · rw [upd_ne (fun z => by rw [z, e0] at e; cases e)]; exact e'
  · by_cases hbp : b = p
    · exact ⟨o, by rw [hbp]; exact upd_same⟩
    · obtain ⟨u, e⟩ := g.all b hb
      exact ⟨u, by rw [upd_ne hbp]; exact e⟩
  · rw [getset] at ht
    by_cases hj : j = i
    · subst hj
      rw [if_pos rfl, if_pos ilt] at ht
      cases ht
      rw [hp]
      exact h
    · rw [if_neg hj] at ht
      refine (g.slots j t ht).move fr (fun _ z => z) fun b v ob eb e => ?_
      have hne : b ≠ p := fun z => by
        subst z
        have eb' : σ[j]? = some (some (.ref b)) := by
          cases ee : σ[j]? with
          | none => rw [ee] at eb; cases eb
          | some o => rw [ee] at eb; cases eb; rfl
        exact hj (g.apart j i t s _ ht hs ob ho eb' hp)
      rw [upd_ne hne]; exact e
  · rw [getset] at h1 h2
    have back : ∀ (j : Nat) (sj : Slot), (if j = i then if i < ρ.length then some s' else none else ρ[j]?) = some sj → sj.isOwn = true → ∃ t, ρ[j]? = some t ∧ t.isOwn = true := fun j sj e oj => by
      by_cases hj : j = i
      · subst hj; exact ⟨s, hs, ho⟩
      · rw [if_neg hj] at e; exact ⟨sj, e, oj⟩
    obtain ⟨tj, b1, b2⟩ := back j sj h1 o1
    obtain ⟨tk, c1, c2⟩ := back k sk h2 o2
    exact g.apart j k tj tk w b1 c1 b2 c2 e1 e2
/-- all that is owned becomes plain data -/
def Slot.freeze : Slot → Slot
  | .own ds => .d (.lst ds)
  | .ownd ks ds => .d (.dic ks ds)
  | .ownt _ _ => .un
  | .ownp _ _ => .un
  | s => s
theorem Gd.freeze (g : Gd G S σ H ρ) : Gd G G.S0 σ H (ρ.map Slot.freeze) ∧ Fr S H G.S0 H := by
  have fr : Fr S H G.S0 H := fun a o n e => ⟨fun z => n (g.sub a z), e⟩
  have n0 : ∀ a, G.H0 a = none → ¬ G.S0 a := fun a n z => by
    obtain ⟨o, e⟩ := G.s0 a z
    rw [n] at e; cases e
  refine ⟨⟨g.wld, fun a h => g.all a (g.sub a h), fun _ h => h, by simp [g.len], fun i s hs => ?_, fun i j si sj v h1 h2 o1 o2 e1 e2 => ?_⟩, fr⟩
  · rw [List.getElem?_map] at hs
    cases e : ρ[i]? with
    | none => rw [e] at hs; cases hs
    | some t =>
      rw [e] at hs
      cases hs
      have q := g.slots i t e
      cases t with
      | un => exact trivial
      | d x =>
        cases o : σ[i]?.join with
        | none => rw [o] at q; exact q.elim
        | some v => rw [o] at q; exact Dv.move fr x v q
      | raw w =>
        cases o : σ[i]?.join with
        | none => rw [o] at q; exact q.elim
        | some v => rw [o] at q; exact q
      | scr ns =>
        cases o : σ[i]?.join with
        | none => rw [o] at q; exact q.elim
        | some v => rw [o] at q; exact ScrOk.move q fr
      | own ds =>
        cases o : σ[i]?.join with
        | none => rw [o] at q; exact q.elim
        | some v =>
          rw [o] at q
          obtain ⟨a, xs, rfl, e2, e3, e4, e5⟩ := (q : ∃ a xs, v = .ref a ∧ S a ∧ G.H0 a = none ∧ H a = some (.lst xs) ∧ DvL G.X.K S H ds xs)
          exact ⟨a, xs, rfl, n0 a e3, e4, DvL.move fr ds xs e5⟩
      | ownp pp ds => exact trivial
      | ownd ks ds =>
        cases o : σ[i]?.join with
        | none => rw [o] at q; exact q.elim
        | some v =>
          rw [o] at q
          obtain ⟨a, xs, rfl, e2, e3, e4, e6, e5⟩ := (q : ∃ a kvs, v = .ref a ∧ S a ∧ G.H0 a = none ∧ H a = some (.dK kvs) ∧ kvs.map (·.1) = ks ∧ DvL G.X.K S H ds (kvs.map (·.2)))
          exact ⟨a, xs, rfl, n0 a e3, e4, e6, DvL.move fr ds _ e5⟩
      | ownt ks ds => exact trivial
  · rw [List.getElem?_map] at h1
    cases e : ρ[i]? with
    | none => rw [e] at h1; cases h1
    | some t =>
      rw [e] at h1
      cases h1
      cases t <;> cases o1

/-! ### statements -/
variable {e : Expr} {st : Stmt} {rest : List Stmt}
theorem EndsOk.from {D : DEnds} {Dh : Ends} (q : EndsOk G S H D Dh) (fr : Fr S H S' H') : EndsOk G S' H' D Dh :=
  ⟨fun S2 σ2 H2 ρ2 g f => q.nx S2 σ2 H2 ρ2 g (fr.trans f), q.rt, fun S2 σ2 H2 ρ2 g f => q.bk S2 σ2 H2 ρ2 g (fr.trans f), fun S2 σ2 H2 ρ2 g f => q.ct S2 σ2 H2 ρ2 g (fr.trans f)⟩
theorem ds_set {x : Str} {pos' : Pos} {F : FE} (i : Nat) (he : DE G e F) (hN : G.X.N.Nodup) (hi : G.X.N[i]? = some x := by rfl) (hx : Loc G.X.env.scope x := by first | exact Or.inl rfl | exact Or.inr rfl) (hs : swapsWith e (some (.Name x pos')) pos.line G.X.env = pure false := by rfl)
    (hf : G.X.fn x = true ∨ G.X.env.scope.names.lookup x = some .local := by first | exact .inl rfl | exact .inr rfl) : DS G (.Assign [.Name x pos'] e pos) (fun D ρ => F ρ fun d => D.nx (ρ.set i (.d d))) := by
  obtain ⟨t, h, l⟩ := he.ex
  refine ⟨⟨_, ps_set (i := i) hN hi hx h hs hf, fun S σ H ρ D Dh g h q => ?_⟩⟩
  exact l S σ H ρ _ _ g h fun v d H1 st hv hp => q.nx S _ H1 _ ((g.step st).set hv) (st.fr g) hp
theorem ds_ret {F : FE} (he : DE G e F) : DS G (.Return (some e) pos) (fun D ρ => F ρ D.rt) := by
  obtain ⟨t, h, l⟩ := he.ex
  refine ⟨⟨_, ps_ret h, fun S σ H ρ D Dh g h q => ?_⟩⟩
  exact l S σ H ρ _ _ g h fun v d H1 st hv hp => q.rt v d H1 st.wld (hv.move fun a o n e => ⟨fun z => n (g.sub a z), e⟩) hp
theorem ds_retN : DS G (.Return none pos) (fun D ρ => D.rt .non) :=
  ⟨⟨_, ps_retN, fun S σ H ρ D Dh g h q => q.rt .non .non H g.wld rfl h⟩⟩
theorem ds_freeze {F : FS} (h : DS G st F) : DS G st (fun D ρ => F D (ρ.map Slot.freeze)) := by
  obtain ⟨t, h, l⟩ := h.ex
  refine ⟨⟨t, h, fun S σ H ρ D Dh g h q => ?_⟩⟩
  obtain ⟨g1, fr⟩ := g.freeze
  exact l G.S0 σ H _ D Dh g1 h (q.from fr)
theorem ds_drop {F : FE} (he : DE G e F) (hs : swapsWith e none pos.line G.X.env = pure false := by rfl) : DS G (.Expr e pos) (fun D ρ => F ρ fun _ => D.nx ρ) := by
  obtain ⟨t, h, l⟩ := he.ex
  refine ⟨⟨_, ps_expr h hs, fun S σ H ρ D Dh g h q => ?_⟩⟩
  exact l S σ H ρ _ _ g h fun v d H1 st hv hp => q.nx S σ H1 ρ (g.step st) (st.fr g) hp
theorem ds_pass : DS G (.Pass pos) (fun D ρ => D.nx ρ) := ⟨⟨_, ps_pass, fun S σ H ρ D Dh g h q => q.nx S σ H ρ g (Fr.refl S H) h⟩⟩
theorem db_nil : DB G [] (fun D ρ => D.nx ρ) := ⟨⟨_, pss_nil, fun S σ H ρ D Dh g h q => q.nx S σ H ρ g (Fr.refl S H) h⟩⟩
theorem db_one {F : FS} (h : DS G st F) : DB G [st] F := by
  obtain ⟨t, h, l⟩ := h.ex
  exact ⟨⟨t, pss_one h, l⟩⟩
theorem db_cons {F F' : FS} (h : DS G st F) (hr : DB G rest F') : DB G (st :: rest) (fun D ρ => F { D with nx := F' D } ρ) := by
  obtain ⟨t, h, l⟩ := h.ex
  obtain ⟨u, h2, l2⟩ := hr.ex
  refine ⟨⟨_, pss_cons h h2, fun S σ H ρ D Dh g h q => ?_⟩⟩
  exact l S σ H ρ _ _ g h ⟨fun S' σ' H' ρ' g' fr hp => l2 S' σ' H' ρ' D Dh g' hp (q.from fr), q.rt, q.bk, q.ct⟩
theorem ds_if {c : Expr} {a b : List Stmt} {Fc : FT} {F F' : FS} (hc : DT G c Fc) (ha : DB G a F) (hb : DB G b F') : DS G (.If c a b pos) (fun D ρ => Fc ρ fun c => if c = true then F D ρ else F' D ρ) := by
  obtain ⟨t0, h0, l0⟩ := hc.ex
  obtain ⟨t, h, l⟩ := ha.ex
  obtain ⟨u, h2, l2⟩ := hb.ex
  refine ⟨⟨_, ps_if h0 h h2, fun S σ H ρ D Dh g h q => ?_⟩⟩
  refine l0 S σ H ρ _ _ g h fun b H1 st hp => ?_
  cases b with
  | true => exact l S σ H1 ρ D Dh (g.step st) hp (q.from (st.fr g))
  | false => exact l2 S σ H1 ρ D Dh (g.step st) hp (q.from (st.fr g))
end
end DL
namespace DL
open PySem PySem.Spec PyProof.Rows L2
/-- what a def promises, by what its arguments stand for: the arguments, what is wanted of its answer, of what it raises -/
structure Con where
  C : List Dat → (Dat → Prop) → (Exc → Prop) → Prop
  mono : ∀ ds P P' X X', C ds P X → (∀ d, P d → P' d) → (∀ x, X x → X' x) → C ds P' X'
def spD (K : PySem.W.Frag) (C : Con) : Sp := fun vs H Q E => ∃ (S : Addr → Prop) (ds : List Dat), (∀ a, S a → ∃ o, H a = some o) ∧ DvL K S H ds vs ∧
  C.C ds (fun d => ∀ v H', Evl.Ex H H' → Dv K S H' d v → Q v H')
    (fun x => ∀ fs d H', Evl.Ex H H' → H d = none → H' d = some (.xd fs) → fs.map (·.1) = x.2.map (·.1) → DvL K S H' (x.2.map (·.2)) (fs.map (·.2)) → E (.ref x.1) (some d) H')
/-- a promise of a value, under a condition -/
def Con.fn (pre : List Dat → Prop) (f : List Dat → Dat) : Con := ⟨fun ds P _ => pre ds ∧ P (f ds), fun _ _ _ _ _ h m _ => ⟨h.1, m _ h.2⟩⟩
section
variable {G : Ctx} {S : Addr → Prop} {σ : L2.St} {H H' : Hp} {ρ : List Slot} {pos : Pos}
theorem spD_use {C : Con} {vs : List V} {ds : List Dat} {P : Dat → Prop} {Q : VK} {E : XK} (g : Gd G S σ H ρ) (hv : DvL G.X.K S H ds vs) (h : C.C ds P (fun _ => False)) (q : ∀ v d H', Stp G H H' → Dv G.X.K S H' d v → P d → Q v H') : spD G.X.K C vs H Q E :=
  ⟨S, ds, g.all, hv, C.mono ds _ _ _ _ h (fun d hp v H' e hd => q v d H' (Stp.ex g.wld e) hd hp) fun _ z => z.elim⟩
/-- a call of a def that raises nothing -/
theorem de_call {C : Con} {k : Nat} {f : Addr} {fd : FuncData} {ps : List Str} {x : Str} {p : Pos} {e : Expr} {es : List Expr} {Fs : FA} (F : FnOk G.X.prog G.X.w G.X.K G.X.mg G.X.base CX0 k f fd ps (spD G.X.K C)) (hr : Room k G.X.A) (hg : Gl G.X x) (hm : G.X.mg x = some (.ref f))
    (hk : PySem.W.keepIn G.X.K (.ref f) = true) (hb : Binds G.X.K fd ps []) (ha : DA G (e :: es) Fs) (hdb : (x == ("__debug__" : Str)) = false := by decide) (he : starEach (e :: es) G.X.env = (false, eval e G.X.env) :: starEach es G.X.env := by rfl) (hpl : (backTo pos (starEach es G.X.env)).any (·.1) = false := by rfl) :
    DE G (.Call (.Name x p) (e :: es) [] pos) (fun ρ P => Fs ρ fun ds => C.C ds P (fun _ => False)) := by
  obtain ⟨t, h, l⟩ := ha.ex
  refine ⟨⟨_, pe_call F hr hg hm hk hb .nil pass0 h hdb he hpl, fun S σ H ρ P Q g h q => ?_⟩⟩
  refine l S σ H ρ _ _ g h fun vs ds H1 st hv hp => ?_
  rw [List.append_nil]
  exact spD_use (g.step st) hv hp fun v d H2 st2 => q v d H2 (st.trans st2)
theorem de_call0 {C : Con} {k : Nat} {f : Addr} {fd : FuncData} {ps : List Str} {x : Str} {p : Pos} (F : FnOk G.X.prog G.X.w G.X.K G.X.mg G.X.base CX0 k f fd ps (spD G.X.K C)) (hr : Room k G.X.A) (hg : Gl G.X x) (hm : G.X.mg x = some (.ref f))
    (hk : PySem.W.keepIn G.X.K (.ref f) = true) (hb : Binds G.X.K fd ps []) (hdb : (x == ("__debug__" : Str)) = false := by decide) : DE G (.Call (.Name x p) [] [] pos) (fun ρ P => C.C [] P (fun _ => False)) := by
  refine ⟨⟨_, pe_call0 F hr hg hm hk hb .nil pass0 hdb, fun S σ H ρ P Q g h q => ?_⟩⟩
  exact spD_use (vs := []) (ds := []) g rfl h q
/-- the slots at a def's entry -/
def start (n : Nat) (ds : List Dat) : List Slot := ds.map Slot.d ++ List.replicate (n - ds.length) Slot.un
theorem gd_start {G : Ctx} {N : List Str} {vs : List V} {ds : List Dat} (hw : G.W H) (ha : ∀ a, G.S0 a → ∃ o, H a = some o) (hv : DvL G.X.K G.S0 H ds vs) (hl : ds.length ≤ N.length) : Gd G G.S0 (L2.start N vs) H (start N.length ds) := by
  have hvl := hv.len
  refine ⟨hw, ha, fun _ h => h, by unfold L2.start start; simp [hvl], fun i s hs => ?_, fun i j si sj v h1 h2 o1 o2 _ _ => ?_⟩
  · unfold start at hs
    unfold L2.start
    by_cases hi : i < ds.length
    · rw [List.getElem?_append_left (by simpa using hi), List.getElem?_map] at hs
      cases e : ds[i]? with
      | none => rw [e] at hs; cases hs
      | some d =>
        rw [e] at hs
        cases hs
        obtain ⟨v, e1, e2⟩ := hv.get e
        rw [List.getElem?_append_left (by rw [List.length_map]; omega), List.getElem?_map, e1]
        exact e2
    · rw [List.getElem?_append_right (by simpa using hi), List.getElem?_replicate] at hs
      split at hs
      · cases hs; exact trivial
      · cases hs
  · unfold start at h1
    by_cases hi : i < ds.length
    · rw [List.getElem?_append_left (by simpa using hi), List.getElem?_map] at h1
      cases e : ds[i]? with
      | none => rw [e] at h1; cases h1
      | some d => rw [e] at h1; cases h1; cases o1
    · rw [List.getElem?_append_right (by simpa using hi), List.getElem?_replicate] at h1
      split at h1
      · cases h1; cases o1
      · cases h1
/-- the context of a pure def's body that raises nothing -/
abbrev ctx0 (P : Program) (w : World) (K : PySem.W.Frag) (mg : Str → Option Value) (base : Heap) (N : List Str) (qual : Str) (sc : Scope) (f : Addr) (cdv : Value) (A : Around) (outer : List Env) (s : Shared) (H : Hp) (S : Addr → Prop) (hS : ∀ a, S a → ∃ o, H a = some o) : Ctx where
  X := (cxOf CX0 P w K mg base N qual sc f cdv A outer s H E0).nox
  H0 := H
  S0 := S
  W := Evl.Ex H
  clo := fun H1 H2 h k _ a o e => k a o o e (h a o e)
  top := fun H1 h a o e => ⟨o, h a o e⟩
  s0 := hS
  E := E0
  EX := fun _ => False
  elink := fun _ _ _ _ _ z => z.elim
/-- THE RULE for a pure def that raises nothing -/
theorem fn_pure {P : Program} {w : World} {K : PySem.W.Frag} {mg : Str → Option Value} {base : Heap} {x qual : Str} {st : Stmt} {f : Addr} {fd : FuncData} {N ps : List Str} {k : Nat} {C : Con} (F : Fun K x qual st f fd) (Sc : FnScope N ps (defScope st)) (len : ∀ ds P X, C.C ds P X → ds.length = ps.length)
    (hbody : ∀ (cdv : Value) (A : Around) (outer : List Env) (s : Shared) (H : Hp) (S : Addr → Prop) (hS : ∀ a, S a → ∃ o, H a = some o), Room k (A.deeper (envOfC qual (defScope st) s.heap.objs.size f cdv)) →
      ∃ T, DB (ctx0 P w K mg base N qual (defScope st) f cdv A outer s H S hS) (defBody st) T ∧ ∀ ds R X, C.C ds R X → T { nx := fun _ => R .non, rt := R } (start N.length ds)) : FnOk P w K mg base CX0 (k + 1) f fd ps (spD K C) := by
  have hpl : ps.length ≤ N.length := by have := congrArg List.length Sc.pre; rw [List.length_take] at this; omega
  refine F.ok Sc (fun vs H Q E ⟨S, ds, _, hv, hc⟩ => by rw [hv.len]; exact len _ _ _ hc) fun cdv A outer s H vs Q E hr h => ?_
  obtain ⟨S, ds, hS, hv, hc⟩ := h
  obtain ⟨T, ⟨t, hp, l⟩, hT⟩ := hbody cdv A outer s H S hS hr
  refine ⟨t, ?_, ?_⟩
  · exact hp
  · refine l S _ H (start N.length ds) _ _ (gd_start (G := ctx0 P w K mg base N qual (defScope st) f cdv A outer s H S hS) (fun _ _ e => e) hS hv (by rw [len _ _ _ hc]; exact hpl)) (hT ds _ _ hc) ?_
    exact ⟨fun S' σ' H' ρ' g fr q => q .non H' g.wld rfl, fun v d H' hw hv q => q v H' hw hv, fun _ _ _ _ _ _ z => z.elim, fun _ _ _ _ _ _ z => z.elim⟩
end
end DL
namespace DL
open PySem PySem.Spec PyProof.Rows L2
section
variable {G : Ctx} {S S' : Addr → Prop} {σ : L2.St} {H H' : Hp} {ρ : List Slot} {pos : Pos}
/-! ### the shapes behind what values stand for -/
theorem dv_int {K : PySem.W.Frag} {i : Int} {v : V} (h : Dv K S H (.int i) v) : v = .int i := h
theorem dv_str {K : PySem.W.Frag} {i : Str} {v : V} (h : Dv K S H (.str i) v) : v = .str i := h
theorem dv_tup {K : PySem.W.Frag} {ds : List Dat} {v : V} (h : Dv K S H (.tup ds) v) : ∃ a xs, v = .ref a ∧ ((¬ S a ∧ H a = some (.tup xs)) ∨ WrT K a xs) ∧ DvL K S H ds xs := h
theorem dv_lst {K : PySem.W.Frag} {ds : List Dat} {v : V} (h : Dv K S H (.lst ds) v) : ∃ a xs, v = .ref a ∧ ¬ S a ∧ H a = some (.lst xs) ∧ DvL K S H ds xs := h
theorem dv_anl {K : PySem.W.Frag} {v : V} (h : Dv K S H .anl v) : ∃ a xs, v = .ref a ∧ ¬ S a ∧ H a = some (.lst xs) := h
theorem dv_dic {K : PySem.W.Frag} {ks : List Key} {ds : List Dat} {v : V} (h : Dv K S H (.dic ks ds) v) : ∃ a kvs, v = .ref a ∧ ¬ S a ∧ H a = some (.dK kvs) ∧ kvs.map (·.1) = ks ∧ DvL K S H ds (kvs.map (·.2)) := h
/-- a new tuple, a new list -/
theorem new_tup {xs : List V} {ds : List Dat} {P : Dat → Prop} {Q : VK} (g : Gd G S σ H ρ) (hv : DvL G.X.K S H ds xs) (hp : P (.tup ds)) (q : ∀ v d H', Stp G H H' → Dv G.X.K S H' d v → P d → Q v H') : ∀ p, H p = none → Q (.ref p) (upd H p (.tup xs)) := fun p np => by
  have st : Stp G H (upd H p (.tup xs)) := Stp.new g.wld np
  exact q _ (.tup ds) _ st ⟨p, xs, rfl, .inl ⟨g.fresh np, upd_same⟩, st.dvl g hv⟩ hp
theorem new_lst {xs : List V} {ds : List Dat} {P : Dat → Prop} {Q : VK} (g : Gd G S σ H ρ) (hv : DvL G.X.K S H ds xs) (hp : P (.lst ds)) (q : ∀ v d H', Stp G H H' → Dv G.X.K S H' d v → P d → Q v H') : ∀ p, H p = none → Q (.ref p) (upd H p (.lst xs)) := fun p np => by
  have st : Stp G H (upd H p (.lst xs)) := Stp.new g.wld np
  exact q _ (.lst ds) _ st ⟨p, xs, rfl, g.fresh np, upd_same, st.dvl g hv⟩ hp

/-! ### + -/
def addD : R2D
  | .int i, .int j, P => P (.int (i + j))
  | .str x, .str y, P => x.length + y.length ≤ sizeLine ∧ P (.str (x ++ y))
  | .lst xs, .lst ys, P => xs.length + ys.length ≤ sizeLine ∧ P (.lst (xs ++ ys))
  | .tup xs, .tup ys, P => xs.length + ys.length ≤ sizeLine ∧ P (.tup (xs ++ ys))
  | _, _, _ => False
theorem serves_add : Serves G (fun x y H Q => (rI0 (fun i j => V.int (i + j)) x y H Q ∨ (∃ i j, x = .str i ∧ y = .str j ∧ i.length + j.length ≤ sizeLine ∧ Q (.str (i ++ j)) H)) ∨ (rCat x y H Q ∨ rCatA G.X.K x y H Q)) addD := by
  intro S σ ρ H x y dx dy P Q g hx hy h q
  cases dx with
  | int i =>
    cases dy with
    | int j => exact .inl (.inl ⟨i, j, hx, hy, q _ (.int (i + j)) H (Stp.refl g.wld) rfl h⟩)
    | _ => exact h.elim
  | str i =>
    cases dy with
    | str j => exact .inl (.inr ⟨i, j, hx, hy, h.1, q _ (.str (i ++ j)) H (Stp.refl g.wld) rfl h.2⟩)
    | _ => exact h.elim
  | lst ds =>
    cases dy with
    | lst es =>
      obtain ⟨a, xs, rfl, n1, e1, v1⟩ := dv_lst hx
      obtain ⟨b, ys, rfl, n2, e2, v2⟩ := dv_lst hy
      exact .inr (.inl ⟨a, b, xs, ys, rfl, rfl, e1, e2, by rw [v1.len, v2.len]; exact h.1, new_lst g (v1.append v2) h.2 q⟩)
    | _ => exact h.elim
  | tup ds =>
    cases dy with
    | tup es =>
      obtain ⟨a, xs, rfl, e1, v1⟩ := dv_tup hx
      obtain ⟨b, ys, rfl, e2, v2⟩ := dv_tup hy
      refine .inr (.inr ⟨a, b, xs, ys, rfl, rfl, sqT_of e1, sqT_of e2, by rw [v1.len, v2.len]; exact h.1, fun z => ?_, fun _ z => ?_, fun _ _ => new_tup g (v1.append v2) h.2 q⟩)
      · subst z
        have e : ds = [] := List.length_eq_zero_iff.mp (by rw [← v1.len]; rfl)
        subst e
        exact q _ (.tup es) H (Stp.refl g.wld) ⟨b, ys, rfl, e2, v2⟩ h.2
      · subst z
        have e : es = [] := List.length_eq_zero_iff.mp (by rw [← v2.len]; rfl)
        subst e
        have h2 := h.2
        rw [List.append_nil] at h2
        exact q _ (.tup ds) H (Stp.refl g.wld) ⟨a, xs, rfl, e1, v1⟩ h2
    | _ => exact h.elim
  | _ => exact h.elim
theorem de_add {a b : Expr} {Fa Fb : FE} (ha : DE G a Fa) (hb : DE G b Fb) : DE G (.BinOp a .Add b pos) (fun ρ P => Fa ρ fun x => Fb ρ fun y => addD x y P) :=
  de_bin (.or (.or op_add op_add_str) (.or op_cat op_catA)) serves_add ha hb
/-! ### ints -/
def intD (f : Int → Int → Dat) (C : Int → Int → Prop) : R2D
  | .int i, .int j, P => C i j ∧ P (f i j)
  | _, _, _ => False
theorem serves_I {C : Int → Int → Prop} {f : Int → Int → Int} : Serves G (rI C fun i j => .int (f i j)) (intD (fun i j => .int (f i j)) C) := by
  intro S σ ρ H x y dx dy P Q g hx hy h q
  cases dx with
  | int i =>
    cases dy with
    | int j => exact ⟨i, j, hx, hy, h.1, q _ (.int (f i j)) H (Stp.refl g.wld) rfl h.2⟩
    | _ => exact h.elim
  | _ => exact h.elim
def int0 (f : Int → Int → Dat) : R2D
  | .int i, .int j, P => P (f i j)
  | _, _, _ => False
theorem serves_I0 {f : Int → Int → Int} : Serves G (rI0 fun i j => .int (f i j)) (int0 (fun i j => .int (f i j))) := by
  intro S σ ρ H x y dx dy P Q g hx hy h q
  cases dx with
  | int i =>
    cases dy with
    | int j => exact ⟨i, j, hx, hy, q _ (.int (f i j)) H (Stp.refl g.wld) rfl h⟩
    | _ => exact h.elim
  | _ => exact h.elim
theorem serves_B0 {f : Int → Int → Bool} : Serves G (rI0 fun i j => .bl (f i j)) (int0 (fun i j => .bl (f i j))) := by
  intro S σ ρ H x y dx dy P Q g hx hy h q
  cases dx with
  | int i =>
    cases dy with
    | int j => exact ⟨i, j, hx, hy, q _ (.bl (f i j)) H (Stp.refl g.wld) rfl h⟩
    | _ => exact h.elim
  | _ => exact h.elim
variable {a b : Expr} {Fa Fb : FE}
theorem de_sub (ha : DE G a Fa) (hb : DE G b Fb) : DE G (.BinOp a .Sub b pos) (fun ρ P => Fa ρ fun x => Fb ρ fun y => int0 (fun i j => .int (i - j)) x y P) := de_bin op_sub serves_I0 ha hb
theorem de_lt (ha : DE G a Fa) (hb : DE G b Fb) : DE G (.Compare a [.Lt] [b] pos) (fun ρ P => Fa ρ fun x => Fb ρ fun y => int0 (fun i j => .bl (decide (i < j))) x y P) := de_cmp op_lt serves_B0 ha hb
theorem de_le (ha : DE G a Fa) (hb : DE G b Fb) : DE G (.Compare a [.LtE] [b] pos) (fun ρ P => Fa ρ fun x => Fb ρ fun y => int0 (fun i j => .bl (decide (i ≤ j))) x y P) := de_cmp op_le serves_B0 ha hb
theorem de_gt (ha : DE G a Fa) (hb : DE G b Fb) : DE G (.Compare a [.Gt] [b] pos) (fun ρ P => Fa ρ fun x => Fb ρ fun y => int0 (fun i j => .bl (decide (j < i))) x y P) := de_cmp op_gt serves_B0 ha hb
theorem de_ge (ha : DE G a Fa) (hb : DE G b Fb) : DE G (.Compare a [.GtE] [b] pos) (fun ρ P => Fa ρ fun x => Fb ρ fun y => int0 (fun i j => .bl (decide (j ≤ i))) x y P) := de_cmp op_ge serves_B0 ha hb
theorem dt_lt (ha : DE G a Fa) (hb : DE G b Fb) : DT G (.Compare a [.Lt] [b] pos) (fun ρ P => Fa ρ fun x => Fb ρ fun y => int0 (fun i j => .bl (decide (i < j))) x y fun z => isB z P) := dt_cmp op_lt serves_B0 ha hb
theorem dt_le (ha : DE G a Fa) (hb : DE G b Fb) : DT G (.Compare a [.LtE] [b] pos) (fun ρ P => Fa ρ fun x => Fb ρ fun y => int0 (fun i j => .bl (decide (i ≤ j))) x y fun z => isB z P) := dt_cmp op_le serves_B0 ha hb
theorem dt_gt (ha : DE G a Fa) (hb : DE G b Fb) : DT G (.Compare a [.Gt] [b] pos) (fun ρ P => Fa ρ fun x => Fb ρ fun y => int0 (fun i j => .bl (decide (j < i))) x y fun z => isB z P) := dt_cmp op_gt serves_B0 ha hb
theorem dt_ge (ha : DE G a Fa) (hb : DE G b Fb) : DT G (.Compare a [.GtE] [b] pos) (fun ρ P => Fa ρ fun x => Fb ρ fun y => int0 (fun i j => .bl (decide (j ≤ i))) x y fun z => isB z P) := dt_cmp op_ge serves_B0 ha hb
/-! ### ==, != -/
mutual
def toP : Dat → PyData
  | .non => .none
  | .bl b => .bool b
  | .int i => .int i
  | .str x => .str x
  | .tup ds => .tuple (toPs ds)
  | .lst ds => .list (toPs ds)
  | .dic _ _ => .dict []
  | .anl => .dict []
def toPs : List Dat → List PyData
  | [] => []
  | d :: ds => toP d :: toPs ds
end
mutual
theorem dp_of {K : PySem.W.Frag} : ∀ (d : Dat) (v : V), Dv K S H d v → (toP d).canLay0 = true → Dp K H v (toP d)
  | .non, _, h, _ => by cases (h : _ = V.non); exact .non
  | .bl b, _, h, _ => by cases (h : _ = V.bl b); exact .bl b
  | .int b, _, h, _ => by cases (h : _ = V.int b); exact .int b
  | .str b, _, h, _ => by cases (h : _ = V.str b); exact .str b
  | .tup ds, _, h, c => by
    obtain ⟨a, xs, rfl, e1, v1⟩ := dv_tup h
    exact .tup (sqT_of e1) (dps_of ds xs v1 (by rw [toP, PyData.canLay0] at c; exact c))
  | .lst ds, _, h, c => by
    obtain ⟨a, xs, rfl, n, e1, v1⟩ := dv_lst h
    exact .lst (.inl (.inl e1)) (dps_of ds xs v1 (by rw [toP, PyData.canLay0] at c; exact c))
  | .dic _ _, _, _, c => by rw [toP, PyData.canLay0] at c; cases c
  | .anl, _, _, c => by rw [toP, PyData.canLay0] at c; cases c
theorem dps_of {K : PySem.W.Frag} : ∀ (ds : List Dat) (vs : List V), DvL K S H ds vs → PyData.canLayAll0 (toPs ds) = true → DpAll K H vs (toPs ds)
  | [], _, h, _ => by cases (h : _ = []); exact .nil
  | d :: ds, _, h, c => by
    obtain ⟨v, r, rfl, h1, h2⟩ := (h : ∃ v r, _ = v :: r ∧ Dv K S H d v ∧ DvL K S H ds r)
    rw [toPs, PyData.canLayAll0, Bool.and_eq_true] at c
    exact .cons (dp_of d v h1 c.1) (dps_of ds r h2 c.2)
end
def eqD : R2D
  | .str x, .str y, P => P (.bl (decide (x = y)))
  | .int x, .int y, P => P (.bl (decide (x = y)))
  | .non, .non, P => P (.bl true)
  | .non, .str _, P => P (.bl false)
  | .str _, .non, P => P (.bl false)
  | x, y, P => SeqAt.shaped (toP x) = true ∧ SeqAt.shaped (toP y) = true ∧ P (.bl (PyData.eqv (toP x) (toP y)))
def neD : R2D
  | .str x, .str y, P => P (.bl (!decide (x = y)))
  | .int x, .int y, P => P (.bl (!decide (x = y)))
  | .non, .non, P => P (.bl false)
  | .non, .str _, P => P (.bl true)
  | .str _, .non, P => P (.bl true)
  | x, y, P => SeqAt.shaped (toP x) = true ∧ SeqAt.shaped (toP y) = true ∧ P (.bl (!PyData.eqv (toP x) (toP y)))
theorem dec_str {x y : Str} : decide (V.str x = V.str y) = decide (x = y) := by
  by_cases h : x = y
  · rw [h]; simp
  · rw [decide_eq_false h, decide_eq_false (fun e => h (V.str.inj e))]
theorem dec_int' {x y : Int} : decide (V.int x = V.int y) = decide (x = y) := by
  by_cases h : x = y
  · rw [h]; simp
  · rw [decide_eq_false h, decide_eq_false (fun e => h (V.int.inj e))]
theorem serves_eq : Serves G (fun x y H Q => rEq x y H Q ∨ rEqD G.X.K x y H Q) eqD := by
  intro S σ ρ H x y dx dy P Q g hx hy h q
  unfold eqD at h
  split at h
  · cases dv_str hx; cases dv_str hy
    refine .inl ⟨rfl, ?_⟩
    rw [dec_str]
    exact q _ (.bl _) H (Stp.refl g.wld) rfl h
  · cases dv_int hx; cases dv_int hy
    refine .inl ⟨rfl, ?_⟩
    rw [dec_int']
    exact q _ (.bl _) H (Stp.refl g.wld) rfl h
  · cases (hx : x = V.non); cases (hy : y = V.non)
    exact .inl ⟨rfl, q _ (.bl _) H (Stp.refl g.wld) (by simp [Dv]) h⟩
  · cases (hx : x = V.non); cases dv_str hy
    exact .inl ⟨rfl, q _ (.bl _) H (Stp.refl g.wld) (by simp [Dv]) h⟩
  · cases (hy : y = V.non); cases dv_str hx
    exact .inl ⟨rfl, q _ (.bl _) H (Stp.refl g.wld) (by simp [Dv]) h⟩
  · exact .inr ⟨_, _, dp_of _ _ hx (SeqAt.canLay_of_shaped h.1), dp_of _ _ hy (SeqAt.canLay_of_shaped h.2.1), h.1, h.2.1, q _ (.bl _) H (Stp.refl g.wld) rfl h.2.2⟩
theorem serves_ne : Serves G (fun x y H Q => rNe x y H Q ∨ rNeD G.X.K x y H Q) neD := by
  intro S σ ρ H x y dx dy P Q g hx hy h q
  unfold neD at h
  split at h
  · cases dv_str hx; cases dv_str hy
    refine .inl ⟨rfl, ?_⟩
    rw [dec_str]
    exact q _ (.bl _) H (Stp.refl g.wld) rfl h
  · cases dv_int hx; cases dv_int hy
    refine .inl ⟨rfl, ?_⟩
    rw [dec_int']
    exact q _ (.bl _) H (Stp.refl g.wld) rfl h
  · cases (hx : x = V.non); cases (hy : y = V.non)
    exact .inl ⟨rfl, q _ (.bl _) H (Stp.refl g.wld) (by simp [Dv]) h⟩
  · cases (hx : x = V.non); cases dv_str hy
    exact .inl ⟨rfl, q _ (.bl _) H (Stp.refl g.wld) (by simp [Dv]) h⟩
  · cases (hy : y = V.non); cases dv_str hx
    exact .inl ⟨rfl, q _ (.bl _) H (Stp.refl g.wld) (by simp [Dv]) h⟩
  · exact .inr ⟨_, _, dp_of _ _ hx (SeqAt.canLay_of_shaped h.1), dp_of _ _ hy (SeqAt.canLay_of_shaped h.2.1), h.1, h.2.1, q _ (.bl _) H (Stp.refl g.wld) rfl h.2.2⟩
theorem de_eq (hu : G.X.A.units + 64 < cLine) (ha : DE G a Fa) (hb : DE G b Fb) : DE G (.Compare a [.Eq] [b] pos) (fun ρ P => Fa ρ fun x => Fb ρ fun y => eqD x y P) := de_cmp (.or op_eq (op_eqD hu)) serves_eq ha hb
theorem de_ne (hu : G.X.A.units + 64 < cLine) (ha : DE G a Fa) (hb : DE G b Fb) : DE G (.Compare a [.NotEq] [b] pos) (fun ρ P => Fa ρ fun x => Fb ρ fun y => neD x y P) := de_cmp (.or op_ne (op_neD hu)) serves_ne ha hb
theorem dt_eq (hu : G.X.A.units + 64 < cLine) (ha : DE G a Fa) (hb : DE G b Fb) : DT G (.Compare a [.Eq] [b] pos) (fun ρ P => Fa ρ fun x => Fb ρ fun y => eqD x y fun z => isB z P) := dt_cmp (.or op_eq (op_eqD hu)) serves_eq ha hb
theorem dt_ne (hu : G.X.A.units + 64 < cLine) (ha : DE G a Fa) (hb : DE G b Fb) : DT G (.Compare a [.NotEq] [b] pos) (fun ρ P => Fa ρ fun x => Fb ρ fun y => neD x y fun z => isB z P) := dt_cmp (.or op_ne (op_neD hu)) serves_ne ha hb
/-! ### is None -/
def isN : Dat → Bool
  | .non => true
  | _ => false
theorem isN_of {K : PySem.W.Frag} {d : Dat} {v : V} (h : Dv K S H d v) : decide (v = .non) = isN d := by
  cases d with
  | non => cases (h : v = .non); rfl
  | bl b => cases (h : v = .bl b); rfl
  | int b => cases (h : v = .int b); rfl
  | str b => cases (h : v = .str b); rfl
  | tup ds => obtain ⟨a, xs, rfl, _⟩ := dv_tup h; rfl
  | lst ds => obtain ⟨a, xs, rfl, _⟩ := dv_lst h; rfl
  | dic ks ds => obtain ⟨a, xs, rfl, _⟩ := dv_dic h; rfl
  | anl => obtain ⟨a, xs, rfl, _⟩ := dv_anl h; rfl
theorem de_isN {j pos'} (ha : DE G a Fa) : DE G (.Compare a [.Is] [.Constant .none j pos'] pos) (fun ρ P => Fa ρ fun x => P (.bl (isN x))) := by
  obtain ⟨t, h, l⟩ := ha.ex
  refine ⟨⟨_, pe_cmp (pc_isN h), fun S σ H ρ P Q g h q => ?_⟩⟩
  refine l S σ H ρ _ _ g h fun v d H1 st hv hp => ?_
  rw [isN_of hv]
  exact q _ (.bl (isN d)) H1 st rfl hp
theorem de_notN {j pos'} (ha : DE G a Fa) : DE G (.Compare a [.IsNot] [.Constant .none j pos'] pos) (fun ρ P => Fa ρ fun x => P (.bl (!isN x))) := by
  obtain ⟨t, h, l⟩ := ha.ex
  refine ⟨⟨_, pe_cmp (pc_notN h), fun S σ H ρ P Q g h q => ?_⟩⟩
  refine l S σ H ρ _ _ g h fun v d H1 st hv hp => ?_
  rw [isN_of hv]
  exact q _ (.bl (!isN d)) H1 st rfl hp
theorem dt_isN {j pos'} (ha : DE G a Fa) : DT G (.Compare a [.Is] [.Constant .none j pos'] pos) (fun ρ P => Fa ρ fun x => P (isN x)) := by
  obtain ⟨t, h, l⟩ := ha.ex
  refine ⟨⟨_, pt_cmp (pc_isN h), fun S σ H ρ P Q g h q => ?_⟩⟩
  refine l S σ H ρ _ _ g h fun v d H1 st hv hp => ?_
  rw [isN_of hv]
  exact ⟨_, rfl, q _ H1 st hp⟩
theorem dt_notN {j pos'} (ha : DE G a Fa) : DT G (.Compare a [.IsNot] [.Constant .none j pos'] pos) (fun ρ P => Fa ρ fun x => P (!isN x)) := by
  obtain ⟨t, h, l⟩ := ha.ex
  refine ⟨⟨_, pt_cmp (pc_notN h), fun S σ H ρ P Q g h q => ?_⟩⟩
  refine l S σ H ρ _ _ g h fun v d H1 st hv hp => ?_
  rw [isN_of hv]
  exact ⟨_, rfl, q _ H1 st hp⟩
/-! ### type(x) == T -/
def tyName : Dat → String
  | .non => "NoneType"
  | .bl _ => "bool"
  | .int _ => "int"
  | .str _ => "str"
  | .tup _ => "tuple"
  | .lst _ => "list"
  | .dic _ _ => "dict"
  | .anl => "list"
theorem tyIs {X : Cx} {pins : List (Addr × Obj)} {s : Shared} {d : Dat} {v : V} {u : Value} (I : Inv X pins σ H s) (h : Dv X.K S H d v) (r : RelV v u) : s.TypeIs u (tyName d) := by
  cases d with
  | non => cases (h : v = .non); cases r; exact rfl
  | bl b => cases (h : v = .bl b); cases r; exact rfl
  | int b => cases (h : v = .int b); obtain ⟨t, rfl⟩ := r; exact typeIs_int s b t
  | str b => cases (h : v = .str b); obtain ⟨t, rfl⟩ := r; exact typeIs_str s b t
  | tup ds =>
    obtain ⟨a, xs, rfl, e, _⟩ := dv_tup h
    cases r
    obtain ⟨its, rv, p, _⟩ := I.tuple (sqT_of e)
    exact p.typeIs
  | lst ds =>
    obtain ⟨a, xs, rfl, n, e, _⟩ := dv_lst h
    cases r
    obtain ⟨its, rv, p, _⟩ := I.list (.inl (.inl e))
    exact p.isList.typeIs
  | dic ks ds =>
    obtain ⟨a, xs, rfl, n, e, _⟩ := dv_dic h
    cases r
    obtain ⟨_, _, vs, _, p⟩ := I.hok a _ e
    exact p.typeIs
  | anl =>
    obtain ⟨a, xs, rfl, n, e⟩ := dv_anl h
    cases r
    obtain ⟨its, rv, p, _⟩ := I.list (.inl (.inl e))
    exact p.isList.typeIs
def metas : List String := ["NoneType", "bool", "int", "str", "tuple", "list", "dict"]
theorem meta_ty {T : String} (h : T ∈ metas) (s : Shared) : s.TypeIs (.type T) "type" := by
  simp only [metas, List.mem_cons, List.not_mem_nil, or_false] at h
  rcases h with rfl | rfl | rfl | rfl | rfl | rfl | rfl <;> (show typeOf _ = pure (Value.type "type"); kernel_rfl)
theorem metas_nodup {T U : String} (h : T ∈ metas) (k : U ∈ metas) (n : T ≠ U) : (Value.type T == Value.type U) = false := by
  simp only [metas, List.mem_cons, List.not_mem_nil, or_false] at h k
  rcases h with rfl | rfl | rfl | rfl | rfl | rfl | rfl <;> rcases k with rfl | rfl | rfl | rfl | rfl | rfl | rfl <;> first | exact absurd rfl n | decide +kernel
theorem tyName_mem (d : Dat) : tyName d ∈ metas := by cases d <;> simp [tyName, metas]
def rTyD (K : PySem.W.Frag) : List V → Hp → VK → Prop := fun xs H Q => ∃ (x : V) (S : Addr → Prop) (d : Dat), xs = [x] ∧ Dv K S H d x ∧ Q (.ty (tyName d)) H
theorem call_tyD {X : Cx} : CallR X (.type "type") (rTyD X.K) := by
  intro pins s σ H xs us Q I r h
  obtain ⟨x, S, d, rfl, t, q⟩ := h
  obtain ⟨u, rfl, rx⟩ := vals1 r
  exact call_type_of (tyIs I t rx) (by cases d <;> (show (Value.type _ == Value.type _) = false; simp only [tyName]; decide +kernel)) ⟨.ty _, H, I, rfl, q⟩
def rTyEq : R2 := fun x y H Q => ∃ a b, x = .ty a ∧ y = .ty b ∧ a ∈ metas ∧ b ∈ metas ∧ Q (.bl (decide (a = b))) H
theorem op_tyEq {X : Cx} : OpR X (compareOp .Eq) rTyEq := by
  intro pins s σ H x y v u Q I rx ry h
  obtain ⟨a, b, rfl, rfl, ma, mb, q⟩ := h
  cases (show v = Value.type a from rx)
  cases (show u = Value.type b from ry)
  by_cases e : a = b
  · subst e
    exact TypeEq.eq_type_same (meta_ty ma) ⟨.bl true, H, I, rfl, by simpa using q⟩
  · exact TypeEq.eq_type_other (meta_ty ma) (meta_ty mb) (metas_nodup ma mb e) ⟨.bl false, H, I, rfl, by simpa [e] using q⟩
theorem lift_tyEq {te : TE} {F : FE} {T : String} (hT : T ∈ metas) (l : LiftE G te F) : LiftE G (tOp rTyEq (tCB (rTyD G.X.K) (tCons te tNil)) (tC (.ty T))) (fun ρ P => F ρ fun x => P (.bl (decide (tyName x = T)))) := by
  intro S σ H ρ P Q g h q
  refine l S σ H ρ _ _ g h fun v d H1 st hv hp => ?_
  exact ⟨v, S, d, rfl, hv, _, _, rfl, rfl, tyName_mem d, hT, q _ (.bl _) H1 st rfl hp⟩
theorem de_type {e : Expr} {F : FE} {T : Str} {TT : String} {p1 p2 p3 p4 : Pos} (hT : TT ∈ metas := by decide) (he : DE G e F) (hg : Gl G.X "type" := by rfl) (hm : G.X.mg "type" = none) (hgT : Gl G.X T := by rfl) (hmT : G.X.mg T = none) (hv : bootBuiltins T = some (.type TT)) (hn : T ≠ "__name__") (hd : (T == ("__debug__" : Str)) = false)
    (hs : starEach [e] G.X.env = (false, eval e G.X.env) :: starEach [] G.X.env := by rfl) :
    DE G (.Compare (.Call (.Name "type" p1) [e] [] p2) [.Eq] [.Name T p3] p4) (fun ρ P => F ρ fun x => P (.bl (decide (tyName x = TT)))) := by
  obtain ⟨t, h, l⟩ := he.ex
  exact ⟨⟨_, pe_cmpR op_tyEq (pe_callTy call_tyD hg hm (by decide +kernel) (pa_cons h pa_nil hs) (he := hs)) (pe_bltn (v := V.ty TT) hgT hmT hv rfl hn hd) (nobehind _ (by decide) (by decide)), lift_tyEq hT l⟩⟩
theorem dt_type {e : Expr} {F : FE} {T : Str} {TT : String} {p1 p2 p3 p4 : Pos} (hT : TT ∈ metas := by decide) (he : DE G e F) (hg : Gl G.X "type" := by rfl) (hm : G.X.mg "type" = none) (hgT : Gl G.X T := by rfl) (hmT : G.X.mg T = none) (hv : bootBuiltins T = some (.type TT)) (hn : T ≠ "__name__") (hd : (T == ("__debug__" : Str)) = false)
    (hs : starEach [e] G.X.env = (false, eval e G.X.env) :: starEach [] G.X.env := by rfl) :
    DT G (.Compare (.Call (.Name "type" p1) [e] [] p2) [.Eq] [.Name T p3] p4) (fun ρ P => F ρ fun x => P (decide (tyName x = TT))) := by
  obtain ⟨t, h, l⟩ := he.ex
  refine ⟨⟨_, pt_cmpR op_tyEq (pe_callTy call_tyD hg hm (by decide +kernel) (pa_cons h pa_nil hs) (he := hs)) (pe_bltn (v := V.ty TT) hgT hmT hv rfl hn hd) (nobehind _ (by decide) (by decide)), fun S σ H ρ P Q g h q => ?_⟩⟩
  exact lift_tyEq hT l S σ H ρ (fun z => isB z P) _ g h fun v d H1 st hv hp => by
    obtain ⟨b, rfl, hp⟩ := isB_inv hp
    exact ⟨b, hv, q b H1 st hp⟩
end
end DL
namespace DL
open PySem PySem.Spec PyProof.Rows L2
section
variable {G : Ctx} {S S' : Addr → Prop} {σ : L2.St} {H H' : Hp} {ρ : List Slot} {pos : Pos} {a b : Expr} {Fa Fb : FE}
/-! ### in, not in -/
def strsOf : List Dat → Option (List Str)
  | [] => some []
  | .str x :: r => (strsOf r).map (x :: ·)
  | _ :: _ => none
theorem strsOf_eq : ∀ {ds : List Dat} {zs : List Str}, strsOf ds = some zs → ds = zs.map Dat.str
  | [], zs, h => by cases h; rfl
  | .str x :: r, zs, h => by
    unfold strsOf at h
    cases e : strsOf r with
    | none => rw [e] at h; cases h
    | some ys =>
      rw [e] at h
      cases h
      rw [strsOf_eq e]; rfl
  | .non :: _, _, h => by cases h
  | .bl _ :: _, _, h => by cases h
  | .int _ :: _, _, h => by cases h
  | .tup _ :: _, _, h => by cases h
  | .lst _ :: _, _, h => by cases h
  | .dic _ _ :: _, _, h => by cases h
theorem inV_str (x : Str) : ∀ (zs : List Str), inV (.str x) (zs.map V.str) = decide (x ∈ zs)
  | [] => by simp [inV]
  | z :: zs => by
    have ih := inV_str x zs
    unfold inV at ih ⊢
    rw [List.map_cons, List.any_cons, ih]
    by_cases h : x = z
    · subst h; simp [eqV]
    · have h2 : (z == x) = false := beq_eq_false_iff_ne.mpr (fun e => h e.symm)
      simp [eqV, h2, h]
theorem flat_strs : ∀ (zs : List Str), (zs.map V.str).all flatV = true
  | [] => rfl
  | z :: zs => by rw [List.map_cons, List.all_cons, flat_strs zs]; rfl
def inOf (neg : Bool) (x : Str) (ds : List Dat) (P : Dat → Prop) : Prop := match strsOf ds with
  | some zs => P (.bl (if neg then !decide (x ∈ zs) else decide (x ∈ zs)))
  | none => False
def inD (neg : Bool) : R2D
  | .str x, .tup ds, P => inOf neg x ds P
  | .str x, .lst ds, P => inOf neg x ds P
  | _, _, _ => False
theorem inOf_inv {neg : Bool} {x : Str} {ds : List Dat} {P : Dat → Prop} (h : inOf neg x ds P) : ∃ zs : List Str, ds = zs.map Dat.str ∧ P (.bl (if neg then !decide (x ∈ zs) else decide (x ∈ zs))) := by
  unfold inOf at h
  split at h
  · rename_i zs e; exact ⟨zs, strsOf_eq e, h⟩
  · exact h.elim
theorem serves_in {neg : Bool} : Serves G (rIn G.X.K neg) (inD neg) := by
  intro S σ ρ H x y dx dy P Q g hx hy h q
  cases dx with
  | str z =>
    cases dv_str hx
    cases dy with
    | tup ds =>
      obtain ⟨zs, rfl, hp⟩ := inOf_inv h
      obtain ⟨a, xs, rfl, e, v⟩ := dv_tup hy
      rw [v.strs] at e
      refine ⟨a, zs.map V.str, rfl, .inr (sqT_of e), rfl, flat_strs zs, ?_⟩
      rw [inV_str]
      exact q _ (.bl _) H (Stp.refl g.wld) rfl hp
    | lst ds =>
      obtain ⟨zs, rfl, hp⟩ := inOf_inv h
      obtain ⟨a, xs, rfl, n, e, v⟩ := dv_lst hy
      rw [v.strs] at e
      refine ⟨a, zs.map V.str, rfl, .inl (.inl (.inl e)), rfl, flat_strs zs, ?_⟩
      rw [inV_str]
      exact q _ (.bl _) H (Stp.refl g.wld) rfl hp
    | _ => exact h.elim
  | _ => exact h.elim
theorem de_in (ha : DE G a Fa) (hb : DE G b Fb) (hm : behindInMarks .In b = false := by rfl) : DE G (.Compare a [.In] [b] pos) (fun ρ P => Fa ρ fun x => Fb ρ fun y => inD false x y P) := de_cmp op_in_seq serves_in ha hb hm
theorem de_nin (ha : DE G a Fa) (hb : DE G b Fb) (hm : behindInMarks .NotIn b = false := by rfl) : DE G (.Compare a [.NotIn] [b] pos) (fun ρ P => Fa ρ fun x => Fb ρ fun y => inD true x y P) := de_cmp op_notIn_seq serves_in ha hb hm
theorem dt_in (ha : DE G a Fa) (hb : DE G b Fb) (hm : behindInMarks .In b = false := by rfl) : DT G (.Compare a [.In] [b] pos) (fun ρ P => Fa ρ fun x => Fb ρ fun y => inD false x y fun z => isB z P) := dt_cmp op_in_seq serves_in ha hb hm
theorem dt_nin (ha : DE G a Fa) (hb : DE G b Fb) (hm : behindInMarks .NotIn b = false := by rfl) : DT G (.Compare a [.NotIn] [b] pos) (fun ρ P => Fa ρ fun x => Fb ρ fun y => inD true x y fun z => isB z P) := dt_cmp op_notIn_seq serves_in ha hb hm

/-! ### subscripts, slices -/
def someD {α : Type} (o : Option α) (P : α → Prop) : Prop := match o with
  | some x => P x
  | none => False
theorem someD_inv {α : Type} {o : Option α} {P : α → Prop} (h : someD o P) : ∃ x, o = some x ∧ P x := by
  cases o with
  | none => exact h.elim
  | some x => exact ⟨x, rfl, h⟩
def ixD : R2D
  | .tup ds, .int i, P => someD (atI ds i) P
  | .lst ds, .int i, P => someD (atI ds i) P
  | .str z, .int i, P => z.length ≤ sizeLine ∧ someD (atI z.cps.toList i) fun c => P (.str ⟨#[c]⟩)
  | _, _, _ => False
theorem atI_dv {K : PySem.W.Frag} {ds : List Dat} {xs : List V} {i : Int} {d : Dat} (v : DvL K S H ds xs) (h : atI ds i = some d) : ∃ x, atI xs i = some x ∧ Dv K S H d x := by
  unfold atI at h ⊢
  rw [v.len]
  cases e : ixN ds.length i with
  | none => rw [e] at h; cases h
  | some j =>
    rw [e] at h
    exact v.get h
theorem serves_ix : Serves G (fun x y H Q => (rIxL G.X.K x y H Q ∨ rIxT G.X.K x y H Q) ∨ rIxS x y H Q) ixD := by
  intro S σ ρ H x y dx dy P Q g hx hy h q
  cases dy with
  | int i =>
    cases dv_int hy
    cases dx with
    | tup ds =>
      obtain ⟨d, e, hp⟩ := someD_inv h
      obtain ⟨a, xs, rfl, e1, v⟩ := dv_tup hx
      obtain ⟨z, ez, hz⟩ := atI_dv v e
      exact .inl (.inr ⟨a, xs, i, z, rfl, rfl, sqT_of e1, ez, q z d H (Stp.refl g.wld) hz hp⟩)
    | lst ds =>
      obtain ⟨d, e, hp⟩ := someD_inv h
      obtain ⟨a, xs, rfl, n, e1, v⟩ := dv_lst hx
      obtain ⟨z, ez, hz⟩ := atI_dv v e
      exact .inl (.inl ⟨a, xs, i, z, rfl, rfl, .inl (.inl e1), ez, q z d H (Stp.refl g.wld) hz hp⟩)
    | str z =>
      cases dv_str hx
      obtain ⟨d, e, hp⟩ := someD_inv h.2
      exact .inr ⟨z, i, d, rfl, rfl, h.1, e, q _ (.str _) H (Stp.refl g.wld) rfl hp⟩
    | _ => exact h.elim
  | _ => cases dx <;> exact h.elim
theorem de_ix (ha : DE G a Fa) (hb : DE G b Fb) (hs : PlainIx b := by exact fun _ _ => rfl) : DE G (.Subscript a b pos) (fun ρ P => Fa ρ fun x => Fb ρ fun y => ixD x y P) := by
  obtain ⟨ta, h1, l1⟩ := ha.ex
  obtain ⟨tb, h2, l2⟩ := hb.ex
  exact ⟨⟨_, pe_ix (.or (.or ix_list ix_tup) ix_str) h1 h2 hs, lift_op serves_ix l1 l2⟩⟩
abbrev FO := List Slot → (Option Int → Prop) → Prop
def LiftO (G : Ctx) (t : TO) (F : FO) : Prop := ∀ S σ H ρ P (Q : Option Int → Hp → Prop), Gd G S σ H ρ → F ρ P → (∀ b H', Stp G H H' → P b → Q b H') → t σ H Q
structure DO (G : Ctx) (e : Option Expr) (F : FO) : Prop where
  ex : ∃ t, PO G.X e t ∧ LiftO G t F
theorem do_none : DO G none (fun _ P => P none) := ⟨⟨_, po_none, fun _ _ H _ _ _ g h q => q none H (Stp.refl g.wld) h⟩⟩
def isI (d : Dat) (P : Int → Prop) : Prop := match d with
  | .int b => P b
  | _ => False
theorem isI_inv {d : Dat} {P : Int → Prop} (h : isI d P) : ∃ b, d = .int b ∧ P b := by
  unfold isI at h
  split at h
  · exact ⟨_, rfl, h⟩
  · exact h.elim
theorem do_some (ha : DE G a Fa) : DO G (some a) (fun ρ P => Fa ρ fun x => isI x fun i => P (some i)) := by
  obtain ⟨t, h, l⟩ := ha.ex
  refine ⟨⟨_, po_some h, fun S σ H ρ P Q g h q => ?_⟩⟩
  refine l S σ H ρ _ _ g h fun v d H1 st hv hp => ?_
  obtain ⟨i, rfl, hp⟩ := isI_inv hp
  exact ⟨i, hv, q _ H1 st hp⟩
def cutG {α : Type} (xs : List α) (lo hi : Option Int) : List α := (xs.drop (HT.sIx xs.length 0 lo)).take (HT.sIx xs.length xs.length hi - HT.sIx xs.length 0 lo)
def slD (x : Dat) (lo hi : Option Int) (P : Dat → Prop) : Prop := match x with
  | .tup ds => P (.tup (cutG ds lo hi))
  | .lst ds => P (.lst (cutG ds lo hi))
  | .str z => z.length ≤ sizeLine ∧ P (.str (cutS z lo hi))
  | _ => False
theorem cut_dv {K : PySem.W.Frag} {ds : List Dat} {xs : List V} (v : DvL K S H ds xs) (lo hi : Option Int) : DvL K S H (cutG ds lo hi) (cutV xs lo hi) := by
  unfold cutG cutV
  rw [v.len]
  exact (v.drop _).take _
theorem de_sl {lo hi : Option Expr} {p2 : Pos} {Fl Fh : FO} (ha : DE G a Fa) (hl : DO G lo Fl) (hh : DO G hi Fh) : DE G (.Subscript a (.Slice lo hi none p2) pos) (fun ρ P => Fa ρ fun x => Fl ρ fun l => Fh ρ fun u => slD x l u P) := by
  obtain ⟨t, h, l⟩ := ha.ex
  obtain ⟨t1, h1, l1⟩ := hl.ex
  obtain ⟨t2, h2, l2⟩ := hh.ex
  refine ⟨⟨_, pe_slice (.or (.or sl_list sl_tupA) sl_str) h h1 h2, fun S σ H ρ P Q g h q => ?_⟩⟩
  refine l S σ H ρ _ _ g h fun v d H1 st hv hp => ?_
  have g1 := g.step st
  refine l1 S σ H1 ρ _ _ g1 hp fun lo H2 st2 hp => ?_
  have g2 := g1.step st2
  refine l2 S σ H2 ρ _ _ g2 hp fun hi H3 st3 hp => ?_
  have g3 := g2.step st3
  have hv3 := st3.dv g2 (st2.dv g1 hv)
  have q' : ∀ v d H', Stp G H3 H' → Dv G.X.K S H' d v → P d → Q v H' := fun v d H' s4 => q v d H' (((st.trans st2).trans st3).trans s4)
  cases d with
  | tup ds =>
    obtain ⟨a, xs, rfl, e, v⟩ := dv_tup hv3
    refine .inl (.inr ⟨a, xs, rfl, sqT_of e, fun w => ?_, fun _ => new_tup g3 (cut_dv v lo hi) hp q'⟩)
    have ec : cutG ds lo hi = ds := by
      unfold cutG
      rw [← v.len, w.1, w.2, List.drop_zero, Nat.sub_zero, v.len, List.take_length]
    have hp' : P (.tup ds) := by
      have hp2 : P (.tup (cutG ds lo hi)) := hp
      rw [ec] at hp2; exact hp2
    exact q' _ (.tup ds) H3 (Stp.refl g3.wld) ⟨a, xs, rfl, e, v⟩ hp'
  | lst ds =>
    obtain ⟨a, xs, rfl, n, e, v⟩ := dv_lst hv3
    exact .inl (.inl ⟨a, xs, rfl, .inl (.inl e), new_lst g3 (cut_dv v lo hi) hp q'⟩)
  | str z =>
    cases dv_str hv3
    exact .inr ⟨z, rfl, hp.1, q' _ (.str _) H3 (Stp.refl g3.wld) rfl hp.2⟩
  | _ => exact hp.elim

/-! ### calls of built-ins by what their arguments stand for -/
abbrev RCD := List Dat → (Dat → Prop) → Prop
def ServesC (G : Ctx) (r : List V → Hp → VK → Prop) (D : RCD) : Prop := ∀ S σ ρ H vs ds P (Q : VK), Gd G S σ H ρ → DvL G.X.K S H ds vs → D ds P → (∀ v d H', Stp G H H' → Dv G.X.K S H' d v → P d → Q v H') → r vs H Q
theorem lift_cb {r : List V → Hp → VK → Prop} {D : RCD} {t : TA} {Fs : FA} (hr : ServesC G r D) (l : LiftA G t Fs) : LiftE G (tCB r t) (fun ρ P => Fs ρ fun ds => D ds P) := by
  intro S σ H ρ P Q g h q
  refine l S σ H ρ _ _ g h fun vs ds H1 st hv hp => ?_
  exact hr S σ ρ H1 vs ds P Q (g.step st) hv hp fun v d H2 st2 => q v d H2 (st.trans st2)
theorem de_cb {id : String} {r : List V → Hp → VK → Prop} {D : RCD} {x : Str} {p : Pos} {e : Expr} {es : List Expr} {Fs : FA} (hc : CallR G.X (.builtin id) r) (hr : ServesC G r D) (hm : G.X.mg x = none) (hv : bootBuiltins x = some (.builtin id)) (ha : DA G (e :: es) Fs) (hg : Gl G.X x := by rfl)
    (hn : x ≠ "__name__" := by decide) (hdb : (x == ("__debug__" : Str)) = false := by decide) (he : starEach (e :: es) G.X.env = (false, eval e G.X.env) :: starEach es G.X.env := by rfl) (hpl : (backTo pos (starEach es G.X.env)).any (·.1) = false := by rfl) :
    DE G (.Call (.Name x p) (e :: es) [] pos) (fun ρ P => Fs ρ fun ds => D ds P) := by
  obtain ⟨t, h, l⟩ := ha.ex
  exact ⟨⟨_, pe_callB hc hg hm hv h hn hdb he hpl, lift_cb hr l⟩⟩
theorem de_ct {T : String} {r : List V → Hp → VK → Prop} {D : RCD} {x : Str} {p : Pos} {e : Expr} {es : List Expr} {Fs : FA} (hc : CallR G.X (.type T) r) (hr : ServesC G r D) (hm : G.X.mg x = none) (hv : bootBuiltins x = some (.type T)) (ha : DA G (e :: es) Fs) (hg : Gl G.X x := by rfl)
    (hn : x ≠ "__name__" := by decide) (hdb : (x == ("__debug__" : Str)) = false := by decide) (he : starEach (e :: es) G.X.env = (false, eval e G.X.env) :: starEach es G.X.env := by rfl) (hpl : (backTo pos (starEach es G.X.env)).any (·.1) = false := by rfl) :
    DE G (.Call (.Name x p) (e :: es) [] pos) (fun ρ P => Fs ρ fun ds => D ds P) := by
  obtain ⟨t, h, l⟩ := ha.ex
  exact ⟨⟨_, pe_callTy hc hg hm hv h hn hdb he hpl, lift_cb hr l⟩⟩
theorem dvl1 {K : PySem.W.Frag} {d : Dat} {vs : List V} (h : DvL K S H [d] vs) : ∃ v, vs = [v] ∧ Dv K S H d v := by
  obtain ⟨v, r, rfl, h1, h2⟩ := (h : ∃ v r, vs = v :: r ∧ Dv K S H d v ∧ DvL K S H [] r)
  cases (h2 : r = [])
  exact ⟨v, rfl, h1⟩
theorem dvl2 {K : PySem.W.Frag} {d e : Dat} {vs : List V} (h : DvL K S H [d, e] vs) : ∃ v w, vs = [v, w] ∧ Dv K S H d v ∧ Dv K S H e w := by
  obtain ⟨v, r, rfl, h1, h2⟩ := (h : ∃ v r, vs = v :: r ∧ Dv K S H d v ∧ DvL K S H [e] r)
  obtain ⟨w, rfl, h3⟩ := dvl1 h2
  exact ⟨v, w, rfl, h1, h3⟩
def lenD : RCD
  | [.str x], P => x.length ≤ sizeLine ∧ P (.int (x.length : Nat))
  | [.tup x], P => P (.int (x.length : Nat))
  | [.lst x], P => P (.int (x.length : Nat))
  | _, _ => False
theorem serves_len : ServesC G (fun xs H Q => ∃ x n, xs = [x] ∧ LenV G.X.K x H n ∧ Q (.int n) H) lenD := by
  intro S σ ρ H vs ds P Q g hv h q
  unfold lenD at h
  split at h
  · obtain ⟨v, rfl, h1⟩ := dvl1 hv
    cases dv_str h1
    exact ⟨_, _, rfl, ⟨h.1, rfl⟩, q _ (.int _) H (Stp.refl g.wld) rfl h.2⟩
  · obtain ⟨v, rfl, h1⟩ := dvl1 hv
    obtain ⟨a, xs, rfl, e, hl⟩ := dv_tup h1
    exact ⟨_, _, rfl, .inr ⟨xs, sqT_of e, rfl⟩, q _ (.int _) H (Stp.refl g.wld) (by rw [hl.len]; rfl) h⟩
  · obtain ⟨v, rfl, h1⟩ := dvl1 hv
    obtain ⟨a, xs, rfl, n, e, hl⟩ := dv_lst h1
    exact ⟨_, _, rfl, .inl ⟨xs, .inl (.inl e), rfl⟩, q _ (.int _) H (Stp.refl g.wld) (by rw [hl.len]; rfl) h⟩
  · exact h.elim
theorem de_len {p : Pos} {Fs : FA} (hm : G.X.mg "len" = none) (ha : DA G [a] Fs) (hg : Gl G.X "len" := by rfl) (he : starEach [a] G.X.env = (false, eval a G.X.env) :: starEach [] G.X.env := by rfl) : DE G (.Call (.Name "len" p) [a] [] pos) (fun ρ P => Fs ρ fun ds => lenD ds P) := de_cb call_len serves_len hm PySem.boot_len ha hg (he := he)
def minD : RCD
  | [.int i, .int j], P => P (.int (if j < i then j else i))
  | _, _ => False
theorem serves_min2 : ServesC G (fun xs H Q => ∃ i j, xs = [.int i, .int j] ∧ Q (.int (if j < i then j else i)) H) minD := by
  intro S σ ρ H vs ds P Q g hv h q
  unfold minD at h
  split at h
  · obtain ⟨v, w, rfl, h1, h2⟩ := dvl2 hv
    cases dv_int h1; cases dv_int h2
    exact ⟨_, _, rfl, q _ (.int _) H (Stp.refl g.wld) rfl h⟩
  · exact h.elim
theorem de_min2 {p : Pos} {Fs : FA} (hc : G.X.calm = true) (hm : G.X.mg "min" = none) (ha : DA G [a, b] Fs) (hg : Gl G.X "min" := by rfl) (he : starEach [a, b] G.X.env = (false, eval a G.X.env) :: starEach [b] G.X.env := by rfl) (hpl : (backTo pos (starEach [b] G.X.env)).any (·.1) = false := by rfl) : DE G (.Call (.Name "min" p) [a, b] [] pos) (fun ρ P => Fs ρ fun ds => minD ds P) := de_cb (call_min2 hc) serves_min2 hm (by decide +kernel) ha hg (he := he) (hpl := hpl)
def strD : RCD
  | [.int i], P => i.natAbs.log2 < 1920 ∧ P (.str (toString i))
  | _, _ => False
theorem serves_str : ServesC G (fun xs H Q => ∃ i, xs = [.int i] ∧ i.natAbs.log2 < 1920 ∧ Q (.str (toString i)) H) strD := by
  intro S σ ρ H vs ds P Q g hv h q
  unfold strD at h
  split at h
  · obtain ⟨v, rfl, h1⟩ := dvl1 hv
    cases dv_int h1
    exact ⟨_, rfl, h.1, q _ (.str _) H (Stp.refl g.wld) rfl h.2⟩
  · exact h.elim
theorem de_strI {p : Pos} {Fs : FA} (hm : G.X.mg "str" = none) (ha : DA G [a] Fs) (hg : Gl G.X "str" := by rfl) (he : starEach [a] G.X.env = (false, eval a G.X.env) :: starEach [] G.X.env := by rfl) : DE G (.Call (.Name "str" p) [a] [] pos) (fun ρ P => Fs ρ fun ds => strD ds P) := de_ct call_str_int serves_str hm (by decide +kernel) ha hg (he := he)
def listD : RCD
  | [.tup x], P => P (.lst x)
  | [.lst x], P => P (.lst x)
  | _, _ => False
theorem serves_list : ServesC G (fun xs H Q => ∃ p ys, xs = [.ref p] ∧ (SqL G.X.K H p ys ∨ SqT G.X.K H p ys) ∧ ∀ l, H l = none → Q (.ref l) (upd H l (.lst ys))) listD := by
  intro S σ ρ H vs ds P Q g hv h q
  unfold listD at h
  split at h
  · obtain ⟨v, rfl, h1⟩ := dvl1 hv
    obtain ⟨a, xs, rfl, e, hl⟩ := dv_tup h1
    exact ⟨_, _, rfl, .inr (sqT_of e), new_lst g hl h q⟩
  · obtain ⟨v, rfl, h1⟩ := dvl1 hv
    obtain ⟨a, xs, rfl, n, e, hl⟩ := dv_lst h1
    exact ⟨_, _, rfl, .inl (.inl (.inl e)), new_lst g hl h q⟩
  · exact h.elim
theorem de_list {p : Pos} {Fs : FA} (hm : G.X.mg "list" = none) (ha : DA G [a] Fs) (hg : Gl G.X "list" := by rfl) (he : starEach [a] G.X.env = (false, eval a G.X.env) :: starEach [] G.X.env := by rfl) : DE G (.Call (.Name "list" p) [a] [] pos) (fun ρ P => Fs ρ fun ds => listD ds P) := de_ct call_list_of serves_list hm (by decide +kernel) ha hg (he := he)
def tupleD : RCD
  | [.tup x], P => P (.tup x)
  | [.lst x], P => P (.tup x)
  | _, _ => False
theorem serves_tuple : ServesC G (fun xs H Q => ∃ p ys, xs = [.ref p] ∧ ((SqL G.X.K H p ys ∧ ∀ l, H l = none → Q (.ref l) (upd H l (.tup ys))) ∨ (SqT G.X.K H p ys ∧ Q (.ref p) H))) tupleD := by
  intro S σ ρ H vs ds P Q g hv h q
  unfold tupleD at h
  split at h
  · obtain ⟨v, rfl, h1⟩ := dvl1 hv
    obtain ⟨a, xs, rfl, e, hl⟩ := dv_tup h1
    exact ⟨_, _, rfl, .inr ⟨sqT_of e, q _ (.tup _) H (Stp.refl g.wld) ⟨a, xs, rfl, e, hl⟩ h⟩⟩
  · obtain ⟨v, rfl, h1⟩ := dvl1 hv
    obtain ⟨a, xs, rfl, n, e, hl⟩ := dv_lst h1
    exact ⟨_, _, rfl, .inl ⟨.inl (.inl e), new_tup g hl h q⟩⟩
  · exact h.elim
theorem de_tuple {p : Pos} {Fs : FA} (hm : G.X.mg "tuple" = none) (ha : DA G [a] Fs) (hg : Gl G.X "tuple" := by rfl) (he : starEach [a] G.X.env = (false, eval a G.X.env) :: starEach [] G.X.env := by rfl) : DE G (.Call (.Name "tuple" p) [a] [] pos) (fun ρ P => Fs ρ fun ds => tupleD ds P) := de_ct call_tuple_of serves_tuple hm (by decide +kernel) ha hg (he := he)
def blsOf : List Dat → Option (List Bool)
  | [] => some []
  | .bl x :: r => (blsOf r).map (x :: ·)
  | _ :: _ => none
theorem blsOf_vals {K : PySem.W.Frag} : ∀ {ds : List Dat} {zs : List Bool} {vs : List V}, blsOf ds = some zs → DvL K S H ds vs → vs = zs.map V.bl
  | [], zs, _, h, v => by cases h; exact v
  | .bl x :: r, zs, vs, h, v => by
    unfold blsOf at h
    cases e : blsOf r with
    | none => rw [e] at h; cases h
    | some ys =>
      rw [e] at h
      cases h
      obtain ⟨v, r', rfl, h1, h2⟩ := (v : ∃ v r', vs = v :: r' ∧ Dv K S H (.bl x) v ∧ DvL K S H r r')
      cases (h1 : v = .bl x)
      rw [blsOf_vals e h2]; rfl
  | .non :: _, _, _, h, _ => by cases h
  | .str _ :: _, _, _, h, _ => by cases h
  | .int _ :: _, _, _, h, _ => by cases h
  | .tup _ :: _, _, _, h, _ => by cases h
  | .lst _ :: _, _, _, h, _ => by cases h
  | .dic _ _ :: _, _, _, h, _ => by cases h
def allD : RCD
  | [.lst ds], P => someD (blsOf ds) fun bs => P (.bl (bs.all id))
  | _, _ => False
theorem serves_all : ServesC G (rAll G.X.K) allD := by
  intro S σ ρ H vs ds P Q g hv h q
  unfold allD at h
  split at h
  · obtain ⟨bs, e, hp⟩ := someD_inv h
    obtain ⟨v, rfl, h1⟩ := dvl1 hv
    obtain ⟨a, xs, rfl, n, e1, hl⟩ := dv_lst h1
    rw [blsOf_vals e hl] at e1
    exact ⟨a, bs, rfl, .inl (.inl e1), q _ (.bl _) H (Stp.refl g.wld) rfl hp⟩
  · exact h.elim
theorem de_all {p : Pos} {Fs : FA} (hc : G.X.calm = true) (hm : G.X.mg "all" = none) (ha : DA G [a] Fs) (hg : Gl G.X "all" := by rfl) (he : starEach [a] G.X.env = (false, eval a G.X.env) :: starEach [] G.X.env := by rfl) : DE G (.Call (.Name "all" p) [a] [] pos) (fun ρ P => Fs ρ fun ds => allD ds P) := de_cb (cr_all hc) serves_all hm (by decide +kernel) ha hg (he := he)

/-! ### texts -/
def isS (d : Dat) (P : Str → Prop) : Prop := match d with
  | .str b => P b
  | _ => False
theorem isS_inv {d : Dat} {P : Str → Prop} (h : isS d P) : ∃ b, d = .str b ∧ P b := by
  unfold isS at h
  split at h
  · exact ⟨_, rfl, h⟩
  · exact h.elim
def seqOf (d : Dat) (P : List Dat → Prop) : Prop := match d with
  | .tup x => P x
  | .lst x => P x
  | _ => False
def joinD (x : Str) (y : Dat) (P : Dat → Prop) : Prop := seqOf y fun ds => someD (strsOf ds) fun ys => (ys.map (·.length)).sum + ys.length * x.length ≤ 16777216 ∧ P (.str (Txt.join x ys))
theorem de_join {apos : Pos} (ha : DE G a Fa) (hb : DE G b Fb) (hs : starEach [b] G.X.env = [(false, eval b G.X.env)] := by rfl) (hbase : attributeBase a "join" G.X.env (eval a G.X.env) = eval a G.X.env := by rfl) (hline : (apos.endLine == pos.line) = true := by rfl) :
    DE G (.Call (.Attribute a "join" apos) [b] [] pos) (fun ρ P => Fa ρ fun x => isS x fun x => Fb ρ fun y => joinD x y P) := by
  obtain ⟨ta, h1, l1⟩ := ha.ex
  obtain ⟨tb, h2, l2⟩ := hb.ex
  refine ⟨⟨_, pe_join h1 h2 hs hbase hline, fun S σ H ρ P Q g h q => ?_⟩⟩
  refine l1 S σ H ρ _ _ g h fun v d H1 st hv hp => ?_
  have g1 := g.step st
  obtain ⟨z, rfl, hp⟩ := isS_inv hp
  cases dv_str hv
  refine ⟨⟨z, rfl⟩, l2 S σ H1 ρ _ _ g1 hp fun v2 d2 H2 st2 hv2 hp => ?_⟩
  have q' := fun y => q (.str (Txt.join z y)) (.str _) H2 (st.trans st2) rfl
  cases d2 with
  | tup ds =>
    obtain ⟨ys, e, hz, hp⟩ := someD_inv hp
    obtain ⟨a, xs, rfl, e1, hl⟩ := dv_tup hv2
    rw [strsOf_eq e] at hl
    rw [hl.strs] at e1
    exact ⟨z, a, ys, rfl, rfl, .inr (sqT_of e1), hz, q' ys hp⟩
  | lst ds =>
    obtain ⟨ys, e, hz, hp⟩ := someD_inv hp
    obtain ⟨a, xs, rfl, n, e1, hl⟩ := dv_lst hv2
    rw [strsOf_eq e] at hl
    rw [hl.strs] at e1
    exact ⟨z, a, ys, rfl, rfl, .inl (.inl (.inl e1)), hz, q' ys hp⟩
  | _ => exact hp.elim
/-- f-strings -/
def fmtD (d : Dat) (P : Str → Prop) : Prop := match d with
  | .str y => y.length ≤ sizeLine ∧ P y
  | .int i => i.natAbs.log2 < 1920 ∧ P (toString i)
  | _ => False
abbrev FJ := List Slot → (Str → Prop) → Prop
theorem de_fmt (ha : DE G a Fa) : DE G (.FormattedValue a (-1) none pos) (fun ρ P => Fa ρ fun x => fmtD x fun s => P (.str s)) := by
  obtain ⟨ta, h1, l1⟩ := ha.ex
  refine ⟨⟨_, pe_fmt h1, fun S σ H ρ P Q g h q => ?_⟩⟩
  refine l1 S σ H ρ _ _ g h fun v d H1 st hv hp => ?_
  cases d with
  | str y => cases dv_str hv; exact .inl ⟨y, rfl, hp.1, q _ (.str _) H1 st rfl hp.2⟩
  | int i => cases dv_int hv; exact .inr ⟨i, rfl, hp.1, q _ (.str _) H1 st rfl hp.2⟩
  | _ => exact hp.elim
structure DJ (G : Ctx) (es : List Expr) (F : Str → FJ) : Prop where
  ex : ∃ ts, PJ G.X es ts ∧ ∀ acc S σ H ρ P (Q : Str → Hp → Prop), Gd G S σ H ρ → F acc ρ P → (∀ z H', Stp G H H' → P z → Q z H') → tJs ts acc σ H Q
theorem dj_nil : DJ G [] (fun acc _ P => P acc) := ⟨⟨[], .nil, fun acc S σ H ρ P Q g h q => q acc H (Stp.refl g.wld) h⟩⟩
theorem dj_cons {es : List Expr} {F : Str → FJ} (ha : DE G a Fa) (hr : DJ G es F) : DJ G (a :: es) (fun acc ρ P => Fa ρ fun x => isS x fun y => (acc ++ y).length ≤ sizeLine ∧ F (acc ++ y) ρ P) := by
  obtain ⟨ta, h1, l1⟩ := ha.ex
  obtain ⟨ts, h2, l2⟩ := hr.ex
  refine ⟨⟨ta :: ts, .cons h1 h2, fun acc S σ H ρ P Q g h q => ?_⟩⟩
  refine l1 S σ H ρ _ _ g h fun v d H1 st hv hp => ?_
  obtain ⟨y, rfl, hz, hp⟩ := isS_inv hp
  cases dv_str hv
  exact ⟨y, rfl, hz, l2 _ S σ H1 ρ P Q (g.step st) hp fun z H2 st2 => q z H2 (st.trans st2)⟩
theorem de_joined {v1 v2 : Expr} {rest : List Expr} {F : Str → FJ} (h : DJ G (v1 :: v2 :: rest) F) : DE G (.JoinedStr (v1 :: v2 :: rest) pos) (fun ρ P => F Str.empty ρ fun s => P (.str s)) := by
  obtain ⟨ts, h1, l1⟩ := h.ex
  refine ⟨⟨_, pe_joined h1, fun S σ H ρ P Q g h q => ?_⟩⟩
  exact l1 _ S σ H ρ _ _ g h fun z H' st hp => q _ (.str z) H' st rfl hp

/-! ### targets -/
abbrev FG := Dat → List Slot → (List Slot → Prop) → Prop
abbrev FGs := List Dat → List Slot → (List Slot → Prop) → Prop
def LiftG (G : Ctx) (t : TG) (F : FG) : Prop := ∀ S σ H ρ d v P (Q : L2.St → Hp → Prop), Gd G S σ H ρ → Dv G.X.K S H d v → F d ρ P → (∀ σ' ρ', Gd G S σ' H ρ' → P ρ' → Q σ' H) → t v σ H Q
def LiftGs (G : Ctx) (t : TGs) (F : FGs) : Prop := ∀ S σ H ρ d v P (Q : L2.St → Hp → Prop), Gd G S σ H ρ → DvL G.X.K S H d v → F d ρ P → (∀ σ' ρ', Gd G S σ' H ρ' → P ρ' → Q σ' H) → t v σ H Q
structure DG (G : Ctx) (e : Expr) (F : FG) : Prop where
  ex : ∃ t, PG G.X e t ∧ LiftG G t F
structure DGs (G : Ctx) (e : List Expr) (F : FGs) : Prop where
  ex : ∃ t, PGs G.X e t ∧ LiftGs G t F
theorem dg_name {x : Str} (i : Nat) (hN : G.X.N.Nodup) (hi : G.X.N[i]? = some x := by rfl) (hx : Loc G.X.env.scope x := by first | exact Or.inl rfl | exact Or.inr rfl) (hf : G.X.fn x = true ∨ G.X.env.scope.names.lookup x = some .local := by first | exact .inl rfl | exact .inr rfl) : DG G (.Name x pos) (fun d ρ P => P (ρ.set i (.d d))) :=
  ⟨⟨gName i, pg_name hN hi hx hf, fun S σ H ρ d v P Q g hv h q => q _ _ (g.set hv) h⟩⟩
theorem dgs_nil : DGs G [] (fun ds ρ P => ds = [] ∧ P ρ) := ⟨⟨gNil, pgs_nil, fun S σ H ρ d v P Q g hv h q => by
  obtain ⟨rfl, h⟩ := h
  exact ⟨hv, q σ ρ g h⟩⟩⟩
def consD {α : Type} (ds : List α) (P : α → List α → Prop) : Prop := match ds with
  | d :: r => P d r
  | [] => False
theorem dgs_cons {e : Expr} {es : List Expr} {F : FG} {F' : FGs} (h1 : DG G e F) (h2 : DGs G es F') (hs : (assignEach (e :: es) G.X.env).map (·.2) = assign e G.X.env :: (assignEach es G.X.env).map (·.2) := by rfl) :
    DGs G (e :: es) (fun ds ρ P => consD ds fun d r => F d ρ fun ρ' => F' r ρ' P) := by
  obtain ⟨t, p1, l1⟩ := h1.ex
  obtain ⟨u, p2, l2⟩ := h2.ex
  refine ⟨⟨_, pgs_cons p1 p2 hs, fun S σ H ρ d v P Q g hv h q => ?_⟩⟩
  cases d with
  | nil => exact h.elim
  | cons d ds =>
    obtain ⟨x, r, rfl, h1, h2⟩ := (hv : ∃ x r, v = x :: r ∧ Dv G.X.K S H d x ∧ DvL G.X.K S H ds r)
    exact ⟨x, r, rfl, l1 S σ H ρ d x _ _ g h1 h fun σ' ρ' g' hp => l2 S σ' H ρ' ds r P Q g' h2 hp q⟩
def tupD (d : Dat) (n : Nat) (P : List Dat → Prop) : Prop := match d with
  | .tup ds => ds.length = n ∧ P ds
  | _ => False
theorem dg_tup {es : List Expr} {k : Nat} {F : FGs} (n : Nat) (hc : G.X.calm = true) (h : DGs G es F) (hn : (assignEach es G.X.env).length = n := by rfl) (hst : (assignEach es G.X.env).findIdx? (·.1) = none := by rfl) : DG G (.Tuple es k pos) (fun d ρ P => tupD d n fun ds => F ds ρ P) := by
  obtain ⟨t, p1, l1⟩ := h.ex
  refine ⟨⟨_, pg_tup hc p1 hn hst, fun S σ H ρ d v P Q g hv h q => ?_⟩⟩
  cases d with
  | tup ds =>
    obtain ⟨a, xs, rfl, e, hl⟩ := dv_tup hv
    exact ⟨a, xs, rfl, sqT_of e, by rw [hl.len]; exact h.1, l1 S σ H ρ ds xs P Q g hl h.2 q⟩
  | _ => exact h.elim
theorem ds_asg {tg e : Expr} {F : FE} {Fg : FG} (he : DE G e F) (hg : DG G tg Fg) (hs : swapsWithSole [tg] e pos.line G.X.env = pure false := by rfl) (hw : swappedStores [tg] e G.X.env = pure none := by rfl) (h1 : (assignEach [tg] G.X.env).map (·.2) = [assign tg G.X.env] := by rfl) :
    DS G (.Assign [tg] e pos) (fun D ρ => F ρ fun d => Fg d ρ D.nx) := by
  obtain ⟨t, p1, l1⟩ := he.ex
  obtain ⟨u, p2, l2⟩ := hg.ex
  refine ⟨⟨_, ps_asg p1 p2 hs hw h1, fun S σ H ρ D Dh g h q => ?_⟩⟩
  refine l1 S σ H ρ _ _ g h fun v d H1 st hv hp => ?_
  have g1 := g.step st
  exact l2 S σ H1 ρ d v _ _ g1 hv hp fun σ' ρ' g' hp => q.nx S σ' H1 ρ' g' (st.fr g) hp
end
end DL
namespace DL
open PySem PySem.Spec PyProof.Rows L2
section
variable {G : Ctx} {S S' : Addr → Prop} {σ : L2.St} {H H' : Hp} {ρ : List Slot} {pos : Pos} {a b : Expr} {Fa Fb : FE}
/-! ### what is walked -/
structure WalkOk (G : Ctx) (J : It) (items : List Dat) (S : Addr → Prop) (H1 : Hp) : Prop where
  go : ∀ i S' H', i < items.length → Fr S H1 S' H' → J.go i H'
  yld : ∀ i d S' σ' ρ' H' x H2, items[i]? = some d → Gd G S' σ' H' ρ' → Fr S H1 S' H' → J.yld i H' x H2 → Stp G H' H2 ∧ Dv G.X.K S' H2 d x
  stop : ∀ S' H', Fr S H1 S' H' → J.stop items.length H'
abbrev FI := List Slot → (List Dat → Prop) → Prop
def LiftI (G : Ctx) (w : TI) (F : FI) : Prop := ∀ S σ H ρ P (R : It → Hp → Prop), Gd G S σ H ρ → F ρ P → (∀ J items H1, Stp G H H1 → WalkOk G J items S H1 → P items → R J H1) → w σ H R
structure DI (G : Ctx) (tg iter : Expr) (F : FI) : Prop where
  ex : ∃ w, PI G.X tg iter w ∧ LiftI G w F
/-- a list or a tuple -/
def iSeq (K : PySem.W.Frag) (tl : TE) : TI := fun σ H R => tl σ H fun x H1 => ∃ a, x = .ref a ∧ (((∃ xs, SqL K H1 a xs) ∧ R (Itl K a) H1) ∨ ((∃ xs, SqT K H1 a xs) ∧ R (Itt K a) H1))
theorem pi_seq {X : Cx} {tg l : Expr} {tl : TE} (hl : PE X l tl) : PI X tg l (iSeq X.K tl) := by
  refine ⟨fun pins s σ H R I h => ?_⟩
  refine thn (hl.run pins s σ H _ I h) fun v s1 ⟨x, H1, I1, r1, q1⟩ => ?_
  obtain ⟨a, e, q⟩ := q1
  subst e
  cases r1
  have fp : ∀ b ∈ [s1.heap.objs.size], FpOk X pins H1 b := fun b hb => by
    have e : b = s1.heap.objs.size := by simpa using hb
    subst e
    exact I1.fpOk (Nat.le_refl _) (I1.hok.fresh (Nat.le_refl _))
  rcases q with ⟨⟨xs, hq⟩, q⟩ | ⟨⟨xs, hq⟩, q⟩
  · obtain ⟨its, rv, p, hz⟩ := I1.list hq
    refine wpAny_pyIter_list p.isList ?_
    exact ⟨s1.heap.objs.size, [s1.heap.objs.size], _, _, H1, rfl, I1.kept (t' := s1.toks) fun b o e => Heap.get?_push_of_some _ e, turn_list a _, ⟨_, Heap.get?_push_size _ rfl, rfl, rfl⟩, fp, q⟩
  · obtain ⟨its, rv, p, hz⟩ := I1.tuple hq
    refine wpAny_pyIter_tuple (show s1.heap.IsTuple a its.toArray from p) ?_
    exact ⟨s1.heap.objs.size, [s1.heap.objs.size], _, _, H1, rfl, I1.kept (t' := s1.toks) fun b o e => Heap.get?_push_of_some _ e, turn_tuple a _, ⟨_, Heap.get?_push_size _ rfl, rfl, rfl⟩, fp, q⟩
theorem frT {K : PySem.W.Frag} {S' : Addr → Prop} {H1 : Hp} {a : Addr} {xs : List V} (fr : Fr S H1 S' H') (e : (¬ S a ∧ H1 a = some (.tup xs)) ∨ WrT K a xs) : SqT K H' a xs := by
  rcases e with ⟨n, e⟩ | e
  · exact .inl (.inl (fr a _ n e).2)
  · exact .inr e
theorem walk_lst {xs : List V} {ds : List Dat} {p : Addr} (n : ¬ S p) (e : H p = some (.lst xs)) (hl : DvL G.X.K S H ds xs) : WalkOk G (Itl G.X.K p) ds S H := by
  refine ⟨fun i S' H' hi fr => ?_, fun i d S' σ' ρ' H' x H2 hd g fr y => ?_, fun S' H' fr => ⟨xs, .inl (.inl (fr p _ n e).2), by rw [hl.len]; exact Nat.le_refl _⟩⟩
  · obtain ⟨v, ev, _⟩ := hl.get (List.getElem?_eq_getElem hi)
    exact ⟨xs, v, .inl (.inl (fr p _ n e).2), ev⟩
  · obtain ⟨rfl, y⟩ := y
    obtain ⟨v, ev, hv⟩ := hl.get hd
    cases ev.symm.trans (y xs (.inl (.inl (fr p _ n e).2)))
    exact ⟨Stp.refl g.wld, hv.move fr⟩
theorem walk_tup {xs : List V} {ds : List Dat} {p : Addr} (e : (¬ S p ∧ H p = some (.tup xs)) ∨ WrT G.X.K p xs) (hl : DvL G.X.K S H ds xs) : WalkOk G (Itt G.X.K p) ds S H := by
  refine ⟨fun i S' H' hi fr => ?_, fun i d S' σ' ρ' H' x H2 hd g fr y => ?_, fun S' H' fr => ⟨xs, frT fr e, by rw [hl.len]; exact Nat.le_refl _⟩⟩
  · obtain ⟨v, ev, _⟩ := hl.get (List.getElem?_eq_getElem hi)
    exact ⟨xs, v, frT fr e, ev⟩
  · obtain ⟨rfl, y⟩ := y
    obtain ⟨v, ev, hv⟩ := hl.get hd
    cases ev.symm.trans (y xs (frT fr e))
    exact ⟨Stp.refl g.wld, hv.move fr⟩
theorem di_seq {tg : Expr} (ha : DE G a Fa) : DI G tg a (fun ρ P => Fa ρ fun x => seqOf x P) := by
  obtain ⟨t, h1, l1⟩ := ha.ex
  refine ⟨⟨_, pi_seq h1, fun S σ H ρ P R g h q => ?_⟩⟩
  refine l1 S σ H ρ _ _ g h fun v d H1 st hv hp => ?_
  cases d with
  | lst ds =>
    obtain ⟨p, xs, rfl, n, e, hl⟩ := dv_lst hv
    exact ⟨p, rfl, .inl ⟨⟨xs, .inl (.inl e)⟩, q _ ds H1 st (walk_lst n e hl) hp⟩⟩
  | tup ds =>
    obtain ⟨p, xs, rfl, e, hl⟩ := dv_tup hv
    exact ⟨p, rfl, .inr ⟨⟨xs, sqT_of e⟩, q _ ds H1 st (walk_tup e hl) hp⟩⟩
  | _ => exact hp.elim
/-- a text, sign by sign -/
def signs (z : Str) : List Dat := z.cps.toList.map fun c => .str ⟨#[c]⟩
theorem di_str {tg : Expr} (ha : DE G a Fa) : DI G tg a (fun ρ P => Fa ρ fun x => isS x fun z => P (signs z)) := by
  obtain ⟨t, h1, l1⟩ := ha.ex
  refine ⟨⟨_, pi_str h1, fun S σ H ρ P R g h q => ?_⟩⟩
  refine l1 S σ H ρ _ _ g h fun v d H1 st hv hp => ?_
  obtain ⟨z, rfl, hp⟩ := isS_inv hp
  cases dv_str hv
  refine ⟨z, rfl, q _ (signs z) H1 st ⟨fun i S' H' hi _ => ?_, fun i d S' σ' ρ' H' x H2 hd g fr y => ?_, fun S' H' _ => ?_⟩ hp⟩
  · have h2 : i < z.cps.size := by simpa [signs] using hi
    exact h2
  · obtain ⟨rfl, c, ec, rfl⟩ := y
    rw [signs, List.getElem?_map, Array.getElem?_toList, ec] at hd
    cases hd
    exact ⟨Stp.refl g.wld, rfl⟩
  · simp [signs, Its]
/-- range(n) -/
def rints (lo : Int) (n : Nat) : List Dat := (List.range n).map fun (i : Nat) => .int (lo + (i : Int))
theorem walk_rng {lo : Int} {n : Nat} : WalkOk G (Itr lo n) (rints lo n) S H := by
  refine ⟨fun i S' H' hi _ => by simpa [rints, Itr] using hi, fun i d S' σ' ρ' H' x H2 hd g fr y => ?_, fun S' H' _ => by simp [rints, Itr]⟩
  obtain ⟨rfl, rfl⟩ := y
  rw [rints, List.getElem?_map] at hd
  cases e : (List.range n)[i]? with
  | none => rw [e] at hd; cases hd
  | some j =>
    rw [e] at hd
    cases hd
    have hj : j = i := by
      obtain ⟨h1, h2⟩ := List.getElem?_eq_some_iff.mp e
      rw [List.getElem_range] at h2; exact h2.symm
    subst hj
    exact ⟨Stp.refl g.wld, rfl⟩
def int1 (ds : List Dat) (P : Int → Prop) : Prop := match ds with
  | [.int i] => P i
  | _ => False
def int2 (ds : List Dat) (P : Int → Int → Prop) : Prop := match ds with
  | [.int i, .int j] => P i j
  | _ => False
theorem di_range1 {tg : Expr} {p : Pos} {Fs : FA} (hm : G.X.mg "range" = none) (ha : DA G [a] Fs) (hg : Gl G.X "range" := by rfl) (hs : starEach [a] G.X.env = [(false, eval a G.X.env)] := by rfl) : DI G tg (.Call (.Name "range" p) [a] [] pos) (fun ρ P => Fs ρ fun ds => int1 ds fun n => (-(2 ^ 62) ≤ n ∧ n < 2 ^ 62) ∧ P (rints 0 n.toNat)) := by
  obtain ⟨t, h1, l1⟩ := ha.ex
  refine ⟨⟨_, pi_range1 hg hm h1 hs, fun S σ H ρ P R g h q => ?_⟩⟩
  refine l1 S σ H ρ _ _ g h fun vs ds H1 st hv hp => ?_
  unfold int1 at hp
  split at hp
  · obtain ⟨v, rfl, hd⟩ := dvl1 hv
    cases dv_int hd
    exact ⟨_, rfl, hp.1.1, hp.1.2, q _ _ H1 st walk_rng hp.2⟩
  · exact hp.elim
theorem di_range2 {tg : Expr} {p : Pos} {Fs : FA} (hm : G.X.mg "range" = none) (ha : DA G [a, b] Fs) (hg : Gl G.X "range" := by rfl) (hs : starEach [a, b] G.X.env = [(false, eval a G.X.env), (false, eval b G.X.env)] := by rfl) (hs2 : starEach [b] G.X.env = [(false, eval b G.X.env)] := by rfl) : DI G tg (.Call (.Name "range" p) [a, b] [] pos) (fun ρ P => Fs ρ fun ds => int2 ds fun m n => (-(2 ^ 62) ≤ m ∧ m < 2 ^ 62 ∧ -(2 ^ 62) ≤ n ∧ n < 2 ^ 62) ∧ P (rints m (n - m).toNat)) := by
  obtain ⟨t, h1, l1⟩ := ha.ex
  refine ⟨⟨_, pi_range2 hg hm h1 hs hs2, fun S σ H ρ P R g h q => ?_⟩⟩
  refine l1 S σ H ρ _ _ g h fun vs ds H1 st hv hp => ?_
  unfold int2 at hp
  split at hp
  · obtain ⟨v, w, rfl, hd, he⟩ := dvl2 hv
    cases dv_int hd; cases dv_int he
    exact ⟨_, _, rfl, hp.1, q _ _ H1 st walk_rng hp.2⟩
  · exact hp.elim
/-- zip of two lists, of two tuples -/
def zips : List Dat → List Dat → List Dat
  | x :: xs, y :: ys => .tup [x, y] :: zips xs ys
  | _, _ => []
theorem zips_get : ∀ {xs ys : List Dat} {i : Nat} {d : Dat}, (zips xs ys)[i]? = some d → ∃ x y, xs[i]? = some x ∧ ys[i]? = some y ∧ d = .tup [x, y]
  | [], _, _, _, h => by simp [zips] at h
  | _ :: _, [], _, _, h => by simp [zips] at h
  | x :: xs, y :: ys, 0, d, h => by simp [zips] at h; exact ⟨x, y, rfl, rfl, h.symm⟩
  | x :: xs, y :: ys, i + 1, d, h => by
    obtain ⟨x', y', h1, h2, h3⟩ := zips_get (xs := xs) (ys := ys) (i := i) (d := d) (by simpa [zips] using h)
    exact ⟨x', y', by simpa using h1, by simpa using h2, h3⟩
theorem zips_len : ∀ (xs ys : List Dat), (zips xs ys).length = min xs.length ys.length
  | [], _ => by simp [zips]
  | _ :: _, [] => by simp [zips]
  | x :: xs, y :: ys => by simp [zips, zips_len xs ys]
def zipD (ds : List Dat) (P : List Dat → Prop) : Prop := match ds with
  | [.lst x, .lst y] => P (zips x y)
  | [.tup x, .tup y] => P (zips x y)
  | _ => False
theorem di_zip {elts : List Expr} {kk : Nat} {tpos p : Pos} {Fs : FA} (hm : G.X.mg "zip" = none) (ha : DA G [a, b] Fs) (hg : Gl G.X "zip" := by rfl) (hs : starEach [a, b] G.X.env = (false, eval a G.X.env) :: starEach [b] G.X.env := by rfl) (hpl : (backTo pos (starEach [b] G.X.env)).any (·.1) = false := by rfl) :
    DI G (.Tuple elts kk tpos) (.Call (.Name "zip" p) [a, b] [] pos) (fun ρ P => Fs ρ fun ds => zipD ds P) := by
  obtain ⟨t, h1, l1⟩ := ha.ex
  refine ⟨⟨_, RZ.pi_zipA hg hm h1 hs hpl, fun S σ H ρ P R g h q => ?_⟩⟩
  refine l1 S σ H ρ _ _ g h fun vs ds H1 st hv hp => ?_
  have g1 := g.step st
  unfold zipD at hp
  split at hp
  · rename_i x y
    obtain ⟨v, w, rfl, hd, he⟩ := dvl2 hv
    obtain ⟨p1, xs, rfl, n1, e1, v1⟩ := dv_lst hd
    obtain ⟨p2, ys, rfl, n2, e2, v2⟩ := dv_lst he
    refine ⟨p1, p2, xs, ys, rfl, .inl ⟨.inl (.inl e1), .inl (.inl e2), q _ _ H1 st ⟨fun i S' H' hi fr => ?_, fun i d S' σ' ρ' H' z H2 hd g fr yl => ?_, fun S' H' fr => ?_⟩ hp⟩⟩
    · obtain ⟨x', y', h1, h2, _⟩ := zips_get (List.getElem?_eq_getElem hi)
      obtain ⟨u, eu, _⟩ := v1.get h1
      obtain ⟨u', eu', _⟩ := v2.get h2
      exact ⟨xs, ys, u, u', .inl (.inl (fr _ _ n1 e1).2), .inl (.inl (fr _ _ n2 e2).2), eu, eu'⟩
    · obtain ⟨x', y', h1, h2, rfl⟩ := zips_get hd
      obtain ⟨u, eu, hu⟩ := v1.get h1
      obtain ⟨u', eu', hu'⟩ := v2.get h2
      obtain ⟨T, c1, c2, rfl, nT, rfl, f1, f2⟩ := yl
      cases eu.symm.trans (f1 xs (.inl (.inl (fr _ _ n1 e1).2)))
      cases eu'.symm.trans (f2 ys (.inl (.inl (fr _ _ n2 e2).2)))
      have s2 : Stp G H' (upd H' T (.tup [u, u'])) := Stp.new g.wld nT
      exact ⟨s2, T, [u, u'], rfl, .inl ⟨g.fresh nT, upd_same⟩, s2.dvl g ⟨u, _, rfl, hu.move fr, u', _, rfl, hu'.move fr, rfl⟩⟩
    · refine ⟨xs, ys, .inl (.inl (fr _ _ n1 e1).2), .inl (.inl (fr _ _ n2 e2).2), ?_⟩
      rw [zips_len, v1.len, v2.len]
      omega
  · rename_i x y
    obtain ⟨v, w, rfl, hd, he⟩ := dvl2 hv
    obtain ⟨p1, xs, rfl, e1, v1⟩ := dv_tup hd
    obtain ⟨p2, ys, rfl, e2, v2⟩ := dv_tup he
    refine ⟨p1, p2, xs, ys, rfl, .inr ⟨sqT_of e1, sqT_of e2, q _ _ H1 st ⟨fun i S' H' hi fr => ?_, fun i d S' σ' ρ' H' z H2 hd g fr yl => ?_, fun S' H' fr => ?_⟩ hp⟩⟩
    · obtain ⟨x', y', h1, h2, _⟩ := zips_get (List.getElem?_eq_getElem hi)
      obtain ⟨u, eu, _⟩ := v1.get h1
      obtain ⟨u', eu', _⟩ := v2.get h2
      exact ⟨xs, ys, u, u', frT fr e1, frT fr e2, eu, eu'⟩
    · obtain ⟨x', y', h1, h2, rfl⟩ := zips_get hd
      obtain ⟨u, eu, hu⟩ := v1.get h1
      obtain ⟨u', eu', hu'⟩ := v2.get h2
      obtain ⟨T, c1, c2, rfl, nT, rfl, f1, f2⟩ := yl
      cases eu.symm.trans (f1 xs (frT fr e1))
      cases eu'.symm.trans (f2 ys (frT fr e2))
      have s2 : Stp G H' (upd H' T (.tup [u, u'])) := Stp.new g.wld nT
      exact ⟨s2, T, [u, u'], rfl, .inl ⟨g.fresh nT, upd_same⟩, s2.dvl g ⟨u, _, rfl, hu.move fr, u', _, rfl, hu'.move fr, rfl⟩⟩
    · refine ⟨xs, ys, frT fr e1, frT fr e2, ?_⟩
      rw [zips_len, v1.len, v2.len]
      omega
  · exact hp.elim

/-! ### for -/
def forF (g : FG) (body : FS) : List Dat → FS
  | [], D, ρ => D.nx ρ
  | d :: ds, D, ρ => g d ρ fun ρ' => body { nx := forF g body ds D, ct := forF g body ds D, bk := D.nx, rt := D.rt } ρ'
theorem lift_for {w : TI} {F : FI} {t : TG} {g : FG} {tb : TS} {body : FS} (lw : LiftI G w F) (lg : LiftG G t g) (lb : LiftS G tb body) : LiftS G (tFor w t tb) (fun D ρ => F ρ fun items => forF g body items D ρ) := by
  intro S σ H ρ D Dh gd h q
  refine lw S σ H ρ _ _ gd h fun J items H1 st wk hp => ?_
  have g1 := gd.step st
  have fr1 : Fr S H S H1 := st.fr gd
  refine ⟨fun i m σ' H' => m = items.length - i ∧ i ≤ items.length ∧ ∃ S' ρ', Gd G S' σ' H' ρ' ∧ Fr S H1 S' H' ∧ forF g body (items.drop i) D ρ', ⟨items.length, rfl, Nat.zero_le _, S, ρ, g1, Fr.refl _ _, hp⟩, ?_⟩
  rintro i m σ' H' ⟨rfl, hi, S', ρ', g', fr, hf⟩
  by_cases hlt : i < items.length
  · refine .inr ⟨wk.go i S' H' hlt fr, fun σ2 H2 => ∃ S2 ρ2, Gd G S2 σ2 H2 ρ2 ∧ Fr S H1 S2 H2 ∧ forF g body (items.drop (i + 1)) D ρ2, fun σ2 H2 ⟨S2, ρ2, a1, a2, a3⟩ => ⟨items.length - (i + 1), by omega, rfl, hlt, S2, ρ2, a1, a2, a3⟩, fun x H2 y => ?_⟩
    obtain ⟨s2, hd⟩ := wk.yld i _ S' σ' ρ' H' x H2 (List.getElem?_eq_getElem hlt) g' fr y
    have g2 := g'.step s2
    rw [List.drop_eq_getElem_cons hlt] at hf
    refine lg S' σ' H2 ρ' _ x _ _ g2 hd hf fun σ3 ρ3 g3 hb => ?_
    have frx : Fr S' H' S' H2 := s2.fr g'
    refine lb S' σ3 H2 ρ3 _ _ g3 hb ⟨fun S4 σ4 H4 ρ4 g4 fr4 hn => ⟨S4, ρ4, g4, (fr.trans frx).trans fr4, hn⟩, q.rt, fun S4 σ4 H4 ρ4 g4 fr4 hn => q.nx S4 σ4 H4 ρ4 g4 (fr1.trans ((fr.trans frx).trans fr4)) hn, fun S4 σ4 H4 ρ4 g4 fr4 hn => ⟨S4, ρ4, g4, (fr.trans frx).trans fr4, hn⟩⟩
  · have e : i = items.length := by omega
    subst e
    rw [List.drop_length] at hf
    exact .inl ⟨wk.stop S' H' fr, q.nx S' σ' H' ρ' g' (fr1.trans fr) hf⟩
theorem ds_for {tg iter : Expr} {body : List Stmt} {F : FI} {g : FG} {Fb : FS} (hp : PassesOwn (model G.X.prog G.X.w) G.X.A G.X.env G.X.xe) (hc : G.X.calm = true) (hi : DI G tg iter F) (hg : DG G tg g) (hb : DB G body Fb) (hs : ∀ x, foldedSetIterable iter G.X.env x = pure x := by intro _; rfl) :
    DS G (.For tg iter body [] pos) (fun D ρ => F ρ fun items => forF g Fb items D ρ) := by
  obtain ⟨w, h1, l1⟩ := hi.ex
  obtain ⟨t, h2, l2⟩ := hg.ex
  obtain ⟨u, h3, l3⟩ := hb.ex
  exact ⟨⟨_, ps_for hp hc h1 h2 h3 hs, lift_for l1 l2 l3⟩⟩

/-! ### comprehensions -/
/-- the frame of a comprehension -/
abbrev Ctx.blk (G : Ctx) (s : Shared) (H : Hp) (scope : Scope) (cenv : Env) (fp : List Addr) : Ctx := { G with X := G.X.blk s H scope cenv fp }
theorem Gd.blk {s : Shared} {H9 : Hp} {scope : Scope} {cenv : Env} {fp : List Addr} (g : Gd G S σ H ρ) : Gd (G.blk s H9 scope cenv fp) S σ H ρ := ⟨g.wld, g.all, g.sub, g.len, g.slots, g.apart⟩
def compF (Fg : FG) (Ft : FT) (Fe : FE) (ρ : List Slot) : List Dat → List Dat → (List Dat → Prop) → Prop
  | [], acc, P => P acc
  | d :: ds, acc, P => Fg d ρ fun ρ2 => Ft ρ2 fun b => if b = true then Fe ρ2 fun y => acc.length < sizeLine ∧ compF Fg Ft Fe ρ ds (acc ++ [y]) P else compF Fg Ft Fe ρ ds acc P
structure DTs (G : Ctx) (ifs : List Expr) (F : FT) : Prop where
  ex : ∃ t, PTs G.X ifs t ∧ LiftT G t F
theorem dts_nil : DTs G [] (fun _ P => P true) := ⟨⟨_, pts_nil, fun _ _ H _ _ _ g h q => q true H (Stp.refl g.wld) h⟩⟩
theorem dts_one {F : FT} (h : DT G a F) : DTs G [a] F := by
  obtain ⟨t, h, l⟩ := h.ex
  exact ⟨⟨_, pts_one h, l⟩⟩
/-- the weakest readings -/
def tW (G : Ctx) (F : FE) : TE := fun σ H Q => ∃ S ρ P, Gd G S σ H ρ ∧ F ρ P ∧ ∀ v d H', Stp G H H' → Dv G.X.K S H' d v → P d → Q v H'
def tTW (G : Ctx) (F : FT) : TT := fun σ H Q => ∃ S ρ P, Gd G S σ H ρ ∧ F ρ P ∧ ∀ b H', Stp G H H' → P b → Q b H'
theorem Stp.unblk {s : Shared} {H9 : Hp} {scope : Scope} {cenv : Env} {fp : List Addr} (g : Stp (G.blk s H9 scope cenv fp) H H') : Stp G H H' := ⟨g.wld, g.keep, g.has⟩
theorem DE.blk {e : Expr} {F : FE} {s : Shared} {H9 : Hp} {scope : Scope} {cenv : Env} {fp : List Addr} (h : DE (G.blk s H9 scope cenv fp) e F) : PE (G.X.blk s H9 scope cenv fp) e (tW G F) := by
  obtain ⟨t, h, l⟩ := h.ex
  refine ⟨fun pins s' σ H Q I ⟨S, ρ, P, g, hf, q⟩ => h.run pins s' σ H Q I (l S σ H ρ P Q g.blk hf fun v d H' st => q v d H' st.unblk)⟩
theorem DTs.blk {e : List Expr} {F : FT} {s : Shared} {H9 : Hp} {scope : Scope} {cenv : Env} {fp : List Addr} (h : DTs (G.blk s H9 scope cenv fp) e F) : PTs (G.X.blk s H9 scope cenv fp) e (tTW G F) := by
  obtain ⟨t, h, l⟩ := h.ex
  refine ⟨fun pins s' σ H Q I ⟨S, ρ, P, g, hf, q⟩ => h.run pins s' σ H Q I (l S σ H ρ P Q g.blk hf fun b H' st => q b H' st.unblk)⟩
/-- the new list changes; nothing else sees it -/
theorem Gd.acc {D : Addr} {o : HO} (g : Gd G S' σ H ρ) (sd : S' D) (h0 : G.H0 D = none) (hx : ∀ φ, H D ≠ some (.ext φ)) (hn : ∀ (i : Nat) (s : Slot), ρ[i]? = some s → s.isOwn = true → σ[i]? ≠ some (some (.ref D))) : Gd G S' σ (upd H D o) ρ ∧ Fr S' H S' (upd H D o) := by
  have fr : Fr S' H S' (upd H D o) := fun b u n e => ⟨n, by rw [upd_ne (fun z => n (by rw [z]; exact sd))]; exact e⟩
  refine ⟨⟨G.clo H _ g.wld (fun b u u0 e e' => by rw [upd_ne (fun z => by rw [z, h0] at e; cases e)]; exact e') (keepX_upd hx), fun b hb => ?_, g.sub, g.len, fun i s hs => (g.slots i s hs).move fr (fun _ z => z) fun b u ob eb e => ?_, g.apart⟩, fr⟩
  · by_cases hbp : b = D
    · exact ⟨o, by rw [hbp]; exact upd_same⟩
    · obtain ⟨u, e⟩ := g.all b hb
      exact ⟨u, by rw [upd_ne hbp]; exact e⟩
  · have hne : b ≠ D := fun z => by
      subst z
      refine hn i s hs ob ?_
      cases ee : σ[i]? with
      | none => rw [ee] at eb; cases eb
      | some o => rw [ee] at eb; cases eb; rfl
    rw [upd_ne hne]; exact e
theorem lift_lc {w : TI} {F : FI} {Ft : FT} {Fe : FE} (j : Nat) (lw : LiftI G w F) :
    ∀ S σ H ρ P (Q : VK), Gd G S σ H ρ → (F ρ fun items => compF (fun d ρ P => P (ρ.set j (.d d))) Ft Fe (ρ.set j .un) items [] P) → (∀ p xs ds H', H p = none → Stp G H H' → H' p = some (.lst xs) → DvL G.X.K (fun a => S a ∨ a = p) H' ds xs → P ds → Q (.ref p) H') → tLc w (gName j) (tTW G Ft) (tW G Fe) [j] σ H Q := by
  intro S σ H ρ P Q gd h q
  refine lw S σ H ρ _ _ gd h fun J items H1 st wk hp D nD => ?_
  have g1 := gd.step st
  have gw : Gd G S (σ.set j none) H1 (ρ.set j .un) := g1.wipe
  have nS : ¬ S D := g1.fresh nD
  have nS0 : ¬ G.S0 D := fun z => nS (gd.sub D z)
  have h0 : G.H0 D = none := g1.fresh0 nD
  have ndH : H D = none := by
    cases e : H D with
    | none => rfl
    | some o =>
      obtain ⟨o', e'⟩ := st.has D o e
      rw [nD] at e'; cases e'
  obtain ⟨g2, fr2⟩ := gw.grow (o := .lst []) nD
  have hn : ∀ (i : Nat) (s : Slot), (ρ.set j .un)[i]? = some s → s.isOwn = true → (σ.set j none)[i]? ≠ some (some (.ref D)) := fun i s hs ho e => by
    have k := gw.slots i s hs
    rw [e] at k
    obtain ⟨a, u, e1, _, e2, _⟩ := SlotOk.addr k ho
    cases e1
    rw [nD] at e2; cases e2
  have wipe1 : L2.wipe σ [j] = σ.set j none := rfl
  have hn2 : ∀ (d : Dat) (x : V) (i : Nat) (s : Slot), ((ρ.set j .un).set j (.d d))[i]? = some s → s.isOwn = true → ((σ.set j none).set j (some x))[i]? ≠ some (some (.ref D)) := fun d x i s hs ho => by
    by_cases hi : i = j
    · subst hi
      rw [getset, if_pos rfl] at hs
      split at hs
      · cases hs; cases ho
      · cases hs
    · rw [getset, if_neg hi] at hs
      rw [getset, if_neg hi]
      exact hn i s hs ho
  let Pv : Nat → Hp → Prop := fun i H' => ∃ acc dacc, H' D = some (.lst acc) ∧ DvL G.X.K (fun a => S a ∨ a = D) H' dacc acc ∧ Gd G (fun a => S a ∨ a = D) (σ.set j none) H' (ρ.set j .un) ∧ Fr S H1 (fun a => S a ∨ a = D) H' ∧ Stp G H H' ∧
    compF (fun d ρ P => P (ρ.set j (.d d))) Ft Fe (ρ.set j .un) (items.drop i) dacc P
  refine ⟨fun i m H' => m = items.length - i ∧ i ≤ items.length ∧ Pv i H', ⟨items.length, rfl, Nat.zero_le _, [], [], upd_same, rfl, g2, fr2, st.trans (Stp.new g1.wld nD), hp⟩, ?_⟩
  rintro i m H' ⟨rfl, hi, acc, dacc, eD, hacc, g', fr, st', hf⟩
  by_cases hlt : i < items.length
  · refine .inr ⟨wk.go i _ H' hlt fr, Pv (i + 1), fun H2 p => ⟨items.length - (i + 1), by omega, rfl, hlt, p⟩, fun x H2 y => ?_⟩
    obtain ⟨s2, hd⟩ := wk.yld i _ _ _ _ H' x H2 (List.getElem?_eq_getElem hlt) g' fr y
    have g3 := g'.step s2
    rw [List.drop_eq_getElem_cons hlt] at hf
    rw [wipe1]
    refine ⟨by show ((σ.set j none).set j (some x)).set j none = σ.set j none; rw [List.set_set, List.set_set], ?_⟩
    have gx : Gd G (fun a => S a ∨ a = D) ((σ.set j none).set j (some x)) H2 ((ρ.set j .un).set j (.d items[i])) := g3.set hd
    refine ⟨_, _, _, gx, hf, fun b H3 st3 hb => ?_⟩
    have s13 := s2.trans st3
    cases b with
    | false =>
      exact ⟨acc, dacc, s13.keep D _ nS0 eD, s13.dvl g' hacc, g'.step s13, fr.trans (s13.fr g'), st'.trans s13, hb⟩
    | true =>
      refine ⟨_, _, _, gx.step st3, hb, fun v d H4 st4 hv ⟨hz, hc⟩ => ?_⟩
      have s14 := s13.trans st4
      have g4 := g'.step s14
      have eD4 := s14.keep D _ nS0 eD
      obtain ⟨g5, fr5⟩ := g4.acc (o := .lst (acc ++ [v])) (.inr rfl) h0 (fun φ z => by rw [eD4] at z; cases z) hn
      have hacc4 := s14.dvl g' hacc
      refine ⟨acc, eD4, by rw [hacc4.len]; exact hz, acc ++ [v], dacc ++ [d], upd_same, (hacc4.append (es := [d]) (us := [v]) ⟨v, [], rfl, hv, rfl⟩).move fr5, g5, (fr.trans (s14.fr g')).trans fr5, ?_, hc⟩
      have ss := st'.trans s14
      refine ⟨g5.wld, fun a o n e => ?_, fun a o e => ?_⟩
      · rw [upd_ne (ne_of_none e ndH)]; exact ss.keep a o n e
      · obtain ⟨o', e'⟩ := ss.has a o e
        exact ⟨o', by rw [upd_ne (ne_of_none e ndH)]; exact e'⟩
  · have e : i = items.length := by omega
    subst e
    rw [List.drop_length] at hf
    exact .inl ⟨wk.stop _ H' fr, q D acc dacc H' ndH st' eD hacc hf⟩
abbrev gNm (j : Nat) : FG := fun d ρ P => P (ρ.set j (.d d))
theorem de_lc {elt tg iter : Expr} {ifs : List Expr} {scope : Scope} {x : Str} (j : Nat) {F : FI} {Ft : FT} {Fe : FE} (hc : G.X.calm = true) (hN : G.X.N.Nodup) (hi : DI G tg iter F) (ok : BlkOk G.X.N G.X.env.scope scope [(x, j)])
    (hg : ∀ (s : Shared) (H : Hp) (C : Addr) (cl : List (Str × Addr)) (fp : List Addr), PG (G.X.blk s H scope (compEnvC scope cl C G.X.env) fp) tg (gName j)) (ht : ∀ (s : Shared) (H : Hp) (C : Addr) (cl : List (Str × Addr)) (fp : List Addr), DTs (G.blk s H scope (compEnvC scope cl C G.X.env) fp) ifs Ft)
    (he : ∀ (s : Shared) (H : Hp) (C : Addr) (cl : List (Str × Addr)) (fp : List Addr), DE (G.blk s H scope (compEnvC scope cl C G.X.env) fp) elt Fe) (hs : ∀ x, foldedSetIterable iter G.X.env x = pure x := by intro _; rfl) :
    DE G (.ListComp elt [⟨tg, iter, ifs, 0⟩] scope pos) (fun ρ P => F ρ fun items => compF (gNm j) Ft Fe (ρ.set j .un) items [] fun ds => P (.lst ds)) := by
  obtain ⟨w, h1, l1⟩ := hi.ex
  refine ⟨⟨_, pe_lc (own := [(x, j)]) hc hN h1 ok hg (fun s H C cl fp => (ht s H C cl fp).blk) (fun s H C cl fp => (he s H C cl fp).blk) hs, fun S σ H ρ P Q g h q => ?_⟩⟩
  refine lift_lc j l1 S σ H ρ _ Q g h fun p xs ds H' np st e hv hp => ?_
  have nS : ¬ S p := g.fresh np
  exact q _ (.lst ds) H' st ⟨p, xs, rfl, nS, e, hv.move fun a o n e => ⟨fun z => n (.inl z), e⟩⟩ hp
theorem ds_setLc {y : Str} {py spos : Pos} {elt tg iter : Expr} {ifs : List Expr} {scope : Scope} {x : Str} (i j : Nat) {F : FI} {Ft : FT} {Fe : FE} (hc : G.X.calm = true) (hN : G.X.N.Nodup) (hsw : swapsWith (.ListComp elt [⟨tg, iter, ifs, 0⟩] scope pos) (some (.Name y py)) spos.line G.X.env = pure true) (hi : DI G tg iter F) (ok : BlkOk G.X.N G.X.env.scope scope [(x, j)])
    (hg : ∀ (s : Shared) (H : Hp) (C : Addr) (cl : List (Str × Addr)) (fp : List Addr), PG (G.X.blk s H scope (compEnvC scope cl C G.X.env) fp) tg (gName j)) (ht : ∀ (s : Shared) (H : Hp) (C : Addr) (cl : List (Str × Addr)) (fp : List Addr), DTs (G.blk s H scope (compEnvC scope cl C G.X.env) fp) ifs Ft)
    (he : ∀ (s : Shared) (H : Hp) (C : Addr) (cl : List (Str × Addr)) (fp : List Addr), DE (G.blk s H scope (compEnvC scope cl C G.X.env) fp) elt Fe) (hy : G.X.N[i]? = some y := by rfl) (hyl : G.X.env.scope.names.lookup y = some .local := by rfl) (hs : ∀ x, foldedSetIterable iter G.X.env x = pure x := by intro _; rfl) :
    DS G (.Assign [.Name y py] (.ListComp elt [⟨tg, iter, ifs, 0⟩] scope pos) spos) (fun D ρ => F ρ fun items => compF (gNm j) Ft Fe (ρ.set j .un) items [] fun ds => D.nx (ρ.set i (.d (.lst ds)))) := by
  obtain ⟨w, h1, l1⟩ := hi.ex
  refine ⟨⟨_, ps_setLc (i := i) (own := [(x, j)]) hc hN hy hyl hsw h1 ok hg (fun s H C cl fp => (ht s H C cl fp).blk) (fun s H C cl fp => (he s H C cl fp).blk) hs, fun S σ H ρ D Dh g h q => ?_⟩⟩
  refine lift_lc j l1 S σ H ρ _ _ g h fun p xs ds H' np st e hv hp => ?_
  have g1 := g.step st
  have nS : ¬ S p := g.fresh np
  exact q.nx S _ H' _ (g1.set (d := .lst ds) ⟨p, xs, rfl, nS, e, hv.move fun a o n e => ⟨fun z => n (.inl z), e⟩⟩) (st.fr g) hp
end
end DL
namespace DL
open PySem PySem.Spec PyProof.Rows L2
section
variable {G : Ctx} {S S' : Addr → Prop} {σ : L2.St} {H H' : Hp} {ρ : List Slot} {pos : Pos} {a b : Expr} {Fa Fb : FE}
/-! ### lists of one's own -/
def ownL (ρ : List Slot) (i : Nat) (P : List Dat → Prop) : Prop := match ρ[i]? with
  | some (.own ds) => P ds
  | _ => False
theorem ownL_inv {ρ : List Slot} {i : Nat} {P : List Dat → Prop} (h : ownL ρ i P) : ∃ x, ρ[i]? = some (.own x) ∧ P x := by
  unfold ownL at h
  split at h
  · rename_i x e; exact ⟨x, e, h⟩
  · exact h.elim
/-- name = [e, ..], the list one's own -/
theorem ds_setOwn {x : Str} {pos' p2 : Pos} {es : List Expr} {Fs : FA} (i : Nat) (he : DA G es Fs) (hN : G.X.N.Nodup) (hi : G.X.N[i]? = some x := by rfl) (hx : Loc G.X.env.scope x := by first | exact Or.inl rfl | exact Or.inr rfl) (hs : swapsWith (.List es p2) (some (.Name x pos')) pos.line G.X.env = pure false := by rfl)
    (hf : G.X.fn x = true ∨ G.X.env.scope.names.lookup x = some .local := by first | exact .inl rfl | exact .inr rfl) : DS G (.Assign [.Name x pos'] (.List es p2) pos) (fun D ρ => Fs ρ fun ds => ds.length ≤ sizeLine ∧ D.nx (ρ.set i (.own ds))) := by
  obtain ⟨t, h, l⟩ := he.ex
  refine ⟨⟨_, ps_set (i := i) hN hi hx (pe_lst h) hs hf, fun S σ H ρ D Dh g h q => ?_⟩⟩
  refine l S σ H ρ _ _ g h fun vs ds H1 st hv hp => ⟨by rw [hv.len]; exact hp.1, fun p np => ?_⟩
  have g1 := g.step st
  obtain ⟨g2, fr⟩ := g1.grow (o := .lst vs) np
  exact q.nx _ _ _ _ (g1.setOwn (i := i) (s := .own ds) np rfl ⟨p, vs, rfl, .inr rfl, g1.fresh0 np, upd_same, hv.move fr⟩) (Fr.trans (st.fr g) fr) hp.2
theorem own_append {i : Nat} {ds es : List Dat} {p : Addr} {xs ys : List V} (g : Gd G S σ H ρ) (hs : ρ[i]? = some (.own ds)) (hp : σ[i]? = some (some (.ref p))) (sp : S p) (e0 : G.H0 p = none) (hl : DvL G.X.K S H ds xs) (hy : DvL G.X.K S H es ys) :
    Gd G S σ (upd H p (.lst (xs ++ ys))) (ρ.set i (.own (ds ++ es))) ∧ Fr S H S (upd H p (.lst (xs ++ ys))) := by
  have fr : Fr S H S (upd H p (.lst (xs ++ ys))) := fun b u n e => ⟨n, by rw [upd_ne (fun z => n (by rw [z]; exact sp))]; exact e⟩
  exact g.write (s' := .own (ds ++ es)) hs hp rfl rfl ⟨p, xs ++ ys, rfl, sp, e0, upd_same, (hl.append hy).move fr⟩
/-- name.append(e), the list one's own -/
theorem ds_append {x : Str} {e : Expr} {F : FE} {np apos cpos : Pos} (i : Nat) (hi : G.X.N[i]? = some x := by rfl) (hv : Vis G.X.env.scope x := by first | exact Or.inl rfl | exact Or.inr (Or.inl rfl) | exact Or.inr (Or.inr rfl)) (hd : (x == ("__debug__" : Str)) = false := by decide)
    (hcd : (x == ("__classdict__" : Str)) = false := by decide) (he : DE G e F) (hst : starEach [e] G.X.env = (false, eval e G.X.env) :: starEach [] G.X.env := by rfl)
    (hbase : attributeBase (.Name x np) "append" G.X.env (eval (.Name x np) G.X.env) = eval (.Name x np) G.X.env := by rfl)
    (hfew : ((backTo cpos (starEach [e] G.X.env)).all (fun x => !x.1) && (backToKw cpos (keywordEach [] G.X.env)).all (fun x => x.1.isSome) && decide ([e].length + ([] : List Keyword).length + (if ([] : List Keyword).isEmpty then 0 else 1) < 30)) = true := by rfl)
    (hline : (apos.endLine == cpos.line) = true := by rfl) (hplain : (backTo cpos (starEach [] G.X.env)).any (·.1) = false := by rfl) (hs : swapsWith (.Call (.Attribute (.Name x np) "append" apos) [e] [] cpos) none pos.line G.X.env = pure false := by rfl) :
    DS G (.Expr (.Call (.Attribute (.Name x np) "append" apos) [e] [] cpos) pos) (fun D ρ => ownL ρ i fun ds => F ρ fun y => ds.length < sizeLine ∧ D.nx (ρ.set i (.own (ds ++ [y])))) := by
  obtain ⟨t, h, l⟩ := he.ex
  refine ⟨⟨_, ps_expr (pe_bm PySem.F.plainAttrs_list PySem.F.slot_list_append PySem.F.type_list_append mt_append (pe_var hi hv hd hcd) (pa_cons h pa_nil hst) hbase hfew hline hst hplain) hs, fun S σ H ρ D Dh g h q => ?_⟩⟩
  obtain ⟨ds, es, hf⟩ := ownL_inv h
  obtain ⟨p, xs, e1, sp, e0, eh, hl⟩ := g.slot_own es
  refine ⟨.ref p, e1, .inl ⟨rfl, xs, .inl (.inl eh)⟩, l S σ H ρ _ _ g hf fun v d H1 st hv ⟨hz, hp⟩ => ?_⟩
  have g1 := g.step st
  obtain ⟨p', xs', e1', sp', e0', eh', hl'⟩ := g1.slot_own es
  cases e1.symm.trans e1'
  obtain ⟨g2, fr⟩ := own_append (es := [d]) (ys := [v]) g1 es e1 sp e0 hl' ⟨v, [], rfl, hv, rfl⟩
  exact ⟨p, xs', v, rfl, rfl, eh', by rw [hl'.len]; exact hz, q.nx _ _ _ _ g2 (Fr.trans (st.fr g) fr) hp⟩
/-- name.extend(e), the list one's own -/
def lstD (d : Dat) (P : List Dat → Prop) : Prop := match d with
  | .lst ds => P ds
  | _ => False
theorem ds_extend {x : Str} {e : Expr} {F : FE} {np apos cpos : Pos} (i : Nat) (hi : G.X.N[i]? = some x := by rfl) (hv : Vis G.X.env.scope x := by first | exact Or.inl rfl | exact Or.inr (Or.inl rfl) | exact Or.inr (Or.inr rfl)) (hd : (x == ("__debug__" : Str)) = false := by decide)
    (hcd : (x == ("__classdict__" : Str)) = false := by decide) (he : DE G e F) (hst : starEach [e] G.X.env = (false, eval e G.X.env) :: starEach [] G.X.env := by rfl)
    (hbase : attributeBase (.Name x np) "extend" G.X.env (eval (.Name x np) G.X.env) = eval (.Name x np) G.X.env := by rfl)
    (hfew : ((backTo cpos (starEach [e] G.X.env)).all (fun x => !x.1) && (backToKw cpos (keywordEach [] G.X.env)).all (fun x => x.1.isSome) && decide ([e].length + ([] : List Keyword).length + (if ([] : List Keyword).isEmpty then 0 else 1) < 30)) = true := by rfl)
    (hline : (apos.endLine == cpos.line) = true := by rfl) (hplain : (backTo cpos (starEach [] G.X.env)).any (·.1) = false := by rfl) (hs : swapsWith (.Call (.Attribute (.Name x np) "extend" apos) [e] [] cpos) none pos.line G.X.env = pure false := by rfl) :
    DS G (.Expr (.Call (.Attribute (.Name x np) "extend" apos) [e] [] cpos) pos) (fun D ρ => ownL ρ i fun ds => F ρ fun y => lstD y fun es => ds.length + es.length ≤ sizeLine ∧ D.nx (ρ.set i (.own (ds ++ es)))) := by
  obtain ⟨t, h, l⟩ := he.ex
  refine ⟨⟨_, ps_expr (pe_bm PySem.F.plainAttrs_list PySem.F.slot_list_extend PySem.F.type_list_extend mt_extend (pe_var hi hv hd hcd) (pa_cons h pa_nil hst) hbase hfew hline hst hplain) hs, fun S σ H ρ D Dh g h q => ?_⟩⟩
  obtain ⟨ds, es, hf⟩ := ownL_inv h
  obtain ⟨p, xs, e1, sp, e0, eh, hl⟩ := g.slot_own es
  refine ⟨.ref p, e1, .inl ⟨rfl, xs, .inl (.inl eh)⟩, l S σ H ρ _ _ g hf fun v d H1 st hv hp => ?_⟩
  have g1 := g.step st
  obtain ⟨p', xs', e1', sp', e0', eh', hl'⟩ := g1.slot_own es
  cases e1.symm.trans e1'
  cases d with
  | lst ys =>
    obtain ⟨c, zs, rfl, n, ec, hl2⟩ := dv_lst hv
    obtain ⟨g2, fr⟩ := own_append g1 es e1 sp e0 hl' hl2
    exact ⟨p, c, xs', zs, rfl, rfl, eh', ec, by rw [hl'.len, hl2.len]; exact hp.1, q.nx _ _ _ _ g2 (Fr.trans (st.fr g) fr) hp.2⟩
  | _ => exact hp.elim

/-! ### dicts -/
def getK : List Key → List Dat → Key → Option Dat
  | k0 :: ks, d0 :: ds, k => if k0 = k then some d0 else getK ks ds k
  | _, _, _ => none
theorem dkey {K : PySem.W.Frag} : ∀ {kvs : List (Key × V)} {ks : List Key} {ds : List Dat} {k : Key}, kvs.map (·.1) = ks → DvL K S H ds (kvs.map (·.2)) → ∀ {d : Dat}, getK ks ds k = some d → ∃ v, valV kvs k = some v ∧ Dv K S H d v
  | [], ks, ds, k, hk, hv, d, h => by
    subst hk; simp [getK] at h
  | (k0, v0) :: r, ks, ds, k, hk, hv, d, h => by
    subst hk
    cases ds with
    | nil => simp [getK] at h
    | cons d0 ds =>
      obtain ⟨v, r', e1, h1, h2⟩ := (hv : ∃ v r', _ = v :: r' ∧ Dv K S H d0 v ∧ DvL K S H ds r')
      rw [List.map_cons] at e1
      injection e1 with ea eb
      subst ea; subst eb
      rw [List.map_cons, getK] at h
      by_cases e : k0 = k
      · rw [if_pos e] at h
        cases h
        exact ⟨v0, valV_pos e, h1⟩
      · rw [if_neg e] at h
        obtain ⟨v, ev, hv'⟩ := dkey (kvs := r) rfl h2 h
        exact ⟨v, by rw [valV_neg e]; exact ev, hv'⟩
/-- d[text] -/
def getD : R2D
  | .dic ks ds, .str z, P => someD (getK ks ds (Sum.inr z)) P
  | _, _, _ => False
theorem de_dget (hu : G.X.A.units + 1 < cLine) (ha : DE G a Fa) (hb : DE G b Fb) (hs : NoSl b := by exact fun _ _ => rfl) : DE G (.Subscript a b pos) (fun ρ P => Fa ρ fun x => Fb ρ fun y => getD x y P) := by
  obtain ⟨ta, h1, l1⟩ := ha.ex
  obtain ⟨tb, h2, l2⟩ := hb.ex
  refine ⟨⟨_, pe_dget hu h1 h2 hs, fun S σ H ρ P Q g h q => ?_⟩⟩
  refine l1 S σ H ρ _ _ g h fun v d H1 st hv hp => ?_
  have g1 := g.step st
  refine l2 S σ H1 ρ _ _ g1 hp fun v2 d2 H2 st2 hv2 hp => ?_
  cases d with
  | dic ks ds =>
    cases d2 with
    | str z =>
      cases dv_str hv2
      obtain ⟨d, e, hp⟩ := someD_inv hp
      obtain ⟨p, kvs, rfl, n, e1, ek, hl⟩ := dv_dic (st2.dv g1 hv)
      obtain ⟨w, ew, hw⟩ := dkey ek hl e
      exact ⟨p, w, rfl, by rw [← ew]; exact DGet.k (k := Sum.inr z) e1, q w d H2 (st.trans st2) hw hp⟩
    | _ => exact hp.elim
  | _ => exact hp.elim
/-- sorted(d), the keys texts -/
def keyStrs : List Key → Option (List Str)
  | [] => some []
  | .inr x :: r => (keyStrs r).map (x :: ·)
  | .inl _ :: _ => none
theorem keyStrs_eq : ∀ {ks : List Key} {zs : List Str}, keyStrs ks = some zs → ks = zs.map Sum.inr
  | [], _, h => by cases h; rfl
  | .inr x :: r, _, h => by
    unfold keyStrs at h
    cases e : keyStrs r with
    | none => rw [e] at h; cases h
    | some ys => rw [e] at h; cases h; rw [keyStrs_eq e]; rfl
  | .inl _ :: _, _, h => by cases h
def sortedD : RCD
  | [.dic ks _], P => someD (keyStrs ks) fun zs => zs.length < 64 ∧ ∀ ys : List Str, ys.Perm zs → sortedS ys = true → P (.lst (ys.map Dat.str))
  | _, _ => False
theorem serves_sortedD : ServesC G (fun xs H Q => ∃ (a : Addr) (kvs : List (Key × V)) (ks : List Str), xs = [.ref a] ∧ Rd H a (.dK kvs) ∧ kvs.map (·.1) = ks.map Sum.inr ∧ ks.length < 64 ∧
    ∀ ys p, ys.Perm ks → sortedS ys = true → H p = none → Q (.ref p) (upd H p (.lst (ys.map V.str)))) sortedD := by
  intro S σ ρ H vs ds P Q g hv h q
  unfold sortedD at h
  split at h
  · obtain ⟨zs, e, h64, hp⟩ := someD_inv h
    obtain ⟨v, rfl, h1⟩ := dvl1 hv
    obtain ⟨p, kvs, rfl, n, e1, ek, hl⟩ := dv_dic h1
    exact ⟨p, kvs, zs, rfl, .inl e1, by rw [ek, keyStrs_eq e], h64, fun ys p hperm hs np => new_lst g (DvL.of_strs ys) (hp ys hperm hs) q p np⟩
  · exact h.elim
theorem de_sortedD {p : Pos} {Fs : FA} (hc : G.X.calm = true) (hm : G.X.mg "sorted" = none) (ha : DA G [a] Fs) (hg : Gl G.X "sorted" := by rfl) (he : starEach [a] G.X.env = (false, eval a G.X.env) :: starEach [] G.X.env := by rfl) : DE G (.Call (.Name "sorted" p) [a] [] pos) (fun ρ P => Fs ρ fun ds => sortedD ds P) := de_cb (call_sortedD hc) serves_sortedD hm (by decide +kernel) ha hg (he := he)
/-- {} -/
theorem de_dnew : DE G (.Dict [] [] pos) (fun _ P => P (.dic [] [])) := by
  refine ⟨⟨_, pe_dnewK, fun S σ H ρ P Q g h q => fun p np => ?_⟩⟩
  exact q _ (.dic [] []) _ (Stp.new g.wld np) ⟨p, [], rfl, g.fresh np, upd_same, rfl, rfl⟩ h
end
end DL
namespace DL
open PySem PySem.Spec PyProof.Rows L2
/-! ### t * 1 is t -/
theorem tuple_mul1 (l : Addr) (items : Array Value) (n : Nat) (dd : Option Addr) (sl : Array (Option Value)) (u : Tok) :
    Meets (Builtin.«tuple.__mul__» ⟨[.ref l, .int 1 u], []⟩) (fun _ R s => s.heap.get? l = some { cls := .type "tuple", dict := dd, data := .seq items n, slots := sl } ∧ R (.ok (.ret (Value.ref l))) s) :=
  .of_wp fun prog w A R s h => by
    obtain ⟨hp, g, d, tk, os⟩ := s
    obtain ⟨hl, h⟩ := h
    have f1 := AutoSeq1.idx_int
    have c1 : (items.isEmpty || (1 : Int) == 1) = true := by simp
    wp_walk using wpAny_loadPart' hl
    exact ⟨_, rfl, h⟩
def rRep1 (K : PySem.W.Frag) : R2 := fun x y H Q => ∃ l xs, x = .ref l ∧ y = .int 1 ∧ SqT K H l xs ∧ Q (.ref l) H
section
variable {X : Cx}
theorem op_rep1 : OpR X (binaryOp .Mult) (rRep1 X.K) := by
  intro pins s σ H x y v u Q I rx ry h
  obtain ⟨l, xs, rfl, rfl, hT, q⟩ := h
  cases rx
  obtain ⟨t, rfl⟩ := ry
  obtain ⟨its, r, ⟨⟨cls, dd, data, sl⟩, ho, hc, n, hd⟩, hs⟩ := I.tuple hT
  simp only at hc hd
  subst hc hd
  exact wpAny_binaryOp_repeat_ref (T := "tuple") (U := "int") (by decide) ⟨_, ho, rfl⟩ (fun s' => typeIs_int s' 1 t) noFill_tuple_mul F.fills_int_mul F.slot_int_rmul repeat_tuple F.slot_int_index.lookup
    (call_meets F.slot_int_rmul (typeIs_int s 1 t) F.entry_int_rmul (F.args_int_rmul_2 _ _) (int_rmul_tuple 1 t l its.toArray n dd sl)
      ⟨ho, rfl, ⟨_, ho, rfl⟩, call_meets F.slot_tuple_mul ⟨_, ho, rfl⟩ F.entry_tuple_mul (F.args_tuple_mul_2 _ _) (tuple_mul1 l its.toArray n dd sl t) ⟨ho, .ref l, H, I, rfl, q⟩⟩)
end
section
variable {G : Ctx} {S S' : Addr → Prop} {σ : L2.St} {H H' : Hp} {ρ : List Slot} {pos : Pos} {a b : Expr} {Fa Fb : FE}
def repD : R2D
  | .tup ds, .int k, P => ds ≠ [] ∧ 1 ≤ k ∧ k ≤ 1000 ∧ ds.length ≤ 1000 ∧ P (.tup (List.replicate k.toNat ds).flatten)
  | _, _, _ => False
theorem DvL.rep {K : PySem.W.Frag} {ds : List Dat} {xs : List V} (v : DvL K S H ds xs) : ∀ k : Nat, DvL K S H (List.replicate k ds).flatten (List.replicate k xs).flatten
  | 0 => rfl
  | k + 1 => by
    rw [List.replicate_succ, List.replicate_succ, List.flatten_cons, List.flatten_cons]
    exact v.append (v.rep k)
theorem serves_rep : Serves G (fun x y H Q => rRepT G.X.K x y H Q ∨ rRep1 G.X.K x y H Q) repD := by
  intro S σ ρ H x y dx dy P Q g hx hy h q
  cases dx with
  | tup ds =>
    cases dy with
    | int k =>
      obtain ⟨h1, h2, h3, h4, hp⟩ := h
      obtain ⟨a, xs, rfl, e, hl⟩ := dv_tup hx
      cases dv_int hy
      by_cases hk : k = 1
      · subst hk
        refine .inr ⟨a, xs, rfl, rfl, sqT_of e, q _ (.tup ds) H (Stp.refl g.wld) hx ?_⟩
        simpa using hp
      · exact .inl ⟨a, k, xs, rfl, rfl, sqT_of e, fun z => h1 (List.length_eq_zero_iff.mp (by rw [← hl.len, z]; rfl)), by omega, h3, by rw [hl.len]; exact h4, new_tup g (hl.rep k.toNat) hp q⟩
    | _ => exact h.elim
  | _ => exact h.elim
theorem de_rep (ha : DE G a Fa) (hb : DE G b Fb) : DE G (.BinOp a .Mult b pos) (fun ρ P => Fa ρ fun x => Fb ρ fun y => repD x y P) := de_bin (.or op_repT op_rep1) serves_rep ha hb

/-! ### written dicts with text keys -/
structure WD (K : PySem.W.Frag) (w : World) (d : Addr) (tab : Str → Option Value) : Prop where
  ex : ∃ es n, KDict K w d es n
  get : ∀ z, PySem.W.nsIn K d z = some (tab z)
def tabIn (neg : Bool) (tab : Str → Option Dat) (x : Dat) (P : Dat → Prop) : Prop := isS x fun z => P (.bl (if neg then !(tab z).isSome else (tab z).isSome))
/-- what the written values stand for -/
def TabOk (K : PySem.W.Frag) (tv : Str → Option Value) (td : Str → Option Dat) : Prop := ∀ z, match tv z, td z with
  | some u, some d => ∃ v, RelV v u ∧ ∀ S H, Dv K S H d v
  | none, none => True
  | _, _ => False
theorem TabOk.some {K : PySem.W.Frag} {tv : Str → Option Value} {td : Str → Option Dat} (h : TabOk K tv td) (z : Str) : (tv z).isSome = (td z).isSome := by
  have q := h z
  cases e : tv z <;> cases e2 : td z <;> rw [e, e2] at q <;> first | rfl | exact q.elim
theorem de_inW {x : Str} {d : Addr} {tv : Str → Option Value} {td : Str → Option Dat} {p : Pos} (W : WD G.X.K G.X.w d tv) (T : TabOk G.X.K tv td) (hm : G.X.mg x = some (.ref d)) (ha : DE G a Fa) (hg : Gl G.X x := by rfl) (hd : (x == ("__debug__" : Str)) = false := by decide) (hb : behindInMarks .In (.Name x p) = false := by rfl) :
    DE G (.Compare a [.In] [.Name x p] pos) (fun ρ P => Fa ρ fun y => tabIn false td y P) := by
  obtain ⟨es, n, D⟩ := W.ex
  obtain ⟨t, h, l⟩ := ha.ex
  refine ⟨⟨_, pe_cmpR (op_in_kd D) h (pe_glob (v := .ref d) hg hm rfl hd) hb, fun S σ H ρ P Q g h q => ?_⟩⟩
  refine l S σ H ρ _ _ g h fun v d' H1 st hv hp => ?_
  obtain ⟨z, rfl, hp⟩ := isS_inv hp
  cases dv_str hv
  refine ⟨z, _, rfl, rfl, W.get z, ?_⟩
  rw [T.some z]
  exact q _ (.bl _) H1 st rfl hp
theorem de_ninW {x : Str} {d : Addr} {tv : Str → Option Value} {td : Str → Option Dat} {p : Pos} (W : WD G.X.K G.X.w d tv) (T : TabOk G.X.K tv td) (hm : G.X.mg x = some (.ref d)) (ha : DE G a Fa) (hg : Gl G.X x := by rfl) (hd : (x == ("__debug__" : Str)) = false := by decide) (hb : behindInMarks .NotIn (.Name x p) = false := by rfl) :
    DE G (.Compare a [.NotIn] [.Name x p] pos) (fun ρ P => Fa ρ fun y => tabIn true td y P) := by
  obtain ⟨es, n, D⟩ := W.ex
  obtain ⟨t, h, l⟩ := ha.ex
  refine ⟨⟨_, pe_cmpR (op_notIn_kd D) h (pe_glob (v := .ref d) hg hm rfl hd) hb, fun S σ H ρ P Q g h q => ?_⟩⟩
  refine l S σ H ρ _ _ g h fun v d' H1 st hv hp => ?_
  obtain ⟨z, rfl, hp⟩ := isS_inv hp
  cases dv_str hv
  refine ⟨z, _, rfl, rfl, W.get z, ?_⟩
  rw [T.some z]
  exact q _ (.bl _) H1 st rfl hp
theorem dt_inW {x : Str} {d : Addr} {tv : Str → Option Value} {td : Str → Option Dat} {p : Pos} (W : WD G.X.K G.X.w d tv) (T : TabOk G.X.K tv td) (hm : G.X.mg x = some (.ref d)) (ha : DE G a Fa) (hg : Gl G.X x := by rfl) (hd : (x == ("__debug__" : Str)) = false := by decide) (hb : behindInMarks .In (.Name x p) = false := by rfl) :
    DT G (.Compare a [.In] [.Name x p] pos) (fun ρ P => Fa ρ fun y => tabIn false td y fun z => isB z P) := by
  obtain ⟨es, n, D⟩ := W.ex
  obtain ⟨t, h, l⟩ := ha.ex
  refine ⟨⟨_, pt_cmpR (op_in_kd D) h (pe_glob (v := .ref d) hg hm rfl hd) hb, fun S σ H ρ P Q g h q => ?_⟩⟩
  refine l S σ H ρ _ _ g h fun v d' H1 st hv hp => ?_
  obtain ⟨z, rfl, hp⟩ := isS_inv hp
  cases dv_str hv
  refine ⟨z, _, rfl, rfl, W.get z, ?_⟩
  rw [T.some z]
  exact ⟨_, rfl, q _ H1 st hp⟩
theorem dt_ninW {x : Str} {d : Addr} {tv : Str → Option Value} {td : Str → Option Dat} {p : Pos} (W : WD G.X.K G.X.w d tv) (T : TabOk G.X.K tv td) (hm : G.X.mg x = some (.ref d)) (ha : DE G a Fa) (hg : Gl G.X x := by rfl) (hd : (x == ("__debug__" : Str)) = false := by decide) (hb : behindInMarks .NotIn (.Name x p) = false := by rfl) :
    DT G (.Compare a [.NotIn] [.Name x p] pos) (fun ρ P => Fa ρ fun y => tabIn true td y fun z => isB z P) := by
  obtain ⟨es, n, D⟩ := W.ex
  obtain ⟨t, h, l⟩ := ha.ex
  refine ⟨⟨_, pt_cmpR (op_notIn_kd D) h (pe_glob (v := .ref d) hg hm rfl hd) hb, fun S σ H ρ P Q g h q => ?_⟩⟩
  refine l S σ H ρ _ _ g h fun v d' H1 st hv hp => ?_
  obtain ⟨z, rfl, hp⟩ := isS_inv hp
  cases dv_str hv
  refine ⟨z, _, rfl, rfl, W.get z, ?_⟩
  rw [T.some z]
  exact ⟨_, rfl, q _ H1 st hp⟩
/-- D[key] of a written dict -/
theorem pe_itemW {X : Cx} {d : Addr} {es : Array DictEntry} {n : Nat} {o i : Expr} {ta tb : TE} (D : KDict X.K X.w d es n) (ha : PE X o ta) (hb : PE X i tb) (hs : NoSl i) : PE X (.Subscript o i pos) (fun σ H Q => ta σ H fun x H1 => tb σ H1 fun y H2 => ∃ (z : Str) (u0 : Value) (v0 : V), x = .ref d ∧ y = .str z ∧ PySem.W.nsIn X.K d z = some (some u0) ∧ RelV v0 u0 ∧ Q v0 H2) := by
  refine ⟨fun pins s σ H Q I h => ?_⟩
  refine subD_of PySem.F.slot_dict_getitem.lookup hs (thn (ha.run pins s σ H _ I h) fun u s1 ⟨x, H1, I1, rx, q1⟩ => thn (hb.run pins s1 σ H1 _ I1 q1) fun iv s2 ⟨y, H2, I2, ry, z, u0, v0, ex, ey, en, rv, q2⟩ => ?_)
  subst ex
  obtain rfl : u = Value.ref d := rx
  exact ⟨kd_type D I2, op_item_kd D pins s2 σ H2 (.ref d) y _ _ Q I2 rfl ry ⟨z, u0, v0, rfl, ey, en, rv, q2⟩⟩
theorem de_itemW {x : Str} {d : Addr} {tv : Str → Option Value} {td : Str → Option Dat} {p : Pos} (W : WD G.X.K G.X.w d tv) (T : TabOk G.X.K tv td) (hm : G.X.mg x = some (.ref d)) (hb : DE G b Fb) (hg : Gl G.X x := by rfl) (hd : (x == ("__debug__" : Str)) = false := by decide) (hs : NoSl b := by exact fun _ _ => rfl) :
    DE G (.Subscript (.Name x p) b pos) (fun ρ P => Fb ρ fun y => isS y fun z => someD (td z) P) := by
  obtain ⟨es, n, D⟩ := W.ex
  obtain ⟨t, h, l⟩ := hb.ex
  refine ⟨⟨_, pe_itemW D (pe_glob (v := .ref d) hg hm rfl hd) h hs, fun S σ H ρ P Q g h q => ?_⟩⟩
  refine l S σ H ρ _ _ g h fun v d' H1 st hv hp => ?_
  obtain ⟨z, rfl, hp⟩ := isS_inv hp
  obtain ⟨dt, e, hp⟩ := someD_inv hp
  cases dv_str hv
  have k := T z
  rw [e] at k
  cases e2 : tv z with
  | none => rw [e2] at k; exact k.elim
  | some u =>
    rw [e2] at k
    obtain ⟨v, rv, hdv⟩ := k
    exact ⟨z, u, v, rfl, rfl, by rw [W.get z, e2], rv, q v dt H1 st (hdv _ _) hp⟩
/-! ### a def by its name -/
structure Callee (P : Program) (w : World) (K : PySem.W.Frag) (mg : Str → Option Value) (base : Heap) (x : Str) (k : Nat) (ps : List Str) (C : Con) : Prop where
  ex : ∃ f fd, FnOk P w K mg base CX0 k f fd ps (spD K C) ∧ mg x = some (.ref f) ∧ PySem.W.keepIn K (.ref f) = true ∧ Binds K fd ps []
theorem de_fn {x : Str} {k m : Nat} {ps : List Str} {C : Con} {p : Pos} {e : Expr} {es : List Expr} {Fs : FA} (h : Callee G.X.prog G.X.w G.X.K G.X.mg G.X.base x k ps C) (hr : Room m G.X.A) (ha : DA G (e :: es) Fs) (hk : k ≤ m := by decide) (hg : Gl G.X x := by rfl) (hdb : (x == ("__debug__" : Str)) = false := by decide)
    (he : starEach (e :: es) G.X.env = (false, eval e G.X.env) :: starEach es G.X.env := by rfl) (hpl : (backTo pos (starEach es G.X.env)).any (·.1) = false := by rfl) :
    DE G (.Call (.Name x p) (e :: es) [] pos) (fun ρ P => Fs ρ fun ds => C.C ds P (fun _ => False)) := by
  obtain ⟨f, fd, F, hm, hkp, hb⟩ := h.ex
  exact de_call F (hr.mono hk) hg hm hkp hb ha hdb he hpl
/-- the built-ins that a text uses, by their own names -/
structure Bt (mg : Str → Option Value) : Prop where
  type : mg "type" = none
  tuple : mg "tuple" = none
  str : mg "str" = none
  int : mg "int" = none
  list : mg "list" = none
  len : mg "len" = none
  min : mg "min" = none
  zip : mg "zip" = none
  range : mg "range" = none
  all : mg "all" = none
  sorted : mg "sorted" = none
  dict : mg "dict" = none
  isinstance : mg "isinstance" = none
  bool : mg "bool" = none
  repr : mg "repr" = none
  enumerate : mg "enumerate" = none
def CI (mg : Str → Option Value) (x : Str) (i : Int) : Prop := ∃ t, mg x = some (.int i t)
theorem de_ci {x : Str} {i : Int} (h : CI G.X.mg x i) (hg : Gl G.X x := by rfl) (hd : (x == ("__debug__" : Str)) = false := by decide) : DE G (.Name x pos) (fun _ P => P (.int i)) := by
  obtain ⟨t, h⟩ := h
  exact de_glob hg h (v := .int i) ⟨t, rfl⟩ (fun _ _ => rfl) hd
/-- a written tuple of texts -/
structure CT (K : PySem.W.Frag) (mg : Str → Option Value) (x : Str) (d : Dat) : Prop where
  ex : ∃ a, mg x = some (.ref a) ∧ ∀ S H, Dv K S H d (.ref a)
theorem de_ctup {x : Str} {d : Dat} (h : CT G.X.K G.X.mg x d) (hg : Gl G.X x := by rfl) (hd : (x == ("__debug__" : Str)) = false := by decide) : DE G (.Name x pos) (fun _ P => P d) := by
  obtain ⟨a, h, hv⟩ := h.ex
  exact de_glob hg h (v := .ref a) rfl hv hd
end
end DL
namespace DL
open PySem PySem.Spec PyProof.Rows L2
section
variable {G : Ctx} {S S' : Addr → Prop} {σ : L2.St} {H H' : Hp} {ρ : List Slot} {pos : Pos} {a b c : Expr} {Fa Fb Fc : FE}
/-- <= of ints, of texts -/
def leD : R2D
  | .int i, .int j, P => P (.bl (decide (i ≤ j)))
  | .str x, .str y, P => P (.bl (!decide (y.cps.toList < x.cps.toList)))
  | _, _, _ => False
theorem serves_le : Serves G (fun x y H Q => rI0 (fun i j => .bl (decide (i ≤ j))) x y H Q ∨ (∃ i j, x = .str i ∧ y = .str j ∧ Q (.bl (!decide (j.cps.toList < i.cps.toList))) H)) leD := by
  intro S σ ρ H x y dx dy P Q g hx hy h q
  cases dx with
  | int i =>
    cases dy with
    | int j => exact .inl ⟨i, j, hx, hy, q _ (.bl _) H (Stp.refl g.wld) rfl h⟩
    | _ => exact h.elim
  | str i =>
    cases dy with
    | str j => exact .inr ⟨i, j, hx, hy, q _ (.bl _) H (Stp.refl g.wld) rfl h⟩
    | _ => exact h.elim
  | _ => exact h.elim
theorem lift_chain {r r' : R2} {D D' : R2D} {ta tb tc : TE} (hr : Serves G r D) (hr' : Serves G r' D') (la : LiftE G ta Fa) (lb : LiftE G tb Fb) (lc : LiftE G tc Fc) :
    LiftE G (tChain r r' ta tb tc) (fun ρ P => Fa ρ fun x => Fb ρ fun y => D x y fun z => isB z fun k => if k = true then Fc ρ fun w => D' y w P else P (.bl false)) := by
  intro S σ H ρ P Q g h q
  refine la S σ H ρ _ _ g h fun v d H1 st hv h' => ?_
  have g1 := g.step st
  refine lb S σ H1 ρ _ _ g1 h' fun v2 d2 H2 st2 hv2 hp => ?_
  have g2 := g1.step st2
  refine hr S σ ρ H2 v v2 d d2 _ _ g2 (st2.dv g1 hv) hv2 hp fun v3 d3 H3 st3 hv3 hp => ?_
  obtain ⟨k, rfl, hp⟩ := isB_inv hp
  refine ⟨k, hv3, ?_⟩
  have g3 := g2.step st3
  have s13 := (st.trans st2).trans st3
  cases k with
  | true =>
    refine lc S σ H3 ρ _ _ g3 hp fun v4 d4 H4 st4 hv4 hp => ?_
    exact hr' S σ ρ H4 v2 v4 d2 d4 P Q (g3.step st4) (st4.dv g3 (st3.dv g2 hv2)) hv4 hp fun v5 d5 H5 st5 => q v5 d5 H5 ((s13.trans st4).trans st5)
  | false => exact q _ (.bl false) H3 s13 rfl hp
theorem de_chain_le (ha : DE G a Fa) (hb : DE G b Fb) (hc : DE G c Fc) (hm : lastMarks [CmpOp.LtE, CmpOp.LtE] [b, c] = false := by rfl) : DE G (.Compare a [.LtE, .LtE] [b, c] pos) (fun ρ P => Fa ρ fun x => Fb ρ fun y => leD x y fun z => isB z fun k => if k = true then Fc ρ fun w => leD y w P else P (.bl false)) := by
  obtain ⟨ta, h1, l1⟩ := ha.ex
  obtain ⟨tb, h2, l2⟩ := hb.ex
  obtain ⟨tc, h3, l3⟩ := hc.ex
  exact ⟨⟨_, pe_chain (.or op_le op_le_str) (.or op_le op_le_str) h1 h2 h3 hm, lift_chain serves_le serves_le l1 l2 l3⟩⟩
/-- -a -/
def negD (d : Dat) (P : Dat → Prop) : Prop := match d with
  | .int i => P (.int (-i))
  | _ => False
theorem de_neg (ha : DE G a Fa) : DE G (.UnaryOp .USub a pos) (fun ρ P => Fa ρ fun x => negD x P) := by
  obtain ⟨t, h, l⟩ := ha.ex
  refine ⟨⟨_, pe_un un_neg h, fun S σ H ρ P Q g h q => ?_⟩⟩
  refine l S σ H ρ _ _ g h fun v d H1 st hv hp => ?_
  cases d with
  | int i => exact ⟨i, hv, q _ (.int (-i)) H1 st rfl hp⟩
  | _ => exact hp.elim
/-- x += e, ints -/
theorem ds_augI {x : Str} {e : Expr} {F : FE} {pos' : Pos} (i : Nat) (he : DE G e F) (hN : G.X.N.Nodup) (hi : G.X.N[i]? = some x := by rfl) (hx : Loc G.X.env.scope x := by first | exact Or.inl rfl | exact Or.inr rfl) (hf : G.X.fn x = true ∨ G.X.env.scope.names.lookup x = some .local := by first | exact .inl rfl | exact .inr rfl) :
    DS G (.AugAssign (.Name x pos') .Add e pos) (fun D ρ => rd ρ i fun x => F ρ fun y => int0 (fun i j => .int (i + j)) x y fun z => D.nx (ρ.set i (.d z))) := by
  obtain ⟨t, h, l⟩ := he.ex
  refine ⟨⟨_, ps_aug (i := i) hN hi hx h ip_add hf, fun S σ H ρ D Dh g h q => ?_⟩⟩
  obtain ⟨d, e, hp⟩ := rd_inv h
  obtain ⟨v, e1, hv⟩ := g.slot_d e
  refine ⟨v, e1, l S σ H ρ _ _ g hp fun w d2 H1 st hw hp => ?_⟩
  have g1 := g.step st
  cases d with
  | int i1 =>
    cases d2 with
    | int j1 =>
      cases dv_int hv; cases dv_int hw
      exact ⟨i1, j1, rfl, rfl, q.nx _ _ _ _ (g1.set (d := .int (i1 + j1)) (v := .int (i1 + j1)) rfl) (st.fr g) hp⟩
    | _ => exact hp.elim
  | _ => exact hp.elim
/-- a, b = e1, e2 -/
def two {α : Type} (ds : List α) (P : α → α → Prop) : Prop := match ds with
  | [x, y] => P x y
  | _ => False
theorem ds_par {x y : Str} {Fs : FA} {px py pt : Pos} {kt k2 pt2} (i j : Nat) (ha : DA G [a, b] Fs) (hN : G.X.N.Nodup) (hc : G.X.calm = true := by rfl) (hi : G.X.N[i]? = some x := by rfl) (hj : G.X.N[j]? = some y := by rfl) (hij : i ≠ j := by decide)
    (hx : G.X.env.scope.names.lookup x = some .local := by rfl) (hy : G.X.env.scope.names.lookup y = some .local := by rfl)
    (hw : swappedStores [.Tuple [.Name x px, .Name y py] kt pt] (.Tuple [a, b] k2 pt2) G.X.env = pure (some [x, y]) := by rfl)
    (hs : swapsWithSole [.Tuple [.Name x px, .Name y py] kt pt] (.Tuple [a, b] k2 pt2) pos.line G.X.env = pure false := by rfl) :
    DS G (.Assign [.Tuple [.Name x px, .Name y py] kt pt] (.Tuple [a, b] k2 pt2) pos) (fun D ρ => Fs ρ fun ds => two ds fun d e => D.nx ((ρ.set i (.d d)).set j (.d e))) := by
  obtain ⟨t, h, l⟩ := ha.ex
  refine ⟨⟨_, ps_par hc hN hi hj hij hx hy h hw hs, fun S σ H ρ D Dh g h q => ?_⟩⟩
  refine l S σ H ρ _ _ g h fun vs ds H1 st hv hp => ?_
  unfold two at hp
  split at hp
  · obtain ⟨v, w, rfl, h1, h2⟩ := dvl2 hv
    exact ⟨v, w, rfl, q.nx _ _ _ _ (((g.step st).set h1).set h2) (st.fr g) hp⟩
  · exact hp.elim
end
end DL
namespace DL
open PySem PySem.Spec PyProof.Rows L2
theorem slot_type_ne : PySem.Slot "type" (cmpInfo .NotEq).2.1 "object.__ne__" :=
  .of (owner := "object") (n := "__ne__") (by rw [typeLookup_type, builtinLookup_eq_fast]; kernel_rfl) (by decide +kernel) (by decide +kernel) (by decide +kernel)
    (by first | exact .inl (by decide +kernel) | exact .inr (by decide +kernel)) (by rw [isSubtype_type]; kernel_rfl)
theorem slot_type_ne_refl : PySem.Slot "type" (cmpInfo .NotEq).2.2 "object.__ne__" :=
  .of (owner := "object") (n := "__ne__") (by rw [typeLookup_type, builtinLookup_eq_fast]; kernel_rfl) (by decide +kernel) (by decide +kernel) (by decide +kernel)
    (by first | exact .inl (by decide +kernel) | exact .inr (by decide +kernel)) (by rw [isSubtype_type]; kernel_rfl)
theorem meets_ne_same {X : String} : Meets (Builtin.«object.__ne__» ⟨[.type X, .type X], []⟩) (fun _ R s => s.TypeIs (.type X) "type" ∧ R (.ok (.ret (.bool false))) s) :=
  .of_wp fun prog w A R s h => by
    obtain ⟨hT, h⟩ := h
    unfold Builtin.«object.__ne__»
    simp only [slotArgs]
    refine wpAny_bind (wpAny_pure ?_)
    refine wpAny_bind (wpAny_cRoomFor_or (.inl rfl) ?_)
    refine wpAny_bind (wpAny_callSpecialIfBound?_slot (T := "type") hT TypeEq.slot_type_eq (call_gives TypeEq.slot_type_eq hT F.entry_object_eq (F.args_object_eq_2 _ _) (TypeEq.object_eq_same rfl (by simp)) ?_))
    show wpAny (model prog w) A.in1 (truthy (.bool true) >>= fun b => ret (.bool !b)) _ _ s
    exact wpAny_bind (wpAny_truthy_bool (wpAny_pure ⟨_, rfl, h⟩))
theorem meets_ne_other {X Y : String} (hne : (Value.type X == Value.type Y) = false) : Meets (Builtin.«object.__ne__» ⟨[.type X, .type Y], []⟩) (fun _ R s => s.TypeIs (.type X) "type" ∧ R (.ok (.ret .notImplemented)) s) :=
  .of_wp fun prog w A R s h => by
    obtain ⟨hT, h⟩ := h
    unfold Builtin.«object.__ne__»
    simp only [slotArgs]
    refine wpAny_bind (wpAny_pure ?_)
    refine wpAny_bind (wpAny_cRoomFor_or (.inl rfl) ?_)
    refine wpAny_bind (wpAny_callSpecialIfBound?_slot (T := "type") hT TypeEq.slot_type_eq (call_gives TypeEq.slot_type_eq hT F.entry_object_eq (F.args_object_eq_2 _ _) (TypeEq.object_eq_other rfl hne) ?_))
    exact wpAny_pure ⟨_, rfl, h⟩
section
variable {M : Model} {A : Around} {E : Value → Shared → Prop} {s : Shared}
theorem wpAny_richCompare_ne_same_decline {a b : Value} {T id : String} {k : Bool} {Q : Value → Shared → Prop} (ha : ∀ s' : Shared, s'.TypeIs a T) (hb : ∀ s' : Shared, s'.TypeIs b T)
    (h1 : PySem.Slot T (cmpInfo .NotEq).2.1 id) (h2 : PySem.Slot T (cmpInfo .NotEq).2.2 id) (hv : [a, b].any Value.onHeap = false) (hk : isSame a b = pure k)
    (hc : wpAny M A (call (.builtin id) [a, b]) (fun v s₁ => v = .notImplemented ∧ wpAny M A (call (.builtin id) [b, a]) (fun v s₂ => v = .notImplemented ∧ Q (.bool (!k)) s₂) E s₁) E s) :
    wpAny M A (richCompare .NotEq a b) Q E s := by
  rcases hi : cmpInfo CmpOp.NotEq with ⟨sym, f, r⟩
  rw [hi] at h1 h2
  simp only [richCompare, hi, (ha s).oneThing_none]
  try with_reducible refine wpAny_holding ?_
  refine wpAny_bind (wpAny_cRoomFor_or (.inl hv) ?_)
  refine wpAny_bind (wpAny_typeOf (ha s) (wpAny_bind (wpAny_typeOf (hb s) ?_)))
  simp only [bne_self_eq_false, Bool.false_eq_true, if_false, pure_bind, Bool.not_false, if_true]
  refine wpAny_bind (m := tryCompare a _ b) (wpAny_tryCompare_declines (ha s) h1 (wpAny_mono hc (fun v s₁ h₁ => ⟨h₁.1, ?_⟩) fun _ _ x => x))
  refine wpAny_bind (m := tryCompare b _ a) (wpAny_tryCompare_declines (hb s₁) h2 (wpAny_mono h₁.2 (fun v s₂ h₂ => ⟨h₂.1, ?_⟩) fun _ _ x => x))
  refine wpAny_bind (wpAny_rule (wpAny_bind (wpAny_of_eq hk (wpAny_pure h₂.2))))
end
section
variable {prog : Program} {w : World} {A : Around} {E : Value → Shared → Prop} {s : Shared} {Q : Value → Shared → Prop}
theorem ne_type_same {X : String} (hX : ∀ s' : Shared, s'.TypeIs (.type X) "type") (h : Q (.bool false) s) : wpAny (model prog w) A (compareOp .NotEq (.type X) (.type X)) Q E s := by
  show wpAny _ A (richCompare .NotEq _ _) Q E s
  exact wpAny_richCompare_same (T := "type") (hX s) (hX s) slot_type_ne
    (call_meets slot_type_ne (hX s) F.entry_object_ne (F.args_object_ne_2 _ _) meets_ne_same ⟨hX s, (by intro e; cases e), h⟩)
theorem ne_type_other {X Y : String} (hX : ∀ s' : Shared, s'.TypeIs (.type X) "type") (hY : ∀ s' : Shared, s'.TypeIs (.type Y) "type") (hne : (Value.type X == Value.type Y) = false) (h : Q (.bool true) s) : wpAny (model prog w) A (compareOp .NotEq (.type X) (.type Y)) Q E s := by
  have hne' : (Value.type Y == Value.type X) = false := by
    rw [Bool.eq_false_iff] at hne ⊢
    intro e
    exact hne (by rw [beq_iff_eq] at e ⊢; exact e.symm)
  show wpAny _ A (richCompare .NotEq _ _) Q E s
  exact wpAny_richCompare_ne_same_decline (T := "type") (k := false) hX hY slot_type_ne slot_type_ne_refl rfl (by rw [isSame_plain rfl, hne])
    (call_meets slot_type_ne (hX s) F.entry_object_ne (F.args_object_ne_2 _ _) (meets_ne_other hne)
      ⟨hX s, rfl, call_meets slot_type_ne_refl (hY s) F.entry_object_ne (F.args_object_ne_2 _ _) (meets_ne_other hne') ⟨hY s, rfl, h⟩⟩)
end
def rTyNe : R2 := fun x y H Q => ∃ a b, x = .ty a ∧ y = .ty b ∧ a ∈ metas ∧ b ∈ metas ∧ Q (.bl (!decide (a = b))) H
theorem op_tyNe {X : Cx} : OpR X (compareOp .NotEq) rTyNe := by
  intro pins s σ H x y v u Q I rx ry h
  obtain ⟨a, b, rfl, rfl, ma, mb, q⟩ := h
  cases (show v = Value.type a from rx)
  cases (show u = Value.type b from ry)
  by_cases e : a = b
  · subst e
    exact ne_type_same (meta_ty ma) ⟨.bl false, H, I, rfl, by simpa using q⟩
  · exact ne_type_other (meta_ty ma) (meta_ty mb) (metas_nodup ma mb e) ⟨.bl true, H, I, rfl, by simpa [e] using q⟩
section
variable {G : Ctx}
theorem lift_tyNe {te : TE} {F : FE} {T : String} (hT : T ∈ metas) (l : LiftE G te F) : LiftE G (tOp rTyNe (tCB (rTyD G.X.K) (tCons te tNil)) (tC (.ty T))) (fun ρ P => F ρ fun x => P (.bl (!decide (tyName x = T)))) := by
  intro S σ H ρ P Q g h q
  refine l S σ H ρ _ _ g h fun v d H1 st hv hp => ?_
  exact ⟨v, S, d, rfl, hv, _, _, rfl, rfl, tyName_mem d, hT, q _ (.bl _) H1 st rfl hp⟩
theorem de_ntype {e : Expr} {F : FE} {T : Str} {TT : String} {p1 p2 p3 p4 : Pos} (hT : TT ∈ metas := by decide) (he : DE G e F) (hg : Gl G.X "type" := by rfl) (hm : G.X.mg "type" = none) (hgT : Gl G.X T := by rfl) (hmT : G.X.mg T = none) (hv : bootBuiltins T = some (.type TT)) (hn : T ≠ "__name__") (hd : (T == ("__debug__" : Str)) = false)
    (hs : starEach [e] G.X.env = (false, eval e G.X.env) :: starEach [] G.X.env := by rfl) :
    DE G (.Compare (.Call (.Name "type" p1) [e] [] p2) [.NotEq] [.Name T p3] p4) (fun ρ P => F ρ fun x => P (.bl (!decide (tyName x = TT)))) := by
  obtain ⟨t, h, l⟩ := he.ex
  exact ⟨⟨_, pe_cmpR op_tyNe (pe_callTy call_tyD hg hm (by decide +kernel) (pa_cons h pa_nil hs) (he := hs)) (pe_bltn (v := V.ty TT) hgT hmT hv rfl hn hd) (nobehind _ (by decide) (by decide)), lift_tyNe hT l⟩⟩
theorem dt_ntype {e : Expr} {F : FE} {T : Str} {TT : String} {p1 p2 p3 p4 : Pos} (hT : TT ∈ metas := by decide) (he : DE G e F) (hg : Gl G.X "type" := by rfl) (hm : G.X.mg "type" = none) (hgT : Gl G.X T := by rfl) (hmT : G.X.mg T = none) (hv : bootBuiltins T = some (.type TT)) (hn : T ≠ "__name__") (hd : (T == ("__debug__" : Str)) = false)
    (hs : starEach [e] G.X.env = (false, eval e G.X.env) :: starEach [] G.X.env := by rfl) :
    DT G (.Compare (.Call (.Name "type" p1) [e] [] p2) [.NotEq] [.Name T p3] p4) (fun ρ P => F ρ fun x => P (!decide (tyName x = TT))) := by
  obtain ⟨t, h, l⟩ := he.ex
  refine ⟨⟨_, pt_cmpR op_tyNe (pe_callTy call_tyD hg hm (by decide +kernel) (pa_cons h pa_nil hs) (he := hs)) (pe_bltn (v := V.ty TT) hgT hmT hv rfl hn hd) (nobehind _ (by decide) (by decide)), fun S σ H ρ P Q g h q => ?_⟩⟩
  exact lift_tyNe hT l S σ H ρ (fun z => isB z P) _ g h fun v d H1 st hv hp => by
    obtain ⟨b, rfl, hp⟩ := isB_inv hp
    exact ⟨b, hv, q b H1 st hp⟩
end
end DL
namespace K01
open PySem PySem.Spec PyProof.Rows L2 DL
/-! texts are of a length that may be asked for -/
mutual
def Fine : Dat → Prop
  | .str z => z.length ≤ 10000
  | .tup ds => Fines ds
  | .lst ds => Fines ds
  | .dic ks ds => Fines ds
  | _ => True
def Fines : List Dat → Prop
  | [] => True
  | d :: ds => Fine d ∧ Fines ds
end
theorem Fines.get : ∀ {ds : List Dat} {i : Nat} {d : Dat}, Fines ds → ds[i]? = some d → Fine d
  | [], _, _, _, h => by simp at h
  | d :: ds, 0, d', f, h => by simp at h; subst h; exact f.1
  | d :: ds, i + 1, d', f, h => Fines.get f.2 (by simpa using h)
theorem Fines.mem {ds : List Dat} {d : Dat} (f : Fines ds) (h : d ∈ ds) : Fine d := by
  obtain ⟨i, hi, e⟩ := List.mem_iff_getElem.mp h
  exact f.get (i := i) (by rw [List.getElem?_eq_getElem hi, e])
theorem fine_str {z : Str} (h : Fine (.str z)) : z.length ≤ 10000 := h
theorem fine_line {z : Str} (h : Fine (.str z)) : z.length ≤ sizeLine := Nat.le_trans (fine_str h) (by decide)
/-! ### the mirror -/
def hasWord : Dat → Bool
  | .tup (.str _ :: _) => true
  | _ => false
def sorts : List Str := ["thing", "num", "tree", "set", "bits"]
def isSort : Dat → Bool
  | .str z => decide (z ∈ sorts)
  | _ => false
def small (c : Nat) : Bool := decide (97 ≤ c) && decide (c ≤ 122)
def isName : Dat → Bool
  | .str z => decide (1 ≤ z.length) && decide (z.length ≤ 6) && z.cps.toList.all small
  | _ => false
/-- a word's row: its sort, the bounds of its number, the sorts within -/
abbrev Row := Str × Option (Int × Int) × List Str
def table : List (Str × Row) := [("number", "num", some (-1000000, 1000000), []), ("plus", "num", none, ["num", "num"]), ("times", "num", some (-1000000, 1000000), ["num"]), ("tip", "tree", none, ["num"]), ("node", "tree", none, ["tree", "tree"]),
  ("none", "set", none, []), ("one", "set", none, ["num"]), ("union", "set", none, ["set", "set"]), ("both", "set", none, ["set", "set"]), ("without", "set", none, ["set", "set"]),
  ("bits", "bits", some (0, 15), []), ("band", "bits", none, ["bits", "bits"]), ("bor", "bits", none, ["bits", "bits"]), ("badd", "bits", none, ["bits", "bits"]), ("bnot", "bits", none, ["bits"])]
def row (w : Str) : Option Row := (table.find? fun p => decide (p.1 = w)).map (·.2)
theorem row_mem {w : Str} {r : Row} (h : row w = some r) : (w, r) ∈ table := by
  unfold row at h
  cases e : table.find? fun p => decide (p.1 = w) with
  | none => rw [e] at h; cases h
  | some p =>
    rw [e] at h
    cases h
    have e1 : p.1 = w := by simpa using List.find?_some e
    rw [← e1]
    exact List.mem_of_find?_eq_some e
def bndD : Option (Int × Int) → Dat
  | none => .tup []
  | some (lo, hi) => .tup [.int lo, .int hi]
def rowD (r : Row) : Dat := .tup [.str r.1, bndD r.2.1, .tup (r.2.2.map Dat.str)]
def words (z : Str) : Option Dat := (row z).map rowD
/-- what stands behind a word of the table -/
def behind (b : Option (Int × Int)) (n : Nat) (r : List Dat) : Option (List Dat) := match b with
  | none => if r.length = n then some r else none
  | some (lo, hi) => match r with
    | .int i :: r' => if r'.length = n ∧ lo ≤ i ∧ i ≤ hi then some r' else none
    | _ => none
def strOr (d : Dat) : Str := match d with
  | .str z => z
  | _ => ""
/-- the sorts wanted, what stands within, its own sort -/
def shape (d : Dat) : Option (List Str × List Dat × Str) := match d with
  | .tup (.str w :: r) =>
    if w = "name" then (match r with
      | [n, s] => if isName n && isSort s then some ([], [], strOr s) else none
      | _ => none)
    else if w = "call" then (match r with
      | [n, .tup ts, s] => if isName n && isSort s && decide (1 ≤ ts.length) && decide (ts.length ≤ 3) then some (List.replicate ts.length "", ts, strOr s) else none
      | _ => none)
    else match row w with
      | none => none
      | some (k, b, ss) => (behind b ss.length r).map fun ts => (ss, ts, k)
  | _ => none
def topS (i : Nat) : Stmt := PySem.Challenge.pw_allsorts_k10_values_looked_at.main.body.getD i (.Pass ⟨0, 0, 0, 0⟩)
/-- one argument -/
def con1 (pre : Dat → Prop) (f : Dat → Dat) : Con := ⟨fun ds P _ => ∃ d, ds = [d] ∧ pre d ∧ P (f d), fun _ _ _ _ _ ⟨d, e, h, q⟩ m _ => ⟨d, e, h, m _ q⟩⟩
section
variable {P : Program} {w : World} {K : PySem.W.Frag} {mg : Str → Option Value} {base : Heap} {f : Addr} {fd : FuncData} {k : Nat}
/-! ### has_word, is_sort, is_name -/
abbrev s_has_word : Stmt := topS 9
theorem sc_has_word : FnScope ["thing"] ["thing"] (defScope s_has_word) := ⟨rfl, rfl, rfl, by decide +kernel, rfl, by decide +kernel, by decide +kernel⟩
def c_has_word : Con := con1 (fun _ => True) fun d => .bl (hasWord d)
theorem ok_has_word (B : Bt mg) (F : Fun K "has_word" "has_word" s_has_word f fd) : FnOk P w K mg base CX0 (k + 1) f fd ["thing"] (spD K c_has_word) := by
  refine fn_pure F sc_has_word (fun ds P X ⟨d, e, _⟩ => by rw [e]; rfl) fun cdv A outer s H S hS hr => ?_
  have nd := sc_has_word.nd
  refine ⟨_, (db_one (ds_ret (de_and (de_type (TT := "tuple") (he := (de_var 0)) (hm := B.type) (hmT := B.tuple) (hv := by decide +kernel) (hn := by decide) (hd := by decide)) (de_and (de_gt (de_len B.len (da_cons (de_var 0) da_nil)) de_int) (de_one (de_type (TT := "str") (he := (de_ix (de_var 0) de_int)) (hm := B.type) (hmT := B.str) (hv := by decide +kernel) (hn := by decide) (hd := by decide))))))), ?_⟩
  rintro ds R X ⟨d, rfl, _, h⟩
  cases d with
  | tup xs =>
    cases xs with
    | nil => exact h
    | cons x r =>
      simp [rd, DL.start, isB, tyName, lenD, int0, ixD, someD, atI, ixN]
      cases x <;> simpa [hasWord, tyName, someD] using h
  | _ => exact h
abbrev s_is_sort : Stmt := topS 10
theorem sc_is_sort : FnScope ["thing"] ["thing"] (defScope s_is_sort) := ⟨rfl, rfl, rfl, by decide +kernel, rfl, by decide +kernel, by decide +kernel⟩
def c_is_sort : Con := con1 (fun _ => True) fun d => .bl (isSort d)
theorem ok_is_sort (B : Bt mg) (C_SORTS : CT K mg "SORTS" (.tup (sorts.map Dat.str))) (F : Fun K "is_sort" "is_sort" s_is_sort f fd) : FnOk P w K mg base CX0 (k + 1) f fd ["thing"] (spD K c_is_sort) := by
  refine fn_pure F sc_is_sort (fun ds P X ⟨d, e, _⟩ => by rw [e]; rfl) fun cdv A outer s H S hS hr => ?_
  have nd := sc_is_sort.nd
  refine ⟨_, (db_one (ds_ret (de_and (de_type (TT := "str") (he := (de_var 0)) (hm := B.type) (hmT := B.str) (hv := by decide +kernel) (hn := by decide) (hd := by decide)) (de_one (de_in (de_var 0) (de_ctup C_SORTS)))))), ?_⟩
  rintro ds R X ⟨d, rfl, _, h⟩
  cases d with
  | str z => exact h
  | _ => exact h
end
end K01
namespace K01
open PySem PySem.Spec PyProof.Rows L2 DL
theorem compF_map {j : Nat} {Fe : FE} {ρ : List DL.Slot} {f : Dat → Dat} : ∀ {items acc : List Dat} {P : List Dat → Prop}, (∀ d ∈ items, ∀ R : Dat → Prop, R (f d) → Fe (ρ.set j (.d d)) R) → acc.length + items.length ≤ sizeLine → P (acc ++ items.map f) →
    compF (gNm j) (fun _ P => P true) Fe ρ items acc P
  | [], acc, P, _, _, h => by simpa [compF] using h
  | d :: ds, acc, P, he, hl, h => by
    unfold compF
    refine he d List.mem_cons_self _ ⟨by simp at hl; omega, ?_⟩
    exact compF_map (fun x hx => he x (List.mem_cons_of_mem _ hx)) (by simp at hl ⊢; omega) (by simpa using h)
theorem line_big : 100000 ≤ sizeLine := by decide
theorem small_of (c : Nat) : (!decide (([c] : List Nat) < [97]) && !decide (([122] : List Nat) < [c])) = small c := by
  unfold small
  have h1 : (([c] : List Nat) < [97]) ↔ c < 97 := by
    rw [List.cons_lt_cons_iff]; simp
  have h2 : (([122] : List Nat) < [c]) ↔ 122 < c := by
    rw [List.cons_lt_cons_iff]; simp
  have e1 : decide (([c] : List Nat) < [97]) = decide (c < 97) := decide_eq_decide.mpr h1
  have e2 : decide (([122] : List Nat) < [c]) = decide (122 < c) := decide_eq_decide.mpr h2
  rw [e1, e2]
  by_cases a : c < 97 <;> by_cases b : 122 < c <;> simp [a, b] <;> omega
theorem blsOf_map (g : Nat → Bool) : ∀ cs : List Nat, blsOf (cs.map fun c => Dat.bl (g c)) = some (cs.map g)
  | [] => rfl
  | c :: cs => by simp [blsOf, blsOf_map g cs]
def nameOf (d : Dat) : Dat := match d with
  | .str z => .bl (match z.cps.toList with | [c] => small c | _ => false)
  | _ => .bl false
section
variable {P : Program} {w : World} {K : PySem.W.Frag} {mg : Str → Option Value} {base : Heap} {f : Addr} {fd : FuncData} {k : Nat}
def c_is_name : Con := con1 Fine fun d => .bl (isName d)
end
end K01
namespace DL
open PySem PySem.Spec PyProof.Rows L2
section
variable {P : Dat → Prop} {PB : Bool → Prop} {b : Bool} {i j : Int} {x y : Str} {xs ys ds : List Dat} {PS : Str → Prop} {PI' : Int → Prop} {PL : List Dat → Prop}
theorem rd_here {ρ : List DL.Slot} {i : Nat} {x : Dat} (e : ρ[i]? = some (.d x)) (h : P x) : rd ρ i P := by unfold rd; rw [e]; exact h
theorem ownL_here {ρ : List DL.Slot} {i : Nat} {ds : List Dat} {P : List Dat → Prop} (e : ρ[i]? = some (.own ds)) (h : P ds) : ownL ρ i P := by unfold ownL; rw [e]; exact h
theorem isB_bl : isB (.bl b) PB = PB b := rfl
theorem isI_int : isI (.int i) PI' = PI' i := rfl
theorem isS_str : isS (.str x) PS = PS x := rfl
theorem someD_some {α : Type} {a : α} {P : α → Prop} : someD (some a) P = P a := rfl
theorem lenD_tup : lenD [.tup ds] P = P (.int (ds.length : Nat)) := rfl
theorem lenD_lst : lenD [.lst ds] P = P (.int (ds.length : Nat)) := rfl
theorem lenD_str : lenD [.str x] P = (x.length ≤ sizeLine ∧ P (.int (x.length : Nat))) := rfl
theorem ixD_tup : ixD (.tup ds) (.int i) P = someD (atI ds i) P := rfl
theorem ixD_lst : ixD (.lst ds) (.int i) P = someD (atI ds i) P := rfl
theorem eqD_int : eqD (.int i) (.int j) P = P (.bl (decide (i = j))) := rfl
theorem eqD_str : eqD (.str x) (.str y) P = P (.bl (decide (x = y))) := rfl
theorem neD_int : neD (.int i) (.int j) P = P (.bl (!decide (i = j))) := rfl
theorem neD_str : neD (.str x) (.str y) P = P (.bl (!decide (x = y))) := rfl
theorem addD_int : addD (.int i) (.int j) P = P (.int (i + j)) := rfl
theorem addD_str : addD (.str x) (.str y) P = (x.length + y.length ≤ sizeLine ∧ P (.str (x ++ y))) := rfl
theorem addD_lst : addD (.lst xs) (.lst ys) P = (xs.length + ys.length ≤ sizeLine ∧ P (.lst (xs ++ ys))) := rfl
theorem addD_tup : addD (.tup xs) (.tup ys) P = (xs.length + ys.length ≤ sizeLine ∧ P (.tup (xs ++ ys))) := rfl
theorem int0_int {f : Int → Int → Dat} : int0 f (.int i) (.int j) P = P (f i j) := rfl
theorem leD_int : leD (.int i) (.int j) P = P (.bl (decide (i ≤ j))) := rfl
theorem minD_int : minD [.int i, .int j] P = P (.int (if j < i then j else i)) := rfl
theorem seqOf_tup : seqOf (.tup ds) PL = PL ds := rfl
theorem seqOf_lst : seqOf (.lst ds) PL = PL ds := rfl
theorem tupD_tup {n : Nat} : tupD (.tup ds) n PL = (ds.length = n ∧ PL ds) := rfl
theorem consD_cons {α : Type} {a : α} {r : List α} {P : α → List α → Prop} : consD (a :: r) P = P a r := rfl
theorem tabIn_str {neg : Bool} {tab : Str → Option Dat} : tabIn neg tab (.str x) P = P (.bl (if neg then !(tab x).isSome else (tab x).isSome)) := rfl
theorem slD_tup {lo hi : Option Int} : slD (.tup ds) lo hi P = P (.tup (cutG ds lo hi)) := rfl
theorem slD_lst {lo hi : Option Int} : slD (.lst ds) lo hi P = P (.lst (cutG ds lo hi)) := rfl
theorem listD_tup : listD [.tup ds] P = P (.lst ds) := rfl
theorem listD_lst : listD [.lst ds] P = P (.lst ds) := rfl
theorem lstD_lst : lstD (.lst ds) PL = PL ds := rfl
theorem strD_int : strD [.int i] P = (i.natAbs.log2 < 1920 ∧ P (.str (toString i))) := rfl
theorem fmtD_str : fmtD (.str x) PS = (x.length ≤ sizeLine ∧ PS x) := rfl
theorem repD_tup : repD (.tup ds) (.int i) P = (ds ≠ [] ∧ 1 ≤ i ∧ i ≤ 1000 ∧ ds.length ≤ 1000 ∧ P (.tup (List.replicate i.toNat ds).flatten)) := rfl
theorem strsOf_map : ∀ zs : List Str, strsOf (zs.map Dat.str) = some zs
  | [] => rfl
  | z :: zs => by simp [strsOf, strsOf_map zs]
theorem inD_tup {neg : Bool} {zs : List Str} : inD neg (.str x) (.tup (zs.map Dat.str)) P = P (.bl (if neg then !decide (x ∈ zs) else decide (x ∈ zs))) := by
  show inOf neg x (zs.map Dat.str) P = _
  unfold inOf
  rw [strsOf_map]
theorem inD_tup2 {neg : Bool} {y z : Str} : inD neg (.str x) (.tup [.str y, .str z]) P = P (.bl (if neg then !decide (x ∈ [y, z]) else decide (x ∈ [y, z]))) := inD_tup (zs := [y, z])
theorem tyName_tup : tyName (.tup ds) = "tuple" := rfl
theorem tyName_str : tyName (.str x) = "str" := rfl
theorem tyName_int : tyName (.int i) = "int" := rfl
theorem at0 {α : Type} {a : α} {r : List α} : atI (a :: r) 0 = some a := atI_nat (j := 0) rfl
theorem at1 {α : Type} {a b : α} {r : List α} : atI (a :: b :: r) 1 = some b := atI_nat (j := 1) rfl
theorem at2 {α : Type} {a b c : α} {r : List α} : atI (a :: b :: c :: r) 2 = some c := atI_nat (j := 2) rfl
theorem at3 {α : Type} {a b c d : α} {r : List α} : atI (a :: b :: c :: d :: r) 3 = some d := atI_nat (j := 3) rfl
end
end DL
namespace K01
open PySem PySem.Spec PyProof.Rows L2 DL
def conE {α : Type} (args : α → List Dat) (pre : α → Prop) (out : α → Dat) : Con := ⟨fun ds P _ => ∃ a, ds = args a ∧ pre a ∧ P (out a), fun _ _ _ _ _ ⟨a, e, h, q⟩ m _ => ⟨a, e, h, m _ q⟩⟩
def callSh (r : List Dat) : Option (List Str × List Dat × Str) := match r with
  | [n, .tup ts, s] => if isName n && isSort s && decide (1 ≤ ts.length) && decide (ts.length ≤ 3) then some (List.replicate ts.length "", ts, strOr s) else none
  | _ => none
theorem callSh_len {r : List Dat} (h : r.length ≠ 3) : callSh r = none := by
  unfold callSh
  split
  · exact absurd rfl h
  · rfl
def sortsD (o : Option (List Str × List Dat × Str)) : Dat := match o with
  | none => .non
  | some (ss, _, _) => .tup (ss.map Dat.str)
theorem con1_C {pre : Dat → Prop} {g : Dat → Dat} {a : Dat} {P : Dat → Prop} {X : Exc → Prop} : (con1 pre g).C [a] P X ↔ pre a ∧ P (g a) :=
  ⟨fun ⟨d, e, h, q⟩ => by cases e; exact ⟨h, q⟩, fun h => ⟨a, rfl, h.1, h.2⟩⟩
section
variable {P : Program} {w : World} {K : PySem.W.Frag} {mg : Str → Option Value} {base : Heap} {f : Addr} {fd : FuncData} {k : Nat}
def c_has_row : Con := conE (α := Str × List Dat × Option (Int × Int) × List Str) (fun a => [.tup (.str a.1 :: a.2.1), bndD a.2.2.1, .tup (a.2.2.2.map Dat.str)]) (fun _ => True) fun a => .bl (behind a.2.2.1 a.2.2.2.length a.2.1).isSome
def c_sorts_in_call : Con := conE (α := Str × List Dat) (fun a => [.tup (.str a.1 :: a.2)]) (fun a => Fines a.2) fun a => sortsD (callSh a.2)
end
end K01
namespace K01
open PySem PySem.Spec PyProof.Rows L2 DL
/-- what may be compared -/
def Lay (d : Dat) : Prop := (toP d).canLay0 = true
def LawOk (d : Dat) : Prop := Fine d ∧ ((∃ ks vs, d = .dic ks vs) ∨ Lay d)
theorem lay_all : ∀ {ds : List Dat}, PyData.canLayAll0 (toPs ds) = true ↔ ∀ d ∈ ds, Lay d
  | [] => ⟨fun _ x hx => (List.not_mem_nil hx).elim, fun _ => rfl⟩
  | d :: ds => by
    rw [toPs, PyData.canLayAll0, Bool.and_eq_true, lay_all]
    constructor
    · rintro ⟨h1, h2⟩ x hx
      rcases List.mem_cons.mp hx with rfl | hx
      · exact h1
      · exact h2 x hx
    · intro h
      exact ⟨h d List.mem_cons_self, fun x hx => h x (List.mem_cons_of_mem _ hx)⟩
theorem lay_tup {ds : List Dat} : Lay (.tup ds) ↔ ∀ d ∈ ds, Lay d := by
  unfold Lay
  rw [toP, PyData.canLay0]
  exact lay_all
theorem lay_lst {ds : List Dat} : Lay (.lst ds) ↔ ∀ d ∈ ds, Lay d := by
  unfold Lay
  rw [toP, PyData.canLay0]
  exact lay_all
theorem lay_sign {z : Str} (h : Lay (.str z)) : ∀ d ∈ DL.signs z, Lay d := fun d hd => by
  obtain ⟨c, hc, rfl⟩ := List.mem_map.mp hd
  have h' : z.cps.all (· < 0x110000) = true := h
  have q := Array.all_eq_true_iff_forall_mem.mp h' c (Array.mem_toList_iff.mp hc)
  show (#[c] : Array Nat).all (· < 0x110000) = true
  simpa using q
theorem compF_filter {j : Nat} {Ft : FT} {Fe : FE} {ρ : List DL.Slot} {p : Dat → Bool} {f : Dat → Dat} : ∀ {items acc : List Dat} {P : List Dat → Prop}, (∀ d ∈ items, ∀ R : Bool → Prop, R (p d) → Ft (ρ.set j (.d d)) R) → (∀ d ∈ items, p d = true → ∀ R : Dat → Prop, R (f d) → Fe (ρ.set j (.d d)) R) → acc.length + items.length ≤ sizeLine → P (acc ++ (items.filter p).map f) →
    compF (gNm j) Ft Fe ρ items acc P
  | [], acc, P, _, _, _, h => by simpa [compF] using h
  | d :: ds, acc, P, ht, he, hl, h => by
    unfold compF
    refine ht d List.mem_cons_self _ ?_
    by_cases hp : p d = true
    · rw [if_pos hp]
      refine he d List.mem_cons_self hp _ ⟨by simp at hl; omega, ?_⟩
      refine compF_filter (fun x hx => ht x (List.mem_cons_of_mem _ hx)) (fun x hx => he x (List.mem_cons_of_mem _ hx)) (by simp at hl ⊢; omega) ?_
      rw [List.filter_cons, if_pos hp] at h
      simpa using h
    · rw [if_neg hp]
      refine compF_filter (fun x hx => ht x (List.mem_cons_of_mem _ hx)) (fun x hx => he x (List.mem_cons_of_mem _ hx)) (by simp at hl ⊢; omega) ?_
      rw [List.filter_cons, if_neg hp] at h
      exact h
def alpha : Str := "abcdefghijklmnopqrstuvwxyz"
theorem alpha_small (c : Nat) : decide (c ∈ alpha.cps.toList) = small c := by
  have e : alpha.cps.toList = (List.range 26).map (· + 97) := by decide +kernel
  rw [e]
  unfold small
  by_cases h : 97 ≤ c ∧ c ≤ 122
  · have : c ∈ (List.range 26).map (· + 97) := List.mem_map.mpr ⟨c - 97, List.mem_range.mpr (by omega), by omega⟩
    rw [decide_eq_true this]
    simp [h.1, h.2]
  · have : ¬ c ∈ (List.range 26).map (· + 97) := fun z => by
      obtain ⟨x, hx, rfl⟩ := List.mem_map.mp z
      have := List.mem_range.mp hx
      omega
    rw [decide_eq_false this]
    by_cases h1 : 97 ≤ c <;> simp <;> omega
/-- a sign, no letter -/
def noSmall (d : Dat) : Bool := match d with
  | .str z => !small (z.cps.getD 0 0)
  | _ => false
section
variable {P : Program} {w : World} {K : PySem.W.Frag} {mg : Str → Option Value} {base : Heap} {f f2 : Addr} {fd fd2 : FuncData} {k : Nat}
-- calls [] consts []
def c_law_is_name : Con := con1 LawOk fun d => .bl (isName d)
end
end K01
namespace K01
open PySem PySem.Spec PyProof.Rows L2 DL
/-! ### what the asker asks of may be asked of -/
mutual
def okB : Dat → Bool
  | .str z => decide (z.length ≤ 10000) && z.cps.all (· < 0x110000)
  | .tup ds => okBs ds
  | .lst ds => okBs ds
  | .dic _ _ => false
  | .anl => false
  | _ => true
def okBs : List Dat → Bool
  | [] => true
  | d :: ds => okB d && okBs ds
end
mutual
theorem okB_fine : ∀ d, okB d = true → Fine d
  | .str z, h => by
    rw [okB, Bool.and_eq_true] at h
    have q := of_decide_eq_true h.1
    unfold Fine
    exact q
  | .tup ds, h => okBs_fine ds (by rw [okB] at h; exact h)
  | .lst ds, h => okBs_fine ds (by rw [okB] at h; exact h)
  | .dic _ _, h => by rw [okB] at h; cases h
  | .anl, h => by rw [okB] at h; cases h
  | .non, _ => trivial
  | .bl _, _ => trivial
  | .int _, _ => trivial
theorem okBs_fine : ∀ ds, okBs ds = true → Fines ds
  | [], _ => trivial
  | d :: ds, h => by
    rw [okBs, Bool.and_eq_true] at h
    exact ⟨okB_fine d h.1, okBs_fine ds h.2⟩
end
mutual
theorem okB_lay : ∀ d, okB d = true → Lay d
  | .str z, h => by
    rw [okB, Bool.and_eq_true] at h
    exact h.2
  | .tup ds, h => lay_tup.mpr (okBs_lay ds (by rw [okB] at h; exact h))
  | .lst ds, h => lay_lst.mpr (okBs_lay ds (by rw [okB] at h; exact h))
  | .dic _ _, h => by rw [okB] at h; cases h
  | .anl, h => by rw [okB] at h; cases h
  | .non, _ => rfl
  | .bl _, _ => rfl
  | .int _, _ => rfl
theorem okBs_lay : ∀ ds, okBs ds = true → ∀ d ∈ ds, Lay d
  | [], _, _, h => (List.not_mem_nil h).elim
  | d :: ds, h, x, hx => by
    rw [okBs, Bool.and_eq_true] at h
    rcases List.mem_cons.mp hx with e | hx
    · rw [e]; exact okB_lay d h.1
    · exact okBs_lay ds h.2 x hx
end
theorem okB_law {d : Dat} (h : okB d = true) : LawOk d := ⟨okB_fine d h, .inr (okB_lay d h)⟩
theorem okBs_all : ∀ {ds : List Dat}, okBs ds = true ↔ ∀ d ∈ ds, okB d = true
  | [] => ⟨fun _ _ h => (List.not_mem_nil h).elim, fun _ => by rw [okBs]⟩
  | d :: ds => by
    rw [okBs, Bool.and_eq_true, okBs_all]
    constructor
    · rintro ⟨h1, h2⟩ x hx
      rcases List.mem_cons.mp hx with rfl | hx
      · exact h1
      · exact h2 x hx
    · intro h
      exact ⟨h d List.mem_cons_self, fun x hx => h x (List.mem_cons_of_mem _ hx)⟩
theorem okB_tup {ds : List Dat} : okB (.tup ds) = true ↔ ∀ d ∈ ds, okB d = true := by rw [okB]; exact okBs_all
end K01
namespace DL
open PySem PySem.Spec PyProof.Rows L2
section
variable {G : Ctx} {S S' : Addr → Prop} {σ : L2.St} {H H' : Hp} {ρ : List Slot} {pos : Pos}
/-- an if, its test told first -/
theorem ds_ifc {c : Expr} {a b : List Stmt} {Fc : FT} {F F' : FS} (hc : DT G c Fc) (ha : DB G a F) (hb : DB G b F') : DS G (.If c a b pos) (fun D ρ => ∃ Pc : Bool → Prop, Fc ρ Pc ∧ (Pc true → F D ρ) ∧ (Pc false → F' D ρ)) := by
  obtain ⟨t0, h0, l0⟩ := hc.ex
  obtain ⟨t, h, l⟩ := ha.ex
  obtain ⟨u, h2, l2⟩ := hb.ex
  refine ⟨⟨_, ps_if h0 h h2, fun S σ H ρ D Dh g h q => ?_⟩⟩
  obtain ⟨Pc, hc, h1, h2⟩ := h
  refine l0 S σ H ρ _ _ g hc fun b H1 st hp => ?_
  cases b with
  | true => exact l S σ H1 ρ D Dh (g.step st) (h1 hp) (q.from (st.fr g))
  | false => exact l2 S σ H1 ρ D Dh (g.step st) (h2 hp) (q.from (st.fr g))
/-- name = e, the value told first -/
theorem ds_setc {e : Expr} {x : Str} {pos' : Pos} {F : FE} (i : Nat) (he : DE G e F) (hN : G.X.N.Nodup) (hi : G.X.N[i]? = some x := by rfl) (hx : Loc G.X.env.scope x := by first | exact Or.inl rfl | exact Or.inr rfl) (hs : swapsWith e (some (.Name x pos')) pos.line G.X.env = pure false := by rfl)
    (hf : G.X.fn x = true ∨ G.X.env.scope.names.lookup x = some .local := by first | exact .inl rfl | exact .inr rfl) : DS G (.Assign [.Name x pos'] e pos) (fun D ρ => ∃ Pc : Dat → Prop, F ρ Pc ∧ ∀ d, Pc d → D.nx (ρ.set i (.d d))) := by
  obtain ⟨t, h, l⟩ := he.ex
  refine ⟨⟨_, ps_set (i := i) hN hi hx h hs hf, fun S σ H ρ D Dh g h q => ?_⟩⟩
  obtain ⟨Pc, hc, h1⟩ := h
  exact l S σ H ρ _ _ g hc fun v d H1 st hv hp => q.nx S _ H1 _ ((g.step st).set hv) (st.fr g) (h1 d hp)
/-- a for, by a word of what is left and the slots -/
theorem ds_forI {tg iter : Expr} {body : List Stmt} {F : FI} {g : FG} {Fb : FS} (hp : PassesOwn (model G.X.prog G.X.w) G.X.A G.X.env G.X.xe) (hc : G.X.calm = true) (hi : DI G tg iter F) (hg : DG G tg g) (hb : DB G body Fb) (hs : ∀ x, foldedSetIterable iter G.X.env x = pure x := by intro _; rfl) :
    DS G (.For tg iter body [] pos) (fun D ρ => ∃ Inv : List Dat → List Slot → Prop, F ρ (fun items => Inv items ρ) ∧ (∀ ρ, Inv [] ρ → D.nx ρ) ∧ ∀ d ds ρ, Inv (d :: ds) ρ → g d ρ fun ρ' => Fb { nx := Inv ds, ct := Inv ds, bk := D.nx, rt := D.rt } ρ') := by
  obtain ⟨w, h1, lw⟩ := hi.ex
  obtain ⟨t, h2, lg⟩ := hg.ex
  obtain ⟨u, h3, lb⟩ := hb.ex
  refine ⟨⟨_, ps_for hp hc h1 h2 h3 hs, ?_⟩⟩
  intro S σ H ρ D Dh gd h q
  obtain ⟨Inv, h, k0, ks⟩ := h
  refine lw S σ H ρ _ _ gd h fun J items H1 st wk hp => ?_
  have g1 := gd.step st
  have fr1 : Fr S H S H1 := st.fr gd
  refine ⟨fun i m σ' H' => m = items.length - i ∧ i ≤ items.length ∧ ∃ S' ρ', Gd G S' σ' H' ρ' ∧ Fr S H1 S' H' ∧ Inv (items.drop i) ρ', ⟨items.length, rfl, Nat.zero_le _, S, ρ, g1, Fr.refl _ _, hp⟩, ?_⟩
  rintro i m σ' H' ⟨rfl, hi, S', ρ', g', fr, hf⟩
  by_cases hlt : i < items.length
  · refine .inr ⟨wk.go i S' H' hlt fr, fun σ2 H2 => ∃ S2 ρ2, Gd G S2 σ2 H2 ρ2 ∧ Fr S H1 S2 H2 ∧ Inv (items.drop (i + 1)) ρ2, fun σ2 H2 ⟨S2, ρ2, a1, a2, a3⟩ => ⟨items.length - (i + 1), by omega, rfl, hlt, S2, ρ2, a1, a2, a3⟩, fun x H2 y => ?_⟩
    obtain ⟨s2, hd⟩ := wk.yld i _ S' σ' ρ' H' x H2 (List.getElem?_eq_getElem hlt) g' fr y
    have g2 := g'.step s2
    rw [List.drop_eq_getElem_cons hlt] at hf
    refine lg S' σ' H2 ρ' _ x _ _ g2 hd (ks _ _ _ hf) fun σ3 ρ3 g3 hb => ?_
    have frx : Fr S' H' S' H2 := s2.fr g'
    refine lb S' σ3 H2 ρ3 _ _ g3 hb ⟨fun S4 σ4 H4 ρ4 g4 fr4 hn => ⟨S4, ρ4, g4, (fr.trans frx).trans fr4, hn⟩, q.rt, fun S4 σ4 H4 ρ4 g4 fr4 hn => q.nx S4 σ4 H4 ρ4 g4 (fr1.trans ((fr.trans frx).trans fr4)) hn, fun S4 σ4 H4 ρ4 g4 fr4 hn => ⟨S4, ρ4, g4, (fr.trans frx).trans fr4, hn⟩⟩
  · have e : i = items.length := by omega
    subst e
    rw [List.drop_length] at hf
    exact .inl ⟨wk.stop S' H' fr, q.nx S' σ' H' ρ' g' (fr1.trans fr) (k0 _ hf)⟩
end
end DL
namespace DL
open PySem PySem.Spec PyProof.Rows L2
theorem zip_pairs : ∀ {kvs : List (Key × V)} {its its2 : List Value}, Vals (kvs.map fun kv => kV kv.1) its → Vals (kvs.map (·.2)) its2 →
    ∃ prs : List (Key × Value), KV kvs prs ∧ prs.length = kvs.length ∧ ∀ (P : Program) (w : World) (j : Nat) (k v : Value), its[j]? = some k → its2[j]? = some v → ∃ key, prs[j]? = some (key, v) ∧ (mixKind P w).is key k = true
  | [], its, its2, h1, h2 => ⟨[], .nil, rfl, fun P w j k v e => by cases h1; simp at e⟩
  | (key, x) :: r, its, its2, h1, h2 => by
    rw [List.map_cons] at h1 h2
    cases h1 with
    | cons a1 t1 =>
      cases h2 with
      | cons a2 t2 =>
        rename_i u us u2 us2
        obtain ⟨prs, rel, hl, hp⟩ := zip_pairs t1 t2
        refine ⟨(key, u2) :: prs, .cons ⟨rfl, a2⟩ rel, by rw [List.length_cons, List.length_cons, hl], fun P w j k v e1 e2 => ?_⟩
        cases j with
        | zero =>
          cases Option.some.inj e1
          cases Option.some.inj e2
          exact ⟨key, rfl, kV_is a1⟩
        | succ j => exact hp P w j k v e1 e2
def tDictZip (K : PySem.W.Frag) (ta : TA) : TE := fun σ H Q => ta σ H fun vs H1 => ∃ (l1 l2 : Addr) (kvs : List (Key × V)), vs = [.ref l1, .ref l2] ∧ SqL K H1 l1 (kvs.map fun kv => kV kv.1) ∧ SqL K H1 l2 (kvs.map (·.2)) ∧ ∀ p, H1 p = none → Q (.ref p) (upd H1 p (.dK (mergeK [] kvs)))
theorem pe_dictzip {X : Cx} {a b : Expr} {ta : TA} {p p2 pos pos2 : Pos} (hcalm : X.calm = true) (hgd : Gl X "dict") (hmd : X.mg "dict" = none) (hgz : Gl X "zip") (hmz : X.mg "zip" = none) (ha : PA X [a, b] ta)
    (hs : starEach [a, b] X.env = (false, eval a X.env) :: starEach [b] X.env := by rfl) (hpl : (backTo pos2 (starEach [b] X.env)).any (·.1) = false := by rfl)
    (hs2 : starEach [.Call (.Name "zip" p2) [a, b] [] pos2] X.env = (false, eval (.Call (.Name "zip" p2) [a, b] [] pos2) X.env) :: starEach [] X.env := by rfl) (hpl2 : (backTo pos (starEach [] X.env)).any (·.1) = false := by rfl) :
    PE X (.Call (.Name "dict" p) [.Call (.Name "zip" p2) [a, b] [] pos2] [] pos) (tDictZip X.K ta) := by
  refine ⟨fun pins s σ H Q I h => ?_⟩
  refine wpAny_Call_Name_kw (ld_blt I hgd hmd (u := .type "dict") (by decide +kernel) ?_)
  refine PyProof.Rows.callWith_type1 ?_ hs2 hpl2
  rw [hs2]
  show wpAny _ _ (spliced ((false, eval _ X.env) :: backTo pos (starEach [] X.env))) _ _ s
  refine Calls.spliced_cons ?_
  refine Call_ (ld_blt I hgz hmz PyProof.Rows.boot_zip (PyProof.Rows.callWith_type1 (thn (ha.run pos2 pins s σ H _ I h) fun us s1 ⟨vs, H1, I1, r1, q1⟩ => ?_) hs hpl))
  obtain ⟨l1, l2, kvs, ex, hqx, hqy, q⟩ := q1
  subst ex
  obtain ⟨u1, u2, e1, ra, rb⟩ := vals2 r1
  subst e1
  obtain rfl : u1 = Value.ref l1 := ra
  obtain rfl : u2 = Value.ref l2 := rb
  obtain ⟨its, rv, p1, hz1⟩ := I1.list hqx
  obtain ⟨its2, rv2, p2', hz2⟩ := I1.list hqy
  have ln1 := rv.length
  have ln2 := rv2.length
  rw [List.length_map] at ln1 ln2 hz1 hz2
  refine call_zip_2 p1.isList p2'.isList fun h' hz hTI hTO h1 h2 hsz hk => ?_
  refine Calls.spliced_nil ?_
  obtain ⟨prs, rel, hl, hp⟩ := zip_pairs rv rv2
  have hh : X.A.handled = none := I1.ok.hd hcalm
  have ap := PySem.W.ktu_apart s1.heap.objs.size l1 l2 p1.lt p2'.lt
  refine PySem.call_dict_pairs (knd := mixKind X.prog X.w) (kvs := prs) (PairArg.zip _ _ _ _ _ l1 l2 ap its.toArray its2.toArray) hh ?_ ?_ ?_ ?_
  · exact ⟨hz, hTI, ⟨_, _, hTO⟩, h1, h2, p1.isList.at fun o e => hk _ o e, p2'.isList.at fun o e => hk _ o e⟩
  · refine ⟨?_, fun i key v ⟨e1, e2⟩ => ?_⟩
    · rw [hl]; simp; omega
    · exact hp _ _ i key v (by simpa using e1) (by simpa using e2)
  · simp; omega
  · intro h2' tk hd' k
    have kk : ∀ b o, s1.heap.get? b = some o → h2'.get? b = some o := fun b o e => k b o (fun z => by
      simp only [List.mem_cons, List.not_mem_nil, or_false] at z
      have hb := Heap.lt_size e
      rcases z with z | z | z | z
      · rw [z] at hb; exact absurd hb (Nat.not_lt.mpr (Nat.le_add_right _ _))
      · rw [z] at hb; exact absurd hb (Nat.not_lt.mpr (Nat.le_add_right _ _))
      · rw [z] at hb; exact absurd hb (Nat.lt_irrefl _)
      · rw [z] at hb; exact absurd hb (Nat.not_lt.mpr (Nat.le_add_right _ _))) (hk _ _ e)
    have hm : (h'.objs.size == sysModules) = false := beq_eq_false_iff_ne.mpr (Nat.ne_of_gt (Nat.lt_of_lt_of_le I1.big (by rw [hsz]; exact Nat.le_add_right _ _)))
    have hlen : (mergeK [] kvs).length ≤ sizeLine := Nat.le_trans (length_mergeK kvs []) (by rw [List.length_nil, Nat.zero_add]; exact hz1)
    exact ⟨.ref h'.objs.size, upd H1 h'.objs.size (.dK (mergeK [] kvs)), I1.laid (t' := tk) kk (by omega) (show ObjOk X.prog X.w _ _ _ (.dK (mergeK [] kvs)) from ⟨hlen, hm, merged [] prs, KV.merge rel .nil, hd'⟩), rfl, q _ (I1.hok.fresh (by omega))⟩
/-! ### what such a dict holds -/
def putP (l : List (Key × Dat)) (k : Key) (d : Dat) : List (Key × Dat) := if (l.any fun kv => decide (kv.1 = k)) = true then l.map (fun kv => if kv.1 = k then (kv.1, d) else kv) else l ++ [(k, d)]
def mergeP (l more : List (Key × Dat)) : List (Key × Dat) := more.foldl (fun acc kv => putP acc kv.1 kv.2) l
def dicP (l : List (Key × Dat)) : Dat := .dic (l.map (·.1)) (l.map (·.2))
def RelP (K : PySem.W.Frag) (S : Addr → Prop) (H : Hp) (kvs : List (Key × V)) (l : List (Key × Dat)) : Prop := kvs.map (·.1) = l.map (·.1) ∧ DvL K S H (l.map (·.2)) (kvs.map (·.2))
section
variable {K : PySem.W.Frag} {S : Addr → Prop} {H : Hp}
theorem RelP.any {k : Key} : ∀ {kvs : List (Key × V)} {l : List (Key × Dat)}, kvs.map (·.1) = l.map (·.1) → (kvs.any fun kv => decide (kv.1 = k)) = (l.any fun kv => decide (kv.1 = k))
  | [], [], _ => rfl
  | [], _ :: _, h => by cases h
  | _ :: _, [], h => by cases h
  | x :: r, y :: t, h => by
    rw [List.map_cons, List.map_cons] at h
    injection h with h1 h2
    rw [List.any_cons, List.any_cons, RelP.any h2, h1]
theorem RelP.over {k : Key} {v : V} {d : Dat} (hd : Dv K S H d v) : ∀ {kvs : List (Key × V)} {l : List (Key × Dat)}, RelP K S H kvs l → RelP K S H (kvs.map fun kv => if kv.1 = k then (kv.1, v) else kv) (l.map fun kv => if kv.1 = k then (kv.1, d) else kv)
  | [], [], h => h
  | [], _ :: _, ⟨h, _⟩ => by cases h
  | _ :: _, [], ⟨h, _⟩ => by cases h
  | x :: r, y :: t, ⟨h, h'⟩ => by
    rw [List.map_cons, List.map_cons] at h
    injection h with h1 h2
    obtain ⟨z, r', e1, h3, h4⟩ := (h' : ∃ z r', _ = z :: r' ∧ Dv K S H y.2 z ∧ DvL K S H (t.map (·.2)) r')
    rw [List.map_cons] at e1
    injection e1 with ea eb
    subst ea; subst eb
    obtain ⟨g1, g2⟩ := RelP.over (k := k) hd (kvs := r) (l := t) ⟨h2, h4⟩
    rw [List.map_cons, List.map_cons]
    by_cases hk : x.1 = k
    · rw [if_pos hk, if_pos (h1 ▸ hk)]
      exact ⟨by rw [List.map_cons, List.map_cons, g1, h1], ⟨v, _, rfl, hd, g2⟩⟩
    · rw [if_neg hk, if_neg (h1 ▸ hk)]
      exact ⟨by rw [List.map_cons, List.map_cons, g1, h1], ⟨x.2, _, rfl, h3, g2⟩⟩
theorem RelP.put {k : Key} {v : V} {d : Dat} {kvs : List (Key × V)} {l : List (Key × Dat)} (h : RelP K S H kvs l) (hd : Dv K S H d v) : RelP K S H (putK kvs k v) (putP l k d) := by
  unfold putK putP
  rw [RelP.any h.1]
  split
  · exact h.over hd
  · exact ⟨by rw [List.map_append, List.map_append, h.1]; rfl, by rw [List.map_append, List.map_append]; exact h.2.append ⟨v, [], rfl, hd, rfl⟩⟩
theorem RelP.merge : ∀ {more : List (Key × V)} {lm : List (Key × Dat)} {kvs : List (Key × V)} {l : List (Key × Dat)}, RelP K S H kvs l → RelP K S H more lm → RelP K S H (mergeK kvs more) (mergeP l lm)
  | [], [], _, _, h, _ => h
  | [], _ :: _, _, _, _, ⟨h, _⟩ => by cases h
  | _ :: _, [], _, _, _, ⟨h, _⟩ => by cases h
  | x :: r, y :: t, kvs, l, h, ⟨e, h'⟩ => by
    rw [List.map_cons, List.map_cons] at e
    injection e with h1 h2
    obtain ⟨z, r', e1, h3, h4⟩ := (h' : ∃ z r', _ = z :: r' ∧ Dv K S H y.2 z ∧ DvL K S H (t.map (·.2)) r')
    rw [List.map_cons] at e1
    injection e1 with ea eb
    subst ea; subst eb
    have q := h.put (k := x.1) h3
    have := RelP.merge (more := r) (lm := t) (h1 ▸ q) ⟨h2, h4⟩
    unfold mergeK mergeP
    rw [List.foldl_cons, List.foldl_cons, ← h1]
    unfold mergeK mergeP at this
    rw [← h1] at this
    exact this
end
/-- dict(zip(texts, things)), lists of one length -/
def dictzipD (ds : List Dat) (P : Dat → Prop) : Prop := two ds fun x y => lstD x fun xs => lstD y fun ys => someD (strsOf xs) fun zs => zs.length = ys.length ∧ P (dicP (mergeP [] ((zs.map Sum.inr).zip ys)))
section
variable {G : Ctx} {S : Addr → Prop} {H : Hp} {pos : Pos} {a b : Expr}
theorem de_dictzip {Fs : FA} {p p2 pos2 : Pos} (hc : G.X.calm = true) (hmd : G.X.mg "dict" = none) (hmz : G.X.mg "zip" = none) (ha : DA G [a, b] Fs) (hgd : Gl G.X "dict" := by rfl) (hgz : Gl G.X "zip" := by rfl)
    (hs : starEach [a, b] G.X.env = (false, eval a G.X.env) :: starEach [b] G.X.env := by rfl) (hpl : (backTo pos2 (starEach [b] G.X.env)).any (·.1) = false := by rfl)
    (hs2 : starEach [.Call (.Name "zip" p2) [a, b] [] pos2] G.X.env = (false, eval (.Call (.Name "zip" p2) [a, b] [] pos2) G.X.env) :: starEach [] G.X.env := by rfl) (hpl2 : (backTo pos (starEach [] G.X.env)).any (·.1) = false := by rfl) :
    DE G (.Call (.Name "dict" p) [.Call (.Name "zip" p2) [a, b] [] pos2] [] pos) (fun ρ P => Fs ρ fun ds => dictzipD ds P) := by
  obtain ⟨t, h, l⟩ := ha.ex
  refine ⟨⟨_, pe_dictzip hc hgd hmd hgz hmz h hs hpl hs2 hpl2, fun S σ H ρ P Q g h q => ?_⟩⟩
  refine l S σ H ρ _ _ g h fun vs ds H1 st hv hp => ?_
  unfold dictzipD two at hp
  split at hp
  · rename_i x y
    obtain ⟨v, w, rfl, h1, h2⟩ := dvl2 hv
    cases x with
    | lst xs =>
      cases y with
      | lst ys =>
        obtain ⟨zs, e, hl, hp⟩ := someD_inv hp
        obtain ⟨l1, us, rfl, n1, e1, hl1⟩ := dv_lst h1
        obtain ⟨l2, us2, rfl, n2, e2, hl2⟩ := dv_lst h2
        rw [strsOf_eq e] at hl1
        have hu := hl1.strs
        have g1 := g.step st
        have len2 := hl2.len
        have ezip : ((zs.map (Sum.inr (α := Int))).zip us2).map (fun kv => kV kv.1) = us := by
          rw [hu]
          have : (fun kv : Key × V => kV kv.1) = (fun k : Key => kV k) ∘ (fun kv : Key × V => kv.1) := rfl
          rw [this, ← List.map_map, List.map_fst_zip (by simp; omega), List.map_map]
          rfl
        have ezip2 : ((zs.map (Sum.inr (α := Int))).zip us2).map (·.2) = us2 := List.map_snd_zip (by simp; omega)
        refine ⟨l1, l2, (zs.map Sum.inr).zip us2, rfl, by rw [ezip]; exact .inl (.inl e1), by rw [ezip2]; exact .inl (.inl e2), fun p np => ?_⟩
        have rel : RelP G.X.K S H1 ((zs.map (Sum.inr (α := Int))).zip us2) ((zs.map Sum.inr).zip ys) := by
          refine ⟨?_, ?_⟩
          · rw [List.map_fst_zip (by simp; omega), List.map_fst_zip (by simp; omega)]
          · rw [ezip2, List.map_snd_zip (by simp; omega)]; exact hl2
        have rel2 := RelP.merge (kvs := []) (l := []) ⟨rfl, rfl⟩ rel
        have st2 : Stp G H1 (upd H1 p (.dK (mergeK [] ((zs.map (Sum.inr (α := Int))).zip us2)))) := Stp.new g1.wld np
        refine q _ (dicP (mergeP [] ((zs.map Sum.inr).zip ys))) _ (st.trans st2) ⟨p, _, rfl, g1.fresh np, upd_same, rel2.1, st2.dvl g1 rel2.2⟩ hp
      | _ => exact hp.elim
    | _ => exact hp.elim
  · exact hp.elim
end
end DL
namespace DL
open PySem PySem.Spec PyProof.Rows L2
/-! ### a def that may raise -/
/-- the context of a pure def's body that may raise -/
abbrev ctxX (P : Program) (w : World) (K : PySem.W.Frag) (mg : Str → Option Value) (base : Heap) (N : List Str) (qual : Str) (sc : Scope) (f : Addr) (cdv : Value) (A : Around) (outer : List Env) (s : Shared) (H : Hp) (S : Addr → Prop) (hS : ∀ a, S a → ∃ o, H a = some o) (E : XK) (EX : Exc → Prop)
    (el : ∀ (C d : Addr) (fs : List (Str × V)) (ds : List (Str × Dat)) (H' : Hp), EX (C, ds) → Evl.Ex H H' → H' d = some (.xd fs) → fs.map (·.1) = ds.map (·.1) → DvL K S H' (ds.map (·.2)) (fs.map (·.2)) → H d = none → E (.ref C) (some d) H') : Ctx where
  X := cxOf (L2.CX P w) P w K mg base N qual sc f cdv A outer s H E
  H0 := H
  S0 := S
  W := Evl.Ex H
  clo := fun H1 H2 h k _ a o e => k a o o e (h a o e)
  top := fun H1 h a o e => ⟨o, h a o e⟩
  s0 := hS
  E := E
  EX := EX
  elink := el
/-- THE RULE for a pure def that may raise -/
theorem fn_pureX {P : Program} {w : World} {K : PySem.W.Frag} {mg : Str → Option Value} {base : Heap} {x qual : Str} {st : Stmt} {f : Addr} {fd : FuncData} {N ps : List Str} {k : Nat} {C : Con} (F : Fun K x qual st f fd) (Sc : FnScope N ps (defScope st)) (len : ∀ ds P X, C.C ds P X → ds.length = ps.length)
    (hbody : ∀ (cdv : Value) (A : Around) (outer : List Env) (s : Shared) (H : Hp) (S : Addr → Prop) (hS : ∀ a, S a → ∃ o, H a = some o) (E : XK) (EX : Exc → Prop) (el), Room k (A.deeper (envOfC qual (defScope st) s.heap.objs.size f cdv)) →
      ∃ T, DB (ctxX P w K mg base N qual (defScope st) f cdv A outer s H S hS E EX el) (defBody st) T ∧ ∀ ds R, C.C ds R EX → T { nx := fun _ => R .non, rt := R } (start N.length ds)) : FnOk P w K mg base (L2.CX P w) (k + 1) f fd ps (spD K C) := by
  have hpl : ps.length ≤ N.length := by have := congrArg List.length Sc.pre; rw [List.length_take] at this; omega
  refine F.okX Sc (fun vs H Q E ⟨S, ds, _, hv, hc⟩ => by rw [hv.len]; exact len _ _ _ hc) fun cdv A outer s H vs Q E hr h => ?_
  obtain ⟨S, ds, hS, hv, hc⟩ := h
  obtain ⟨T, ⟨t, hp, l⟩, hT⟩ := hbody cdv A outer s H S hS E (fun x => ∀ fs d H', Evl.Ex H H' → H d = none → H' d = some (.xd fs) → fs.map (·.1) = x.2.map (·.1) → DvL K S H' (x.2.map (·.2)) (fs.map (·.2)) → E (.ref x.1) (some d) H')
    (fun C d fs ds H' q e h1 h2 h3 h4 => q fs d H' e h4 h1 h2 h3) hr
  refine ⟨t, hp, ?_⟩
  refine l S _ H (start N.length ds) _ _ (gd_start (G := ctxX P w K mg base N qual (defScope st) f cdv A outer s H S hS E _ _) (fun _ _ e => e) hS hv (by rw [len _ _ _ hc]; exact hpl)) (hT ds _ hc) ?_
  exact ⟨fun S' σ' H' ρ' g fr q => q .non H' g.wld rfl, fun v d H' hw hv q => q v H' hw hv, fun _ _ _ _ _ _ z => z.elim, fun _ _ _ _ _ _ z => z.elim⟩
section
variable {G : Ctx} {S : Addr → Prop} {σ : L2.St} {H H' : Hp} {ρ : List Slot} {pos : Pos}
abbrev TkG (G : Ctx) : Prop := Takes G.X (fun cls d _ H => G.E cls d H)
/-- a raised one's way out -/
theorem elink' (g : Gd G S σ H ρ) {x : Exc} {fs : List (Str × V)} {d : Addr} (h : G.EX x) (e : Evl.Ex H H') (hd : H d = none) (hf : H' d = some (.xd fs)) (hn : fs.map (·.1) = x.2.map (·.1)) (hv : DvL G.X.K S H' (x.2.map (·.2)) (fs.map (·.2))) : G.E (.ref x.1) (some d) H' :=
  G.elink x.1 d fs x.2 H' h (Stp.ex g.wld e).wld hf hn (hv.move fun a o n q => ⟨fun z => n (g.sub a z), q⟩) (g.fresh0 hd)
theorem spD_useX {C : Con} {vs : List V} {ds : List Dat} {P : Dat → Prop} {Q : VK} (g : Gd G S σ H ρ) (hv : DvL G.X.K S H ds vs) (h : C.C ds P G.EX) (q : ∀ v d H', Stp G H H' → Dv G.X.K S H' d v → P d → Q v H') : spD G.X.K C vs H Q G.E :=
  ⟨S, ds, g.all, hv, C.mono ds _ _ _ _ h (fun d hp v H' e hd => q v d H' (Stp.ex g.wld e) hd hp) fun x hx fs d H' e hd hf hn hv => elink' g hx e hd hf hn hv⟩
/-- a def by its name that may raise -/
structure CalleeX (P : Program) (w : World) (K : PySem.W.Frag) (mg : Str → Option Value) (base : Heap) (x : Str) (k : Nat) (ps : List Str) (C : Con) : Prop where
  ex : ∃ f fd, FnOk P w K mg base (L2.CX P w) k f fd ps (spD K C) ∧ mg x = some (.ref f) ∧ PySem.W.keepIn K (.ref f) = true ∧ Binds K fd ps []
theorem de_fnX {x : Str} {k m : Nat} {ps : List Str} {C : Con} {p : Pos} {e : Expr} {es : List Expr} {Fs : FA} (h : CalleeX G.X.prog G.X.w G.X.K G.X.mg G.X.base x k ps C) (hr : Room m G.X.A) (ha : DA G (e :: es) Fs) (hk : k ≤ m := by decide) (tk : TkG G := by exact takes_of rfl rfl rfl rfl) (hg : Gl G.X x := by rfl) (hdb : (x == ("__debug__" : Str)) = false := by decide)
    (he : starEach (e :: es) G.X.env = (false, eval e G.X.env) :: starEach es G.X.env := by rfl) (hpl : (backTo pos (starEach es G.X.env)).any (·.1) = false := by rfl) :
    DE G (.Call (.Name x p) (e :: es) [] pos) (fun ρ P => Fs ρ fun ds => C.C ds P G.EX) := by
  obtain ⟨f, fd, F, hm, hkp, hb⟩ := h.ex
  obtain ⟨t, h, l⟩ := ha.ex
  refine ⟨⟨_, pe_call F (hr.mono hk) hg hm hkp hb .nil (passes_call tk fun _ _ _ _ z => z) h hdb he hpl, fun S σ H ρ P Q g h q => ?_⟩⟩
  refine l S σ H ρ _ _ g h fun vs ds H1 st hv hp => ?_
  rw [List.append_nil]
  exact spD_useX (g.step st) hv hp fun v d H2 st2 => q v d H2 (st.trans st2)
/-! ### an own error over ValueError, of one field -/
/-- what its __init__ keeps -/
def spInit (K : PySem.W.Frag) (fld : Str) : Sp := fun vs H Q E => ∃ (a C : Addr) (y : V), vs = [.ref a, y] ∧ OexC K C ∧ PySem.W.findIn K (.ref C) fld = some none ∧ H a = some (exo a C none) ∧ ∀ dx, H dx = none → dx ≠ a → Q .non (upd (upd H dx (exd dx [(fld, y)])) a (exo a C (some dx)))
/-- what the written part says of it -/
structure OwnX (P : Program) (w : World) (K : PySem.W.Frag) (mg : Str → Option Value) (base : Heap) (x : Str) (C : Addr) (fld : Str) (k : Nat) : Prop where
  T : OexC K C
  m : mg x = some (.ref C)
  no : PySem.W.findIn K (.ref C) fld = some none
  ex : ∃ fI fd ps, PySem.W.findIn K (.ref C) "__init__" = some (some (.ref fI)) ∧ PySem.W.typeIn K (.ref fI) = some (.type "function") ∧ FnOk P w K mg base CX0 k fI fd ps (spInit K fld) ∧ Binds K fd ps []
theorem ds_raise {x fld : Str} {C : Addr} {k m : Nat} {e : Expr} {F : FE} {p pos pos' : Pos} (O : OwnX G.X.prog G.X.w G.X.K G.X.mg G.X.base x C fld k) (hr : Room m G.X.A) (he : DE G e F) (hk : k + 1 ≤ m := by decide) (hc : G.X.calm = true := by rfl) (tk : TkG G := by exact takes_of rfl rfl rfl rfl) (hg : Gl G.X x := by rfl) (hdb : (x == ("__debug__" : Str)) = false := by decide)
    (hs : starEach [e] G.X.env = (false, eval e G.X.env) :: starEach [] G.X.env := by rfl) (hpl : (backTo pos (starEach [] G.X.env)).any (·.1) = false := by rfl) :
    DS G (.Raise (some (.Call (.Name x p) [e] [] pos)) none pos') (fun _ ρ => F ρ fun d => G.EX (C, [(fld, d)])) := by
  obtain ⟨fI, fd, ps, i1, i2, F1, hb⟩ := O.ex
  obtain ⟨t, h, l⟩ := he.ex
  have hx : Passes CX0 G.X (fun _ _ _ => False) := pass0
  refine ⟨⟨_, ps_raise hc tk (pmk_oex O.T i1 i2 F1 (hr.mono hk) hb .nil hx hg O.m (pa_cons h pa_nil hs) hdb hs hpl), fun S σ H ρ D Dh g h q => ?_⟩⟩
  refine l S σ H ρ _ _ g h fun v d H1 st hv hp => ?_
  refine ⟨show 1 ≤ 1000 by decide, fun a na => ?_⟩
  have g1 := g.step st
  refine ⟨a, C, v, rfl, O.T, O.no, upd_same, fun dx ndx dne => ⟨rfl, dx, [(fld, v)], upd_same, ?_, ?_, ?_⟩⟩
  · rw [upd_ne dne, upd_same]
  · rw [upd_ne dne] at ndx; exact ndx
  · rw [upd_ne dne] at ndx
    have ex : Evl.Ex H1 (upd (del (upd (upd (upd H1 a (exo a C none)) dx (exd dx [(fld, v)])) a (exo a C (some dx))) a) dx (.xd [(fld, v)])) := fun b o e => by
      have h1 : b ≠ dx := fun z => by rw [z, ndx] at e; cases e
      have h2 : b ≠ a := fun z => by rw [z, na] at e; cases e
      rw [upd_ne h1, del_ne h2, upd_ne h2, upd_ne h1, upd_ne h2]
      exact e
    exact elink' (x := (C, [(fld, d)])) (fs := [(fld, v)]) g1 hp ex ndx upd_same rfl ⟨v, [], rfl, (Stp.ex g1.wld ex).dv g1 hv, rfl⟩
theorem ds_expr {e : Expr} {F : FE} (he : DE G e F) (hs : swapsWith e none pos.line G.X.env = pure false := by rfl) : DS G (.Expr e pos) (fun D ρ => F ρ fun _ => D.nx ρ) := by
  obtain ⟨t, h, l⟩ := he.ex
  refine ⟨⟨_, ps_expr h hs, fun S σ H ρ D Dh g h q => ?_⟩⟩
  exact l S σ H ρ _ _ g h fun v d H1 st hv hp => q.nx S σ H1 ρ (g.step st) (st.fr g) hp
end
end DL
namespace DL
open PySem PySem.Spec PyProof.Rows L2
section
variable {G : Ctx} {S : Addr → Prop} {σ : L2.St} {H H' : Hp} {ρ : List Slot} {pos : Pos} {a b : Expr} {Fa Fb : FE} {F : FE} {e : Expr}
/-! ### isinstance -/
theorem tyX_of {K : PySem.W.Frag} {d : Dat} {v : V} (h : Dv K S H d v) : TyX K H v (.type (tyName d)) := by
  cases d with
  | non => cases (h : v = .non); exact .base .non
  | bl b => cases (h : v = .bl b); exact .base (.bl b)
  | int b => cases (h : v = .int b); exact .base (.int b)
  | str b => cases (h : v = .str b); exact .base (.str b)
  | tup ds =>
    obtain ⟨a, xs, rfl, e, _⟩ := dv_tup h
    rcases e with ⟨_, e⟩ | ⟨o, its, n, e, c, _⟩
    · exact .base (.tup e)
    · exact .kTuple e c
  | lst ds =>
    obtain ⟨a, xs, rfl, n, e, _⟩ := dv_lst h
    exact .base (.lst e)
  | dic ks ds =>
    obtain ⟨a, xs, rfl, n, e, _⟩ := dv_dic h
    exact .base (.dK e)
  | anl =>
    obtain ⟨a, xs, rfl, n, e⟩ := dv_anl h
    exact .base (.lst e)
def isInt : Dat → Bool
  | .int _ => true
  | .bl _ => true
  | _ => false
def isStr : Dat → Bool
  | .str _ => true
  | _ => false
def isBl : Dat → Bool
  | .bl _ => true
  | _ => false
def isTup : Dat → Bool
  | .tup _ => true
  | _ => false
def isiB (T : String) (d : Dat) : Bool := if T = "str" then isStr d else if T = "int" then isInt d else if T = "bool" then isBl d else isTup d
def isiTs : List String := ["str", "int", "bool", "tuple"]
theorem isi_str (d : Dat) : isiB "str" d = isStr d := rfl
theorem isi_int (d : Dat) : isiB "int" d = isInt d := rfl
theorem isi_bool (d : Dat) : isiB "bool" d = isBl d := rfl
theorem isi_tuple (d : Dat) : isiB "tuple" d = isTup d := rfl
theorem kit_isi {T : String} (hT : T ∈ isiTs) (d : Dat) : kitB (tyName d) T = some (isiB T d) := by
  simp only [isiTs, List.mem_cons, List.not_mem_nil, or_false] at hT
  rcases hT with rfl | rfl | rfl | rfl
  · rw [isi_str]; cases d <;> simp only [tyName, isStr] <;> decide +kernel
  · rw [isi_int]; cases d <;> simp only [tyName, isInt] <;> decide +kernel
  · rw [isi_bool]; cases d <;> simp only [tyName, isBl] <;> decide +kernel
  · rw [isi_tuple]; cases d <;> simp only [tyName, isTup] <;> decide +kernel
theorem de_isi {T : Str} {TT : String} {p1 p2 p3 : Pos} (hT : TT ∈ isiTs := by decide) (he : DE G e F) (hm : G.X.mg "isinstance" = none) (hmT : G.X.mg T = none) (hv : bootBuiltins T = some (.type TT)) (hn : T ≠ "__name__") (hd : (T == ("__debug__" : Str)) = false) (hg : Gl G.X "isinstance" := by rfl) (hgT : Gl G.X T := by rfl)
    (hs : starEach [e, .Name T p3] G.X.env = (false, eval e G.X.env) :: starEach [.Name T p3] G.X.env := by rfl) (hs2 : starEach [.Name T p3] G.X.env = (false, eval (.Name T p3) G.X.env) :: starEach [] G.X.env := by rfl) (hpl : (backTo p2 (starEach [.Name T p3] G.X.env)).any (·.1) = false := by rfl) :
    DE G (.Call (.Name "isinstance" p1) [e, .Name T p3] [] p2) (fun ρ P => F ρ fun x => P (.bl (isiB TT x))) := by
  obtain ⟨t, h, l⟩ := he.ex
  refine ⟨⟨_, pe_callB call_isi hg hm (by decide +kernel) (pa_cons h (pa_cons (pe_bltn (v := V.ty TT) hgT hmT hv rfl hn hd) pa_nil hs2) hs) (he := hs) (hpl := hpl), fun S σ H ρ P Q g h q => ?_⟩⟩
  refine l S σ H ρ _ _ g h fun v d H1 st hv hp => ?_
  exact ⟨v, .ty TT, _, _, _, rfl, .ty TT, tyX_of hv, kit_ty (kit_isi hT d), q _ (.bl _) H1 st rfl hp⟩
/-! ### == with one side shallow -/
def rEqM (K : PySem.W.Frag) (neg : Bool) : R2 := fun x y H Q => ∃ d e, Dp K H x d ∧ Dp K H y e ∧ d.canLay0 = true ∧ e.canLay0 = true ∧ min d.depth e.depth ≤ 64 ∧ Q (.bl (if neg then !PyData.eqv d e else PyData.eqv d e)) H
theorem op_eqM {X : Cx} (hu : X.A.units + 64 < cLine) : OpR X (compareOp .Eq) (rEqM X.K false) := by
  intro pins s σ H x y v u Q I rx ry h
  obtain ⟨d, e, hd, he, sd, se, hm, q⟩ := h
  obtain ⟨as, r1⟩ := Dp.reads I d x v hd rx
  obtain ⟨bs, r2⟩ := Dp.reads I e y u he ry
  exact SeqAt.compareEq_reads r1 r2 sd se (by omega) ⟨.bl _, H, I, rfl, q⟩
def eqM : R2D := fun x y P => (toP x).canLay0 = true ∧ (toP y).canLay0 = true ∧ min (toP x).depth (toP y).depth ≤ 64 ∧ P (.bl (PyData.eqv (toP x) (toP y)))
theorem serves_eqM : Serves G (rEqM G.X.K false) eqM := by
  intro S σ ρ H x y dx dy P Q g hx hy ⟨h1, h2, h3, h4⟩ q
  exact ⟨_, _, dp_of _ _ hx h1, dp_of _ _ hy h2, h1, h2, h3, q _ (.bl _) H (Stp.refl g.wld) rfl h4⟩
theorem de_eqM (hu : G.X.A.units + 64 < cLine) (ha : DE G a Fa) (hb : DE G b Fb) : DE G (.Compare a [.Eq] [b] pos) (fun ρ P => Fa ρ fun x => Fb ρ fun y => eqM x y P) := de_cmp (op_eqM hu) serves_eqM ha hb
theorem dt_eqM (hu : G.X.A.units + 64 < cLine) (ha : DE G a Fa) (hb : DE G b Fb) : DT G (.Compare a [.Eq] [b] pos) (fun ρ P => Fa ρ fun x => Fb ρ fun y => eqM x y fun z => isB z P) := dt_cmp (op_eqM hu) serves_eqM ha hb
theorem eqM_nil {ds : List Dat} {P : Dat → Prop} (h : (toP (.tup ds)).canLay0 = true) (q : P (.bl ds.isEmpty)) : eqM (.tup ds) (.tup []) P := by
  refine ⟨h, by rfl, Nat.le_trans (Nat.min_le_right _ _) (by decide), ?_⟩
  cases ds with
  | nil => exact q
  | cons d ds => exact q
/-! ### ints -/
theorem de_mod (ha : DE G a Fa) (hb : DE G b Fb) : DE G (.BinOp a .Mod b pos) (fun ρ P => Fa ρ fun x => Fb ρ fun y => intD (fun i j => .int (i % j)) (fun _ j => 0 < j) x y P) := de_bin op_mod serves_I ha hb
theorem de_mulI (ha : DE G a Fa) (hb : DE G b Fb) : DE G (.BinOp a .Mult b pos) (fun ρ P => Fa ρ fun x => Fb ρ fun y => intD (fun i j => .int (i * j)) CMul x y P) := de_bin op_mul serves_I ha hb
theorem de_pow (ha : DE G a Fa) (hb : DE G b Fb) : DE G (.BinOp a .Pow b pos) (fun ρ P => Fa ρ fun x => Fb ρ fun y => intD (fun i j => .int (i ^ j.toNat)) CPow x y P) := de_bin op_pow serves_I ha hb
theorem de_fdiv (ha : DE G a Fa) (hb : DE G b Fb) : DE G (.BinOp a .FloorDiv b pos) (fun ρ P => Fa ρ fun x => Fb ρ fun y => intD (fun i j => .int (i / j)) CDiv x y P) := de_bin op_fdiv serves_I ha hb
/-! ### a sign in a text -/
def signIn (neg : Bool) : R2D := fun x y P => isS x fun s => isS y fun z => s.cps.size = 1 ∧ P (.bl (if neg then !decide (s.cps.getD 0 0 ∈ z.cps.toList) else decide (s.cps.getD 0 0 ∈ z.cps.toList)))
theorem one_sign {s : Str} (h : s.cps.size = 1) : s = ⟨#[s.cps.getD 0 0]⟩ := by
  obtain ⟨⟨l⟩⟩ := s
  match l, h with
  | [c], _ => rfl
theorem serves_ninSign : Serves G (fun x y H Q => ∃ (c : Nat) (z : Str), x = .str ⟨#[c]⟩ ∧ y = .str z ∧ Q (.bl (!decide (c ∈ z.cps.toList))) H) (signIn true) := by
  intro S σ ρ H x y dx dy P Q g hx hy h q
  obtain ⟨s, rfl, h'⟩ := isS_inv (show isS dx _ from h)
  obtain ⟨z, rfl, h1, hp⟩ := isS_inv h'
  cases dv_str hx
  cases dv_str hy
  exact ⟨_, z, by rw [← one_sign h1], rfl, q _ (.bl _) H (Stp.refl g.wld) rfl hp⟩
theorem dt_ninSign (ha : DE G a Fa) (hb : DE G b Fb) (hm : behindInMarks .NotIn b = false := by rfl) : DT G (.Compare a [.NotIn] [b] pos) (fun ρ P => Fa ρ fun x => Fb ρ fun y => signIn true x y fun z => isB z P) := dt_cmp op_notIn_sign serves_ninSign ha hb hm
theorem dt_chain_le {c : Expr} {Fc : FE} (ha : DE G a Fa) (hb : DE G b Fb) (hc : DE G c Fc) (hm : lastMarks [CmpOp.LtE, CmpOp.LtE] [b, c] = false := by rfl) : DT G (.Compare a [.LtE, .LtE] [b, c] pos) (fun ρ P => Fa ρ fun x => Fb ρ fun y => leD x y fun z => isB z fun k => if k = true then Fc ρ fun w => leD y w fun z => isB z P else P false) := by
  obtain ⟨ta, h1, l1⟩ := ha.ex
  obtain ⟨tb, h2, l2⟩ := hb.ex
  obtain ⟨tc, h3, l3⟩ := hc.ex
  refine ⟨⟨_, pt_chain (.or op_le op_le_str) (.or op_le op_le_str) h1 h2 h3 hm, fun S σ H ρ P Q g h q => ?_⟩⟩
  refine lift_chain serves_le serves_le l1 l2 l3 S σ H ρ (fun d => isB d P) _ g ?_ fun v d H1 st hv hp => ?_
  · exact h
  · obtain ⟨b, rfl, hp⟩ := isB_inv hp
    exact ⟨b, hv, q b H1 st hp⟩
/-- a statement that is never reached -/
theorem ds_never {st : Stmt} : DS G st (fun _ _ => False) := ⟨⟨_, ps_never, fun _ _ _ _ _ _ _ h _ => h.elim⟩⟩
theorem db_never {sts : List Stmt} : DB G sts (fun _ _ => False) := ⟨⟨_, pss_never, fun _ _ _ _ _ _ _ h _ => h.elim⟩⟩
end
end DL
namespace DL
open PySem PySem.Spec PyProof.Rows L2
section
variable {G : Ctx} {S S' : Addr → Prop} {σ : L2.St} {H H' : Hp} {ρ : List Slot} {pos : Pos} {a b : Expr} {Fa Fb : FE} {F : FE} {e : Expr}
/-- a scratch object that no slot owns is changed, and owned by a slot -/
theorem Gd.ownAt (g : Gd G S σ H ρ) {i : Nat} {s : Slot} {p : Addr} {o : HO} (sp : S p) (e0 : G.H0 p = none) (hx : ∀ φ, H p ≠ some (.ext φ)) (hs : s.isOwn = true) (other : ∀ (j : Nat) sj, ρ[j]? = some sj → sj.isOwn = true → σ[j]? = some (some (.ref p)) → False) (h : SlotOk G.X.K S G.H0 (upd H p o) (some (.ref p)) s) :
    Gd G S (σ.set i (some (.ref p))) (upd H p o) (ρ.set i s) ∧ Fr S H S (upd H p o) := by
  have fr : Fr S H S (upd H p o) := fun b u n e => ⟨n, by rw [upd_ne (fun z => n (by rw [z]; exact sp))]; exact e⟩
  refine ⟨⟨G.clo H _ g.wld (fun b u u0 e e' => ?_) (keepX_upd hx), fun b hb => ?_, g.sub, by simp [g.len], fun j t ht => ?_, fun j k sj sk w h1 h2 o1 o2 e1 e2 => ?_⟩, fr⟩
  · rw [upd_ne (fun z => by rw [z, e0] at e; cases e)]; exact e'
  · by_cases hbp : b = p
    · exact ⟨o, by rw [hbp]; exact upd_same⟩
    · obtain ⟨u, e⟩ := g.all b hb
      exact ⟨u, by rw [upd_ne hbp]; exact e⟩
  · rw [getset] at ht
    rw [getset]
    by_cases hj : j = i
    · subst hj
      rw [if_pos rfl] at ht ⊢
      have hl := g.len
      by_cases hi : j < ρ.length
      · rw [if_pos hi] at ht
        cases ht
        rw [if_pos (by omega)]
        exact h
      · rw [if_neg hi] at ht; cases ht
    · rw [if_neg hj] at ht ⊢
      refine (g.slots j t ht).move fr (fun _ z => z) fun b v ob eb e => ?_
      have hne : b ≠ p := fun z => by
        subst z
        have eb' : σ[j]? = some (some (.ref b)) := by
          cases ee : σ[j]? with
          | none => rw [ee] at eb; cases eb
          | some o => rw [ee] at eb; cases eb; rfl
        exact other j t ht ob eb'
      rw [upd_ne hne]; exact e
  · rw [getset] at h1 h2
    rw [getset] at e1 e2
    by_cases hj : j = i
    · by_cases hk : k = i
      · omega
      · rw [if_pos hj] at e1
        split at e1
        · cases e1
          rw [if_neg hk] at h2 e2
          exact (other k sk h2 o2 e2).elim
        · cases e1
    · by_cases hk : k = i
      · rw [if_pos hk] at e2
        split at e2
        · cases e2
          rw [if_neg hj] at h1 e1
          exact (other j sj h1 o1 e1).elim
        · cases e2
      · rw [if_neg hj] at h1 e1
        rw [if_neg hk] at h2 e2
        exact g.apart j k sj sk w h1 h2 o1 o2 e1 e2
/-! ### {k: v, ..} -/
abbrev FP := List Slot → (List (Key × Dat) → Prop) → Prop
structure DPs (G : Ctx) (pos : Pos) (keys : List (Option Expr)) (values : List Expr) (F : FP) : Prop where
  ex : ∃ trs, PPs G.X pos keys values trs ∧ ∀ S σ H ρ P (Q : List (V × V) → Hp → Prop), Gd G S σ H ρ → F ρ P → (∀ (kvs : List (Key × V)) l H', Stp G H H' → RelP G.X.K S H' kvs l → P l → Q (kvs.map fun kv => (kV kv.1, kv.2)) H') → tPairs trs σ H Q
theorem dps_nil : DPs G pos [] [] (fun _ P => P []) := ⟨⟨[], pps_nil, fun S σ H ρ P Q g h q => q [] [] H (Stp.refl g.wld) ⟨rfl, rfl⟩ h⟩⟩
theorem dps_cons {ks : List (Option Expr)} {vs : List Expr} {Fr : FP} (ha : DE G a Fa) (hb : DE G b Fb) (hr : DPs G pos ks vs Fr) : DPs G pos (some a :: ks) (b :: vs) (fun ρ P => Fa ρ fun x => isS x fun z => Fb ρ fun y => Fr ρ fun l => P ((.inr z, y) :: l)) := by
  obtain ⟨ta, h1, l1⟩ := ha.ex
  obtain ⟨tb, h2, l2⟩ := hb.ex
  obtain ⟨tr, h3, l3⟩ := hr.ex
  refine ⟨⟨_, pps_cons h1 h2 h3, fun S σ H ρ P Q g h q => ?_⟩⟩
  refine l1 S σ H ρ _ _ g h fun v d H1 st hv hp => ?_
  have g1 := g.step st
  obtain ⟨z, rfl, hp⟩ := isS_inv hp
  cases dv_str hv
  refine l2 S σ H1 ρ _ _ g1 hp fun v2 d2 H2 st2 hv2 hp => ?_
  have g2 := g1.step st2
  refine l3 S σ H2 ρ _ _ g2 hp fun kvs l H3 st3 hrel hp => ?_
  exact q ((.inr z, v2) :: kvs) ((.inr z, d2) :: l) H3 ((st.trans st2).trans st3) ⟨by rw [List.map_cons, List.map_cons, hrel.1], v2, _, rfl, st3.dv g2 hv2, hrel.2⟩ hp
theorem disp_own {keys : List (Option Expr)} {values : List Expr} {Fp : FP} (hp : DPs G pos keys values Fp) (hall : keys.all (·.isSome) = true) (hl : keys.length = values.length) (h0 : keys ≠ []) (h15 : keys.length ≤ 15) :
    ∃ t, PE G.X (.Dict keys values pos) t ∧ ∀ S σ H ρ P (Q : VK), Gd G S σ H ρ → Fp ρ P → (∀ l, P l → l.length ≤ 15) → (∀ p H2 kvs l, H p = none → Gd G (fun a => S a ∨ a = p) σ H2 ρ → Fr S H (fun a => S a ∨ a = p) H2 → H2 p = some (.dK []) → RelP G.X.K (fun a => S a ∨ a = p) H2 kvs (mergeP [] l) → Stp G H (upd H2 p (.dK kvs)) → P l → Q (.ref p) (upd H2 p (.dK kvs))) → t σ H Q := by
  obtain ⟨trs, h, l⟩ := hp.ex
  refine ⟨_, pe_disp h hall hl h0 h15, fun S σ H ρ P Q g hf hlen q => fun p np => ?_⟩
  obtain ⟨g1, fr1⟩ := g.grow (o := .dK []) np
  have stn : Stp G H (upd H p (.dK [])) := Stp.new g.wld np
  refine l _ σ _ ρ P _ g1 hf fun kvs lt H2 st hrel hP => ?_
  have e0 := g.fresh0 np
  have ns0 : ¬ G.S0 p := fun z => g.fresh np (g.sub p z)
  have hp2 : H2 p = some (.dK []) := st.keep p _ ns0 upd_same
  refine ⟨hp2, kvs, rfl, ?_, ?_⟩
  · have e := congrArg List.length hrel.1
    rw [List.length_map, List.length_map] at e
    rw [e]
    exact hlen lt hP
  · have st2 : Stp G H (upd H2 p (.dK (mergeK [] kvs))) := by
      have s12 := stn.trans st
      refine ⟨G.clo H2 _ s12.wld (fun b u u0 e e' => ?_) (keepX_upd fun φ z => by rw [hp2] at z; cases z), fun b u n e => ?_, fun b u e => ?_⟩
      · rw [upd_ne (fun z => by rw [z, e0] at e; cases e)]; exact e'
      · have hb : b ≠ p := fun z => by rw [z, np] at e; cases e
        rw [upd_ne hb]
        exact s12.keep b u n e
      · have hb : b ≠ p := fun z => by rw [z, np] at e; cases e
        rw [upd_ne hb]
        exact s12.has b u e
    exact q p H2 _ lt np (g1.step st) (fun b u n e => by
        obtain ⟨n1, e1⟩ := fr1 b u n e
        exact ⟨n1, st.keep b u (fun z => n1 (.inl (g.sub b z))) e1⟩) hp2 (RelP.merge ⟨rfl, rfl⟩ hrel) st2 hP
/-- a dict display, as plain data -/
theorem de_disp {keys : List (Option Expr)} {values : List Expr} {Fp : FP} (hp : DPs G pos keys values Fp) (hall : keys.all (·.isSome) = true := by rfl) (hl : keys.length = values.length := by rfl) (h0 : keys ≠ [] := by simp) (h15 : keys.length ≤ 15 := by decide) :
    DE G (.Dict keys values pos) (fun ρ P => Fp ρ fun l => l.length ≤ 15 ∧ P (dicP (mergeP [] l))) := by
  obtain ⟨t, h, k⟩ := disp_own hp hall hl h0 h15
  refine ⟨⟨t, h, fun S σ H ρ P Q g hf q => ?_⟩⟩
  refine k S σ H ρ _ _ g hf (fun l z => z.1) fun p H2 kvs l np g2 fr hu rel st hP => ?_
  have e0 := g.fresh0 np
  have nS : ¬ S p := g.fresh np
  refine q _ (dicP (mergeP [] l)) _ st ⟨p, kvs, rfl, nS, upd_same, rel.1, ?_⟩ hP.2
  exact rel.2.move fun b u n e => ⟨fun z => n (.inl z), by rw [upd_ne (fun z => n (.inr z))]; exact e⟩
/-- name = {..}, the dict one's own -/
theorem ds_setDisp {x : Str} {pos' p2 : Pos} {keys : List (Option Expr)} {values : List Expr} {Fp : FP} (i : Nat) (hp : DPs G p2 keys values Fp) (hN : G.X.N.Nodup) (hi : G.X.N[i]? = some x := by rfl) (hx : Loc G.X.env.scope x := by first | exact Or.inl rfl | exact Or.inr rfl) (hs : swapsWith (.Dict keys values p2) (some (.Name x pos')) pos.line G.X.env = pure false := by rfl)
    (hf : G.X.fn x = true ∨ G.X.env.scope.names.lookup x = some .local := by first | exact .inl rfl | exact .inr rfl) (hall : keys.all (·.isSome) = true := by rfl) (hl : keys.length = values.length := by rfl) (h0 : keys ≠ [] := by simp) (h15 : keys.length ≤ 15 := by decide) :
    DS G (.Assign [.Name x pos'] (.Dict keys values p2) pos) (fun D ρ => Fp ρ fun l => l.length ≤ 15 ∧ D.nx (ρ.set i (.ownd ((mergeP [] l).map (·.1)) ((mergeP [] l).map (·.2))))) := by
  obtain ⟨t, h, k⟩ := disp_own hp hall hl h0 h15
  refine ⟨⟨_, ps_set (i := i) hN hi hx h hs hf, fun S σ H ρ D Dh g hf q => ?_⟩⟩
  refine k S σ H ρ _ _ g hf (fun l z => z.1) fun p H2 kvs l np g2 fr hu rel st hP => ?_
  have e0 := g.fresh0 np
  have frp : Fr (fun a => S a ∨ a = p) H2 (fun a => S a ∨ a = p) (upd H2 p (.dK kvs)) := fun b u n e => ⟨n, by rw [upd_ne (fun z => n (.inr z))]; exact e⟩
  obtain ⟨g3, fr3⟩ := g2.ownAt (i := i) (s := .ownd ((mergeP [] l).map (·.1)) ((mergeP [] l).map (·.2))) (o := .dK kvs) (.inr rfl) e0 (fun φ z => by rw [hu] at z; cases z) rfl (fun j sj hj oj e => by
    have q := g.slots j sj hj
    rw [e] at q
    obtain ⟨a, u, e1, _, e2, _⟩ := SlotOk.addr q oj
    cases e1
    rw [np] at e2; cases e2) ⟨p, kvs, rfl, .inr rfl, e0, upd_same, rel.1, rel.2.move frp⟩
  exact q.nx _ _ _ _ g3 (fr.trans fr3) hP.2
def owndL (ρ : List Slot) (i : Nat) (P : List (Key × Dat) → Prop) : Prop := match ρ[i]? with
  | some (.ownd ks ds) => ks.length = ds.length ∧ P (ks.zip ds)
  | _ => False
theorem owndL_inv {ρ : List Slot} {i : Nat} {P : List (Key × Dat) → Prop} (h : owndL ρ i P) : ∃ ks ds, ρ[i]? = some (.ownd ks ds) ∧ ks.length = ds.length ∧ P (ks.zip ds) := by
  unfold owndL at h
  split at h
  · rename_i ks ds e; exact ⟨ks, ds, e, h⟩
  · exact h.elim
theorem owndL_here {ρ : List Slot} {i : Nat} {l : List (Key × Dat)} {P : List (Key × Dat) → Prop} (e : ρ[i]? = some (.ownd (l.map (·.1)) (l.map (·.2)))) (h : P l) : owndL ρ i P := by
  unfold owndL
  rw [e]
  refine ⟨by simp, ?_⟩
  have : (l.map (·.1)).zip (l.map (·.2)) = l := by
    clear e h
    induction l with
    | nil => rfl
    | cons x r ih => rw [List.map_cons, List.map_cons, List.zip_cons_cons, ih]
  rw [this]
  exact h
theorem Gd.slot_ownd (g : Gd G S σ H ρ) {i : Nat} {ks : List Key} {ds : List Dat} (e : ρ[i]? = some (.ownd ks ds)) : ∃ p kvs, σ[i]? = some (some (.ref p)) ∧ S p ∧ G.H0 p = none ∧ H p = some (.dK kvs) ∧ kvs.map (·.1) = ks ∧ DvL G.X.K S H ds (kvs.map (·.2)) := by
  have q := g.slots i _ e
  cases h : σ[i]? with
  | none => rw [h] at q; exact q.elim
  | some o =>
    rw [h] at q
    cases o with
    | none => exact q.elim
    | some v =>
      obtain ⟨p, kvs, rfl, r⟩ := (show SlotOk G.X.K S G.H0 H (some v) (.ownd ks ds) from q)
      exact ⟨p, kvs, rfl, r⟩
theorem relP_zip {K : PySem.W.Frag} {kvs : List (Key × V)} {ks : List Key} {ds : List Dat} (h1 : kvs.map (·.1) = ks) (h2 : DvL K S H ds (kvs.map (·.2))) (hl : ks.length = ds.length) : RelP K S H kvs (ks.zip ds) := by
  refine ⟨?_, ?_⟩
  · rw [h1, List.map_fst_zip (by omega)]
  · rw [List.map_snd_zip (by omega)]; exact h2
/-- name[k] = e, the dict one's own -/
theorem ds_dput {x : Str} {k e : Expr} {Fk F : FE} {np sp : Pos} (i : Nat) (hu : G.X.A.units + 1 < cLine) (hk : DE G k Fk) (he : DE G e F) (hi : G.X.N[i]? = some x := by rfl) (hv : Vis G.X.env.scope x := by first | exact Or.inl rfl | exact Or.inr (Or.inl rfl) | exact Or.inr (Or.inr rfl)) (hd : (x == ("__debug__" : Str)) = false := by decide)
    (hcd : (x == ("__classdict__" : Str)) = false := by decide) (hs : swapsWith e (some (.Subscript (.Name x np) k sp)) pos.line G.X.env = pure false := by rfl) :
    DS G (.Assign [.Subscript (.Name x np) k sp] e pos) (fun D ρ => F ρ fun y => owndL ρ i fun l => Fk ρ fun z => isS z fun z => l.length < sizeLine ∧ D.nx (ρ.set i (.ownd ((putP l (.inr z) y).map (·.1)) ((putP l (.inr z) y).map (·.2))))) := by
  obtain ⟨te, h1, l1⟩ := he.ex
  obtain ⟨tk, h2, l2⟩ := hk.ex
  refine ⟨⟨_, ps_dput hu (pe_var hi hv hd hcd) h2 h1 hs, fun S σ H ρ D Dh g h q => ?_⟩⟩
  refine l1 S σ H ρ _ _ g h fun v d H1 st hv1 hp => ?_
  have g1 := g.step st
  obtain ⟨ks, ds, es, hl, hf⟩ := owndL_inv hp
  obtain ⟨p, kvs, e1, _⟩ := g1.slot_ownd es
  refine ⟨.ref p, e1, l2 S σ H1 ρ _ _ g1 hf fun v2 d2 H2 st2 hv2 hp => ?_⟩
  have g2 := g1.step st2
  obtain ⟨z, rfl, hz, hp⟩ := isS_inv hp
  cases dv_str hv2
  obtain ⟨p', kvs, e1', sp', e0, eh, ek, hv'⟩ := g2.slot_ownd es
  cases e1.symm.trans e1'
  have rel := relP_zip ek hv' hl
  have len : kvs.length < sizeLine := by
    have e := congrArg List.length rel.1
    rw [List.length_map, List.length_map] at e
    rw [e]; exact hz
  refine ⟨p, _, rfl, DPut.k (k := Sum.inr z) eh len, ?_⟩
  have rel2 := rel.put (k := Sum.inr z) (st2.dv g1 hv1)
  have frp : Fr S H2 S (upd H2 p (.dK (putK kvs (Sum.inr z) v))) := fun b u n e => ⟨n, by rw [upd_ne (fun z => n (by rw [z]; exact sp'))]; exact e⟩
  obtain ⟨g3, fr3⟩ := g2.write (s' := .ownd ((putP (ks.zip ds) (.inr z) d).map (·.1)) ((putP (ks.zip ds) (.inr z) d).map (·.2))) es e1' rfl rfl ⟨p, _, rfl, sp', e0, upd_same, rel2.1, rel2.2.move frp⟩
  exact q.nx _ _ _ _ g3 ((Fr.trans (st.fr g) (st2.fr g1)).trans fr3) hp
/-- d.update(d2) -/
def rDUpd : V → List V → Hp → VK → Prop := fun x vs H Q => ∃ (a o : Addr) (kvs more : List (Key × V)), x = .ref a ∧ vs = [.ref o] ∧ a ≠ o ∧ H a = some (.dK kvs) ∧ H o = some (.dK more) ∧ kvs.length + more.length ≤ sizeLine ∧ Q .non (upd H a (.dK (mergeK kvs more)))
theorem mt_dupd {X : Cx} : MtR X "dict.update" rDUpd := by
  intro pins s σ H x vs v us Q I rx rv h
  obtain ⟨a, o, kvs, more, ex, ev, hne, e, eo, hsz, q⟩ := h
  subst ex
  subst ev
  obtain rfl : v = Value.ref a := rx
  obtain ⟨u, rfl, ru⟩ := vals1 rv
  obtain rfl : u = Value.ref o := ru
  obtain ⟨z, hd, vs, rel, dd⟩ := dk_of I.hok e
  obtain ⟨z2, hd2, vs2, rel2, dd2⟩ := dk_of I.hok eo
  refine call_meetsIn PySem.F.slot_dict_update dd.typeIs PySem.F.entry_dict_update (PySem.F.args_dict_update_2 _ _) (meets_dict_update (mixKind X.prog X.w) a o hne hd2) ⟨vs, vs2, dd, dd2, by rw [← rel.length, ← rel2.length]; exact hsz, fun h' dd' _ hs => ?_⟩
  have he : ∃ q, h'.get? a = some q := let ⟨q, _, _, hq, _⟩ := dd'; ⟨q, hq⟩
  have hlen : (mergeK kvs more).length ≤ sizeLine := Nat.le_trans (length_mergeK more kvs) hsz
  exact ⟨.non, _, d_write (t' := s.toks) I (by rw [e]; exact True.intro) hs he (dk_new hlen hd (KV.merge rel2 rel) dd'), rfl, q⟩
theorem ds_dupd {x : Str} {e : Expr} {F : FE} {np apos cpos : Pos} (i : Nat) (hi : G.X.N[i]? = some x := by rfl) (hv : Vis G.X.env.scope x := by first | exact Or.inl rfl | exact Or.inr (Or.inl rfl) | exact Or.inr (Or.inr rfl)) (hd : (x == ("__debug__" : Str)) = false := by decide)
    (hcd : (x == ("__classdict__" : Str)) = false := by decide) (he : DE G e F) (hst : starEach [e] G.X.env = (false, eval e G.X.env) :: starEach [] G.X.env := by rfl)
    (hbase : attributeBase (.Name x np) "update" G.X.env (eval (.Name x np) G.X.env) = eval (.Name x np) G.X.env := by rfl)
    (hfew : ((backTo cpos (starEach [e] G.X.env)).all (fun x => !x.1) && (backToKw cpos (keywordEach [] G.X.env)).all (fun x => x.1.isSome) && decide ([e].length + ([] : List Keyword).length + (if ([] : List Keyword).isEmpty then 0 else 1) < 30)) = true := by rfl)
    (hline : (apos.endLine == cpos.line) = true := by rfl) (hplain : (backTo cpos (starEach [] G.X.env)).any (·.1) = false := by rfl) (hs : swapsWith (.Call (.Attribute (.Name x np) "update" apos) [e] [] cpos) none pos.line G.X.env = pure false := by rfl) :
    DS G (.Expr (.Call (.Attribute (.Name x np) "update" apos) [e] [] cpos) pos) (fun D ρ => owndL ρ i fun l => F ρ fun y => ∃ m : List (Key × Dat), y = dicP m ∧ l.length + m.length ≤ sizeLine ∧ D.nx (ρ.set i (.ownd ((mergeP l m).map (·.1)) ((mergeP l m).map (·.2))))) := by
  obtain ⟨t, h, l⟩ := he.ex
  refine ⟨⟨_, ps_expr (pe_bm PySem.F.plainAttrs_dict PySem.F.slot_dict_update PySem.F.type_dict_update mt_dupd (pe_var hi hv hd hcd) (pa_cons h pa_nil hst) hbase hfew hline hst hplain) hs, fun S σ H ρ D Dh g h q => ?_⟩⟩
  obtain ⟨ks, ds, es, hl, hf⟩ := owndL_inv h
  obtain ⟨p, kvs, e1, sp, e0, eh, _⟩ := g.slot_ownd es
  refine ⟨.ref p, e1, ?_, l S σ H ρ _ _ g hf fun v d H1 st hv hp => ?_⟩
  · exact .inr (.inr (.inl ⟨rfl, .inl ⟨kvs, eh⟩⟩))
  have g1 := g.step st
  obtain ⟨p', kvs, e1', sp', e0', eh, ek, hv'⟩ := g1.slot_ownd es
  cases e1.symm.trans e1'
  obtain ⟨m, rfl, hlen, hp⟩ := hp
  obtain ⟨o, more, rfl, n, e2, ek2, hv2⟩ := dv_dic hv
  have rel := relP_zip ek hv' hl
  have rel2 : RelP G.X.K S H1 more m := ⟨ek2, hv2⟩
  have ln : kvs.length + more.length ≤ sizeLine := by
    have a := congrArg List.length rel.1
    have b := congrArg List.length rel2.1
    rw [List.length_map, List.length_map] at a b
    rw [a, b]; exact hlen
  refine ⟨p, o, kvs, more, rfl, rfl, fun z => n (by rw [← z]; exact sp'), eh, e2, ln, ?_⟩
  have rel3 := RelP.merge rel rel2
  have frp : Fr S H1 S (upd H1 p (.dK (mergeK kvs more))) := fun b u n e => ⟨n, by rw [upd_ne (fun z => n (by rw [z]; exact sp'))]; exact e⟩
  obtain ⟨g3, fr3⟩ := g1.write (s' := .ownd ((mergeP (ks.zip ds) m).map (·.1)) ((mergeP (ks.zip ds) m).map (·.2))) es e1' rfl rfl ⟨p, _, rfl, sp', e0', upd_same, rel3.1, rel3.2.move frp⟩
  exact q.nx _ _ _ _ g3 (Fr.trans (st.fr g) fr3) hp
end
end DL
namespace DL
open PySem PySem.Spec PyProof.Rows L2
section
variable {G : Ctx} {S S' : Addr → Prop} {σ : L2.St} {H H' : Hp} {ρ : List Slot} {pos : Pos} {a b : Expr} {Fa Fb : FE} {F : FE} {e : Expr}
theorem dkey_none {K : PySem.W.Frag} : ∀ {kvs : List (Key × V)} {ks : List Key} {ds : List Dat} {k : Key}, kvs.map (·.1) = ks → DvL K S H ds (kvs.map (·.2)) → getK ks ds k = none → valV kvs k = none
  | [], _, _, _, _, _, _ => rfl
  | (k0, v0) :: r, ks, ds, k, hk, hv, h => by
    subst hk
    cases ds with
    | nil => cases (hv : _ = [])
    | cons d0 ds =>
      obtain ⟨v, r', e1, h1, h2⟩ := (hv : ∃ v r', _ = v :: r' ∧ Dv K S H d0 v ∧ DvL K S H ds r')
      rw [List.map_cons] at e1
      injection e1 with ea eb
      subst ea; subst eb
      rw [List.map_cons, getK] at h
      by_cases e : k0 = k
      · rw [if_pos e] at h; cases h
      · rw [if_neg e] at h
        rw [valV_neg e]
        exact dkey_none (kvs := r) rfl h2 h
def dicD (d : Dat) (P : List Key → List Dat → Prop) : Prop := match d with
  | .dic ks ds => P ks ds
  | _ => False
theorem de_get1 {Fo Fe : FE} {o : Expr} {apos cpos : Pos} (hu : G.X.A.units + 1 < cLine) (ho : DE G o Fo) (he : DE G e Fe) (m : M1 G.X o "get" apos e cpos := by exact ⟨rfl, rfl, rfl, rfl⟩) :
    DE G (.Call (.Attribute o "get" apos) [e] [] cpos) (fun ρ P => Fo ρ fun x => dicD x fun ks ds => Fe ρ fun y => isS y fun z => P ((getK ks ds (.inr z)).getD .non)) := by
  obtain ⟨t1, h1, l1⟩ := ho.ex
  obtain ⟨t2, h2, l2⟩ := he.ex
  refine ⟨⟨_, pe_dget1 hu h1 h2 m, fun S σ H ρ P Q g h q => ?_⟩⟩
  refine l1 S σ H ρ _ _ g h fun v d H1 st hv hp => ?_
  have g1 := g.step st
  cases d with
  | dic ks ds =>
    obtain ⟨p, kvs, rfl, n, e1, ek, hl⟩ := dv_dic hv
    refine ⟨p, rfl, .inl ⟨kvs, .inl e1⟩, l2 S σ H1 ρ _ _ g1 hp fun v2 d2 H2 st2 hv2 hp => ?_⟩
    obtain ⟨z, rfl, hp'⟩ := isS_inv hp
    clear hp
    cases dv_str hv2
    obtain ⟨p', kvs, ep, n, e1, ek, hl⟩ := dv_dic (st2.dv g1 hv)
    cases ep
    cases hk : getK ks ds (.inr z) with
    | none =>
      have hp2 : P ((getK ks ds (.inr z)).getD .non) := hp'
      rw [hk] at hp2
      refine ⟨none, ?_, q .non .non H2 (st.trans st2) rfl hp2⟩
      rw [← dkey_none ek hl hk]
      exact DGet.k (k := Sum.inr z) e1
    | some d =>
      have hp2 : P ((getK ks ds (.inr z)).getD .non) := hp'
      rw [hk] at hp2
      obtain ⟨w, ew, hw⟩ := dkey ek hl hk
      refine ⟨some w, ?_, q w d H2 (st.trans st2) hw hp2⟩
      rw [← ew]
      exact DGet.k (k := Sum.inr z) e1
  | _ => exact hp.elim
theorem de_fn0 {x : Str} {k m : Nat} {C : Con} {p : Pos} (h : Callee G.X.prog G.X.w G.X.K G.X.mg G.X.base x k [] C) (hr : Room m G.X.A) (hk : k ≤ m := by decide) (hg : Gl G.X x := by rfl) (hdb : (x == ("__debug__" : Str)) = false := by decide) : DE G (.Call (.Name x p) [] [] pos) (fun ρ P => C.C [] P (fun _ => False)) := by
  obtain ⟨f, fd, F, hm, hkp, hb⟩ := h.ex
  exact de_call0 F (hr.mono hk) hg hm hkp hb hdb
end
end DL
namespace DL
open PySem PySem.Spec PyProof.Rows L2
section
variable {prog : Program} {w : World} {A : Around} {E : Value → Shared → Prop} {s : Shared}
/-- what one step of a zip's iterator is asked for: its item, and how it stands then -/
def StepOk (prog : Program) (w : World) (A : Around) (s : Shared) (it : Addr) (B : Heap → Prop) (x : Value) (I : Heap → Prop) : Prop :=
  ∀ (h1 : Heap) (Q : Value → Shared → Prop) (E : Value → Shared → Prop), B h1 → (∀ h2, I h2 → Heap.SameBut it h1 h2 → Q x { s with heap := h2 }) → wpAny (model prog w) A (Builtin.SmallTypes.nextOf (.ref it)) Q E { s with heap := h1 }
/-- .. or it ends -/
def StopOk (prog : Program) (w : World) (A : Around) (s : Shared) (it : Addr) (B : Heap → Prop) : Prop :=
  ∀ (h1 : Heap) (Q : Value → Shared → Prop) (E : Value → Shared → Prop), B h1 → (∀ h2 e, Heap.ExtBut it h1 h2 → (∃ o, h2.get? e = some o ∧ o.cls = .type "StopIteration") → E (.ref e) { s with heap := h2 }) → wpAny (model prog w) A (Builtin.SmallTypes.nextOf (.ref it)) Q E { s with heap := h1 }
/-- a zip's next item, whatever its two iterators are -/
theorem zipG_item {z TI TO i1 i2 l1 l2 : Addr} {x y a b : Value} {Q : Value → Shared → Prop} {B1 B2 I1 I2 : Heap → Prop} (D : ZipApart z TI TO i1 i2 l1 l2) (hz : IsZip s.heap z TI TO .none) (hTI : IsPair s.heap TI (.ref i1) (.ref i2)) (hTO : IsPair s.heap TO a b)
    (n1 : StepOk prog w A s i1 B1 x I1) (n2 : StepOk prog w A s i2 B2 y I2)
    (c1 : ∀ h, (∀ c o, c ≠ z → s.heap.get? c = some o → h.get? c = some o) → B1 h) (c2 : ∀ h, (∀ c o, c ≠ z → c ≠ TO → c ≠ i1 → s.heap.get? c = some o → h.get? c = some o) → B2 h)
    (k1 : ∀ h h', (∀ o, h.get? i1 = some o → h'.get? i1 = some o) → I1 h → I1 h') (k2 : ∀ h h', (∀ o, h.get? i2 = some o → h'.get? i2 = some o) → I2 h → I2 h')
    (hQ : ∀ h', IsZip h' z TI TO (rawInt s.heap.objs.size) → IsPair h' TO x y → I1 h' → I2 h' → IsPair h' s.heap.objs.size x y → h'.objs.size = s.heap.objs.size + 1 → (∀ c o, c ≠ z → c ≠ TO → c ≠ i1 → c ≠ i2 → s.heap.get? c = some o → h'.get? c = some o) → Q (.ref s.heap.objs.size) { s with heap := h' }) :
    wpAny (model prog w) A (Builtin.«zip.__next__» ⟨[.ref z], []⟩) (fun fin s' => ∃ v, fin = .done (.ret v) ∧ Q v s') E s := by
  show wpAny _ _ (field (.ref z) 2 >>= _) _ _ _; refine wpAny_bind (wpAny_field hz rfl (x := .bool false) rfl ?_); show wpAny _ _ (field (.ref z) 3 >>= _) _ _ _
  refine wpAny_bind (wpAny_field hz rfl (x := .ref TI) rfl (wpAny_bind (wpAny_seqItems hTI rfl ?_)))
  show wpAny _ _ (Builtin.SmallTypes.ownedTupleIsFree (.ref z) >>= _) _ _ _
  refine wpAny_bind ?_; unfold Builtin.SmallTypes.ownedTupleIsFree
  refine wpAny_bind (wpAny_field hz rfl (x := .none) rfl (wpAny_pure ?_)); simp only [if_true]
  refine wpAny_bind (wpAny_rule (wpAny_bind (wpAny_field hz rfl (x := .ref TO) rfl (wpAny_bind (wpAny_setField_rec hz (by simp) fun ha hza sa => ?_)))))
  replace hza : IsZip ha z TI TO .ellipsis := hza
  refine wpAny_bind ?_; simp only [List.zipIdx_cons, List.zipIdx_nil, List.forIn_cons, List.forIn_nil]
  -- the first
  refine wpAny_bind (wpAny_bind (wpAny_onRaise ?_)); show wpAny _ _ (Builtin.SmallTypes.nextOf (.ref i1) >>= _) _ _ _
  refine wpAny_bind (n1 ha _ _ (c1 ha fun c o hc e => sa.extBut _ _ hc e) fun hb jb sb => wpAny_pure ?_)
  have Ob : IsPair hb TO a b := sb.extBut _ _ D.TOi1 (sa.extBut _ _ D.TOz hTO)
  refine wpAny_bind (wpAny_seqItems Ob rfl (wpAny_bind (wpAny_updateSeq_pair Ob fun hc Oc sc => ?_)))
  replace Oc : IsPair hc TO x b := Oc
  refine wpAny_bind (wpAny_letGo (wpAny_pure ?_))
  -- the second
  refine wpAny_bind (wpAny_bind (wpAny_onRaise ?_)); show wpAny _ _ (Builtin.SmallTypes.nextOf (.ref i2) >>= _) _ _ _
  refine wpAny_bind (n2 hc _ _ (c2 hc fun c o e1 e2 e3 e => sc.extBut _ _ e2 (sb.extBut _ _ e3 (sa.extBut _ _ e1 e))) fun hd jd sd => wpAny_pure ?_)
  have Od : IsPair hd TO x b := sd.extBut _ _ D.TOi2 Oc
  refine wpAny_bind (wpAny_seqItems Od rfl (wpAny_bind (wpAny_updateSeq_pair Od fun he Oe se => ?_)))
  replace Oe : IsPair he TO x y := Oe
  refine wpAny_bind (wpAny_letGo (wpAny_pure (wpAny_pure ?_)))
  refine wpAny_bind (wpAny_seqItems Oe rfl (wpAny_bind (wpAny_newTuple ?_)))
  have hsz : he.objs.size = s.heap.objs.size := se.1.trans (sd.1.trans (sc.1.trans (sb.1.trans sa.1)))
  have ze : IsZip he z TI TO .ellipsis := se.extBut _ _ D.TOz.symm (sd.extBut _ _ D.i2z.symm (sc.extBut _ _ D.TOz.symm (sb.extBut _ _ D.i1z.symm hza)))
  have fe : ∀ c o, c ≠ z → c ≠ TO → c ≠ i1 → c ≠ i2 → s.heap.get? c = some o → he.get? c = some o := fun c o e1 e2 e3 e4 e => se.extBut _ _ e2 (sd.extBut _ _ e4 (sc.extBut _ _ e2 (sb.extBut _ _ e3 (sa.extBut _ _ e1 e))))
  have je1 : I1 he := k1 hb he (fun o e => se.extBut _ _ D.TOi1.symm (sd.extBut _ _ D.i12 (sc.extBut _ _ D.TOi1.symm e))) jb
  have je2 : I2 he := k2 hd he (fun o e => se.extBut _ _ D.TOi2.symm e) jd
  have zl : z < he.objs.size := Heap.lt_size ze
  show wpAny _ _ (Builtin.SmallTypes.ownedTupleHandOut (.ref z) (.ref he.objs.size) >>= _) _ _ _
  refine wpAny_bind ?_; unfold Builtin.SmallTypes.ownedTupleHandOut
  have zf : IsZip (he.push { cls := .type "tuple", data := .seq #[x, y] }) z TI TO .ellipsis := Heap.get?_push_of_some _ ze
  refine wpAny_bind (wpAny_setField_rec zf (by simp) fun hg zg sg => ?_)
  replace zg : IsZip hg z TI TO (rawInt he.objs.size) := zg
  refine wpAny_setField_rec zg (by simp) fun hh zh sh => ?_
  replace zh : IsZip hh z TI TO (rawInt he.objs.size) := zh
  have up : ∀ c o, c ≠ z → he.get? c = some o → hh.get? c = some o := fun c o e1 e => sh.extBut _ _ e1 (sg.extBut _ _ e1 (Heap.get?_push_of_some _ e))
  have pT : IsPair hh he.objs.size x y := sh.extBut _ _ (Nat.ne_of_gt zl) (sg.extBut _ _ (Nat.ne_of_gt zl) (Heap.get?_push_size _ rfl))
  have sz : hh.objs.size = he.objs.size + 1 := sh.1.trans (sg.1.trans (Heap.size_push ..))
  rw [hsz] at zh pT sz
  refine wpAny_pure ⟨_, rfl, ?_⟩
  show Q (.ref he.objs.size) _
  rw [hsz]
  exact hQ hh zh (up _ _ D.TOz Oe) (k1 he hh (fun o e => up _ o D.i1z e) je1) (k2 he hh (fun o e => up _ o D.i2z e) je2) pT sz fun c o e1 e2 e3 e4 e => up c o e1 (fe c o e1 e2 e3 e4 e)
/-- a zip at its end -/
theorem zipG_end {z TI TO i1 i2 l1 l2 : Addr} {x a b : Value} {Q : Fin → Shared → Prop} {B1 B2 I1 : Heap → Prop} (D : ZipApart z TI TO i1 i2 l1 l2) (hz : IsZip s.heap z TI TO .none) (hTI : IsPair s.heap TI (.ref i1) (.ref i2)) (hTO : IsPair s.heap TO a b)
    (n : StopOk prog w A s i1 B1 ∨ (StepOk prog w A s i1 B1 x I1 ∧ StopOk prog w A s i2 B2))
    (c1 : ∀ h, (∀ c o, c ≠ z → s.heap.get? c = some o → h.get? c = some o) → B1 h) (c2 : ∀ h, (∀ c o, c ≠ z → c ≠ TO → c ≠ i1 → s.heap.get? c = some o → h.get? c = some o) → B2 h)
    (hE : ∀ h' e, (∀ c o, c ≠ z → c ≠ TO → c ≠ i1 → c ≠ i2 → s.heap.get? c = some o → h'.get? c = some o) → (∃ o, h'.get? e = some o ∧ o.cls = .type "StopIteration") → E (.ref e) { s with heap := h' }) :
    wpAny (model prog w) A (Builtin.«zip.__next__» ⟨[.ref z], []⟩) Q E s := by
  show wpAny _ _ (field (.ref z) 2 >>= _) _ _ _; refine wpAny_bind (wpAny_field hz rfl (x := .bool false) rfl ?_); show wpAny _ _ (field (.ref z) 3 >>= _) _ _ _
  refine wpAny_bind (wpAny_field hz rfl (x := .ref TI) rfl (wpAny_bind (wpAny_seqItems hTI rfl ?_)))
  show wpAny _ _ (Builtin.SmallTypes.ownedTupleIsFree (.ref z) >>= _) _ _ _
  refine wpAny_bind ?_; unfold Builtin.SmallTypes.ownedTupleIsFree
  refine wpAny_bind (wpAny_field hz rfl (x := .none) rfl (wpAny_pure ?_)); simp only [if_true]
  refine wpAny_bind (wpAny_rule (wpAny_bind (wpAny_field hz rfl (x := .ref TO) rfl (wpAny_bind (wpAny_setField_rec hz (by simp) fun ha hza sa => ?_)))))
  replace hza : IsZip ha z TI TO .ellipsis := hza
  refine wpAny_bind ?_; simp only [List.zipIdx_cons, List.zipIdx_nil, List.forIn_cons, List.forIn_nil]
  refine wpAny_bind (wpAny_bind (wpAny_onRaise ?_)); show wpAny _ _ (Builtin.SmallTypes.nextOf (.ref i1) >>= _) _ _ _
  rcases n with n1 | ⟨n1, n2⟩
  · refine wpAny_bind (n1 ha _ _ (c1 ha fun c o hc e => sa.extBut _ _ hc e) fun hb e sb he => ?_)
    obtain ⟨oe, ee, ce⟩ := he
    have zb : IsZip hb z TI TO .ellipsis := sb _ _ D.i1z.symm hza
    have ez : e ≠ z := fun q => by subst q; rw [zb] at ee; cases ee; simp at ce
    exact wpAny_setField_rec zb (by simp) fun hc _ sc => hE hc e (fun c o e1 _ e3 _ q => sc.extBut _ _ e1 (sb _ _ e3 (sa.extBut _ _ e1 q))) ⟨oe, sc.extBut _ _ ez ee, ce⟩
  · refine wpAny_bind (n1 ha _ _ (c1 ha fun c o hc e => sa.extBut _ _ hc e) fun hb jb sb => wpAny_pure ?_)
    have Ob : IsPair hb TO a b := sb.extBut _ _ D.TOi1 (sa.extBut _ _ D.TOz hTO)
    refine wpAny_bind (wpAny_seqItems Ob rfl (wpAny_bind (wpAny_updateSeq_pair Ob fun hc Oc sc => ?_)))
    refine wpAny_bind (wpAny_letGo (wpAny_pure ?_))
    refine wpAny_bind (wpAny_bind (wpAny_onRaise ?_)); show wpAny _ _ (Builtin.SmallTypes.nextOf (.ref i2) >>= _) _ _ _
    refine wpAny_bind (n2 hc _ _ (c2 hc fun c o e1 e2 e3 e => sc.extBut _ _ e2 (sb.extBut _ _ e3 (sa.extBut _ _ e1 e))) fun hd e sd he => ?_)
    obtain ⟨oe, ee, ce⟩ := he
    have zd : IsZip hd z TI TO .ellipsis := sd _ _ D.i2z.symm (sc.extBut _ _ D.TOz.symm (sb.extBut _ _ D.i1z.symm hza))
    have ez : e ≠ z := fun q => by subst q; rw [zd] at ee; cases ee; simp at ce
    exact wpAny_setField_rec zd (by simp) fun hf _ sf => hE hf e (fun c o e1 e2 e3 e4 q => sf.extBut _ _ e1 (sd _ _ e4 (sc.extBut _ _ e2 (sb.extBut _ _ e3 (sa.extBut _ _ e1 q))))) ⟨oe, sf.extBut _ _ ez ee, ce⟩
/-! ### a tuple and a list -/
theorem step_tup {i l : Addr} {j : Nat} {items : Array Value} {x : Value} (hx : items[j]? = some x) : StepOk prog w A s i (fun h => h.IsTupleIter i l j ∧ h.IsTuple l items) x fun h => h.IsTupleIter i l (j + 1) :=
  fun h1 Q E hB hQ => RZ.nextOf_tuple_item (s := { s with heap := h1 }) hB.1 hB.2 hx hQ
theorem step_lst {i l : Addr} {j : Nat} {items : Array Value} {x : Value} (hx : items[j]? = some x) : StepOk prog w A s i (fun h => h.IsListIter i l j ∧ h.IsList l items) x fun h => h.IsListIter i l (j + 1) :=
  fun h1 Q E hB hQ => wpAny_nextOf_list_item (s := { s with heap := h1 }) hB.1 hB.2 hx hQ
theorem stop_tup {i l : Addr} {j : Nat} {items : Array Value} (hh : A.handled = none) (hx : items[j]? = none) : StopOk prog w A s i fun h => h.IsTupleIter i l j ∧ h.IsTuple l items :=
  fun h1 Q E hB hQ => RZ.nextOf_tuple_end (s := { s with heap := h1 }) hh hB.1 hB.2 hx hQ
theorem stop_lst {i l : Addr} {j : Nat} {items : Array Value} (hh : A.handled = none) (hx : items[j]? = none) : StopOk prog w A s i fun h => h.IsListIter i l j ∧ h.IsList l items :=
  fun h1 Q E hB hQ => wpAny_nextOf_list_end (s := { s with heap := h1 }) hh hB.1 hB.2 hx hQ
/-- next(z) -/
theorem nextM_item {z TI TO i1 i2 l1 l2 : Addr} {j : Nat} {xs ys : Array Value} {x y a b : Value} {Q : Option Value → Shared → Prop} (D : ZipApart z TI TO i1 i2 l1 l2) (hz : IsZip s.heap z TI TO .none) (hTI : IsPair s.heap TI (.ref i1) (.ref i2)) (hTO : IsPair s.heap TO a b)
    (h1 : s.heap.IsTupleIter i1 l1 j) (h2 : s.heap.IsListIter i2 l2 j) (hl1 : s.heap.IsTuple l1 xs) (hl2 : s.heap.IsList l2 ys) (hx : xs[j]? = some x) (hy : ys[j]? = some y)
    (hQ : ∀ h', IsZip h' z TI TO (rawInt s.heap.objs.size) → IsPair h' TO x y → h'.IsTupleIter i1 l1 (j + 1) → h'.IsListIter i2 l2 (j + 1) → IsPair h' s.heap.objs.size x y → h'.objs.size = s.heap.objs.size + 1 → (∀ c o, c ≠ z → c ≠ TO → c ≠ i1 → c ≠ i2 → s.heap.get? c = some o → h'.get? c = some o) → Q (some (.ref s.heap.objs.size)) { s with heap := h' }) :
    wpAny (model prog w) A (pyNext (.ref z)) Q E s := by
  have hT : s.TypeIs (.ref z) "zip" := ⟨_, hz, rfl⟩
  unfold pyNext
  refine wpAny_bind (wpAny_attempt (wpAny_callSpecial?_slot (name := Str.ofString "__next__") hT F.slot_zip_next (wpAny_call_entry F.slot_zip_next hT F.entry_zip_next ?_ (F.args_zip_next_1 _))))
  exact zipG_item D hz hTI hTO (step_tup hx) (step_lst hy) (fun h k => ⟨h1.at fun o e => k _ o D.i1z e, hl1.at fun o e => k _ o D.l1z e⟩) (fun h k => ⟨h2.at fun o e => k _ o D.i2z D.TOi2.symm D.i12.symm e, hl2.at fun o e => k _ o D.l2z D.l2TO D.l2i1 e⟩)
    (fun h h' k q => q.at fun o e => k o e) (fun h h' k q => q.at fun o e => k o e) fun h' a1 a2 a3 a4 a5 a6 a7 => wpAny_pure (hQ h' a1 a2 a3 a4 a5 a6 a7)
theorem nextM_end {z TI TO i1 i2 l1 l2 : Addr} {j : Nat} {xs ys : Array Value} {a b : Value} {Q : Option Value → Shared → Prop} (hh : A.handled = none) (D : ZipApart z TI TO i1 i2 l1 l2) (hz : IsZip s.heap z TI TO .none) (hTI : IsPair s.heap TI (.ref i1) (.ref i2)) (hTO : IsPair s.heap TO a b)
    (h1 : s.heap.IsTupleIter i1 l1 j) (h2 : s.heap.IsListIter i2 l2 j) (hl1 : s.heap.IsTuple l1 xs) (hl2 : s.heap.IsList l2 ys) (hend : xs[j]? = none ∨ ys[j]? = none)
    (hQ : ∀ h', (∀ c o, c ≠ z → c ≠ TO → c ≠ i1 → c ≠ i2 → s.heap.get? c = some o → h'.get? c = some o) → Q none { s with heap := h' }) : wpAny (model prog w) A (pyNext (.ref z)) Q E s := by
  have hT : s.TypeIs (.ref z) "zip" := ⟨_, hz, rfl⟩
  unfold pyNext
  refine wpAny_bind (wpAny_attempt (wpAny_callSpecial?_slot (name := Str.ofString "__next__") hT F.slot_zip_next (wpAny_call_entry F.slot_zip_next hT F.entry_zip_next ?_ (F.args_zip_next_1 _))))
  have fin : ∀ h' e, (∀ c o, c ≠ z → c ≠ TO → c ≠ i1 → c ≠ i2 → s.heap.get? c = some o → h'.get? c = some o) → (∃ o, h'.get? e = some o ∧ o.cls = .type "StopIteration") → wpAny (model prog w) A ((isInstance (.ref e) (.type "StopIteration")) >>= fun b => if b = true then pure none else throw (.ref e)) Q E { s with heap := h' } := fun h' e k ⟨o, eo, co⟩ => by
    refine wpAny_bind (wpAny_isInstance (T := "StopIteration") (b := true) ⟨o, eo, co⟩ isSubtype_stop ?_)
    exact wpAny_pure (hQ _ k)
  have cc1 : ∀ h : Heap, (∀ c o, c ≠ z → s.heap.get? c = some o → h.get? c = some o) → h.IsTupleIter i1 l1 j ∧ h.IsTuple l1 xs := fun h k => ⟨h1.at fun o e => k _ o D.i1z e, hl1.at fun o e => k _ o D.l1z e⟩
  have cc2 : ∀ h : Heap, (∀ c o, c ≠ z → c ≠ TO → c ≠ i1 → s.heap.get? c = some o → h.get? c = some o) → h.IsListIter i2 l2 j ∧ h.IsList l2 ys := fun h k => ⟨h2.at fun o e => k _ o D.i2z D.TOi2.symm D.i12.symm e, hl2.at fun o e => k _ o D.l2z D.l2TO D.l2i1 e⟩
  cases hx : xs[j]? with
  | none => exact zipG_end (x := .none) (I1 := fun _ => True) D hz hTI hTO (.inl (stop_tup hh hx)) cc1 cc2 fun h' e k st => fin h' e k st
  | some x =>
    have hy : ys[j]? = none := by
      rcases hend with q | q
      · rw [hx] at q; cases q
      · exact q
    exact zipG_end (x := x) D hz hTI hTO (.inr ⟨step_tup hx, stop_lst hh hy⟩) cc1 cc2 fun h' e k st => fin h' e k st
end
/-! ### zip(t, l) made -/
abbrev mH1 (h : Heap) (l1 : Addr) : Heap := h.push { cls := .type "tuple_iterator", data := .fields #[.ref l1, .int 0 0] }
abbrev mH2 (h : Heap) (l1 l2 : Addr) : Heap := (mH1 h l1).push { cls := .type "list_iterator", data := .fields #[.ref l2, .int 0 0] }
abbrev mH3 (h : Heap) (l1 l2 : Addr) : Heap := (mH2 h l1 l2).push { cls := .type "tuple", data := .seq #[.ref h.objs.size, .ref (mH1 h l1).objs.size] }
abbrev mH4 (h : Heap) (l1 l2 : Addr) : Heap := (mH3 h l1 l2).push { cls := .type "tuple", data := .seq #[.none, .none] }
abbrev mH5 (h : Heap) (l1 l2 : Addr) : Heap := (mH4 h l1 l2).push { cls := .type "zip", data := .fields #[.none, .bool false, .bool false, .ref (mH2 h l1 l2).objs.size, .ref (mH3 h l1 l2).objs.size] }
theorem meetsM_new (l1 l2 : Addr) (xs ys : Array Value) : Meets (Builtin.«zip.__new__» ⟨[.type "zip", .ref l1, .ref l2], []⟩) (fun _ R s => s.heap.IsTuple l1 xs ∧ s.heap.IsList l2 ys ∧ R (.ok (.ret (.ref (mH4 s.heap l1 l2).objs.size))) { s with heap := mH5 s.heap l1 l2 }) := .of_wp fun prog w A R s h => by
  obtain ⟨hp, g, d, tk, os⟩ := s
  obtain ⟨q1, q2, h⟩ := h
  have hsub := sub_zip
  have t1 : Heap.IsTuple (Shared.heap ⟨hp, g, d, tk, os⟩) l1 xs := q1
  have t2 : Heap.IsList (Shared.heap ⟨mH1 hp l1, g, d, tk, os⟩) l2 ys := Heap.IsList.push q2 _
  wp_walk using wpAny_pyIter_tuple t1, wpAny_pyIter_list t2
  exact ⟨_, rfl, h⟩
section
variable {prog : Program} {w : World} {A : Around} {E : Value → Shared → Prop} {s : Shared}
theorem callM {l1 l2 : Addr} {xs ys : Array Value} {Q : Value → Shared → Prop} (hl1 : s.heap.IsTuple l1 xs) (hl2 : s.heap.IsList l2 ys)
    (h : ∀ h', IsZip h' (s.heap.objs.size + 4) (s.heap.objs.size + 2) (s.heap.objs.size + 3) .none → IsPair h' (s.heap.objs.size + 2) (.ref s.heap.objs.size) (.ref (s.heap.objs.size + 1)) → IsPair h' (s.heap.objs.size + 3) .none .none → h'.IsTupleIter s.heap.objs.size l1 0 → h'.IsListIter (s.heap.objs.size + 1) l2 0 → (∀ c o, s.heap.get? c = some o → h'.get? c = some o) → Q (.ref (s.heap.objs.size + 4)) { s with heap := h' }) :
    wpAny (model prog w) A (call (.type "zip") [.ref l1, .ref l2]) Q E s := by
  refine callType_new F.called_zip (by decide) (F.typeCall_zip_2 _ _) (F.newCall_zip_2 _ _) (fun obj => F.args_object_init_3 obj _ _) F.entry_zip_new (meetsM_new l1 l2 xs ys) ⟨hl1, hl2, ?_⟩
  have up : ∀ {h : Heap} {o : Obj} {c : Addr} {u : Obj}, h.get? c = some u → (h.push o).get? c = some u := fun e => Heap.get?_push_of_some _ e
  have a1 : (mH1 s.heap l1).objs.size = s.heap.objs.size + 1 := Heap.size_push ..
  have a2 : (mH2 s.heap l1 l2).objs.size = s.heap.objs.size + 2 := (Heap.size_push ..).trans (congrArg (· + 1) a1)
  have a3 : (mH3 s.heap l1 l2).objs.size = s.heap.objs.size + 3 := (Heap.size_push ..).trans (congrArg (· + 1) a2)
  have a4 : (mH4 s.heap l1 l2).objs.size = s.heap.objs.size + 4 := (Heap.size_push ..).trans (congrArg (· + 1) a3)
  have e5 : (mH5 s.heap l1 l2).get? (mH4 s.heap l1 l2).objs.size = some _ := Heap.get?_push_size _ rfl
  have e4 : (mH5 s.heap l1 l2).get? (mH3 s.heap l1 l2).objs.size = some _ := up (Heap.get?_push_size _ rfl)
  have e3 : (mH5 s.heap l1 l2).get? (mH2 s.heap l1 l2).objs.size = some _ := up (up (Heap.get?_push_size _ rfl))
  have e2 : (mH5 s.heap l1 l2).get? (mH1 s.heap l1).objs.size = some _ := up (up (up (Heap.get?_push_size _ rfl)))
  have e1 : (mH5 s.heap l1 l2).get? s.heap.objs.size = some _ := up (up (up (up (Heap.get?_push_size _ rfl))))
  rw [a2, a3, a4] at e5; rw [a3] at e4; rw [a1, a2] at e3; rw [a1] at e2
  show _ ∧ _
  rw [a4]
  exact ⟨⟨_, e5, rfl⟩, h _ e5 e3 e4 ⟨_, e1, rfl, rfl⟩ ⟨_, e2, rfl, rfl⟩ fun c o q => up (up (up (up (up q))))⟩
end
end DL
namespace DL
open PySem PySem.Spec PyProof.Rows L2
/-- the tuple at a and the list at b as they stand at each turn, their items in new pairs -/
def ItzM (K : PySem.W.Frag) (a b : Addr) : It where
  go i H := ∃ (xs ys : List V) (x y : V), SqT K H a xs ∧ SqL K H b ys ∧ xs[i]? = some x ∧ ys[i]? = some y
  yld i H v H' := ∃ T x y, v = .ref T ∧ H T = none ∧ H' = upd H T (.tup [x, y]) ∧ (∀ xs, SqT K H a xs → xs[i]? = some x) ∧ ∀ ys, SqL K H b ys → ys[i]? = some y
  stop i H := ∃ xs ys : List V, SqT K H a xs ∧ SqL K H b ys ∧ (xs.length ≤ i ∨ ys.length ≤ i)
/-- how the five objects of such a zip stand at turn i -/
def ZipM (z TI TO i1 i2 a b : Addr) (i : Nat) (h : Heap) : Prop := IsZip h z TI TO .none ∧ IsPair h TI (.ref i1) (.ref i2) ∧ (∃ x y, IsPair h TO x y) ∧ h.IsTupleIter i1 a i ∧ h.IsListIter i2 b i
theorem five {z TI TO i1 i2 c : Addr} (h : c ∈ [z, TI, TO, i1, i2]) : c = z ∨ c = TI ∨ c = TO ∨ c = i1 ∨ c = i2 := by simpa using h
theorem turnM {P : Program} {w : World} {K : PySem.W.Frag} {elts : List Expr} {kk : Nat} {tpos : Pos} {a b z TI TO i1 i2 : Addr} (D : ZipApart z TI TO i1 i2 a b) : Turn P w K (.Tuple elts kk tpos) (ItzM K a b) [z, TI, TO, i1, i2] z (ZipM z TI TO i1 i2 a b) where
  mem := List.mem_cons_self
  obj := fun i h ⟨s1, s2, ⟨u, v, s3⟩, ⟨o1, e1, _, d1⟩, ⟨o2, e2, _, d2⟩⟩ c hc => by
    rcases five hc with rfl | rfl | rfl | rfl | rfl
    · exact ⟨_, s1, fun v q => nomatch q⟩
    · exact ⟨_, s2, fun v q => nomatch q⟩
    · exact ⟨_, s3, fun v q => nomatch q⟩
    · exact ⟨o1, e1, fun v q => by rw [d1] at q; cases q⟩
    · exact ⟨o2, e2, fun v q => by rw [d2] at q; cases q⟩
  keep := fun i h h' ⟨s1, s2, ⟨u, v, s3⟩, s4, s5⟩ k =>
    ⟨k z (by simp) _ s1, k TI (by simp) _ s2, ⟨u, v, k TO (by simp) _ s3⟩, s4.at fun o q => k i1 (by simp) o q, s5.at fun o q => k i2 (by simp) o q⟩
  item := by
    rintro X hP hw hK hc i pins s σ H E I hf ⟨s1, s2, ⟨u, v, s3⟩, s4, s5⟩ ⟨xs, ys, x, y, qx, qy, ex, ey⟩
    subst hP hw hK
    obtain ⟨us, ru, pu, _⟩ := I.tuple qx
    obtain ⟨vs, rv, pv, _⟩ := I.list qy
    obtain ⟨x', ex', rx⟩ := ru.get ex
    obtain ⟨y', ey', ry⟩ := rv.get ey
    have lt : ∀ c ∈ [z, TI, TO, i1, i2], c < s.heap.objs.size := fun c hm => by
      rcases five hm with rfl | rfl | rfl | rfl | rfl
      · exact Heap.lt_size s1
      · exact Heap.lt_size s2
      · exact Heap.lt_size s3
      · exact Heap.lt_size s4.choose_spec.1
      · exact Heap.lt_size s5.choose_spec.1
    refine nextM_item D s1 s2 s3 s4 s5 pu pv.isList (x := x') (y := y') (by simpa using ex') (by simpa using ey') fun h' b1 b2 b3 b4 b5 _ b6 => ?_
    refine ⟨_, rfl, wpAny_letOwnedTupleGo_zip (s := { s with heap := h' }) b1 fun h2 b7 sb => ?_⟩
    have nz : s.heap.objs.size ≠ z := Nat.ne_of_gt (lt z (by simp))
    have b8 : h2.get? s.heap.objs.size = some { cls := .type "tuple", data := .seq #[x', y'] } := (sb.2 _ nz).trans b5
    have new : ObjOk X.prog X.w (upd H s.heap.objs.size (.tup [x, y])) h2 s.heap.objs.size (.tup [x, y]) := ⟨show 2 ≤ sizeLine by decide, [x', y'], .cons rx (.cons ry .nil), ⟨_, b8, rfl, _, rfl⟩⟩
    have fr : ∀ c o, c ∉ [z, TI, TO, i1, i2] → s.heap.get? c = some o → h2.get? c = some o := fun c o n q => by
      simp only [List.mem_cons, List.not_mem_nil, or_false, not_or] at n
      exact (sb.2 c n.1).trans (b6 c o n.1 n.2.2.1 n.2.2.2.1 n.2.2.2.2 q)
    have I2 := I.turnedNew (t' := s.toks) (ch := [z, TI, TO, i1, i2]) fr hf (Nat.le_refl _) new
    refine ⟨.ref s.heap.objs.size, _, I2, rfl, ⟨_, x, y, rfl, I.hok.fresh (Nat.le_refl _), rfl, fun l hl => ?_, fun l hl => ?_⟩, ⟨b7, ?_, ⟨x', y', ?_⟩, ?_, ?_⟩, fun c hm => ?_⟩
    · rw [I.tuple_inj hl qx]; exact ex
    · rw [I.list_inj hl qy]; exact ey
    · exact (sb.2 _ D.TIz).trans (b6 _ _ D.TIz D.TITO D.TIi1 D.TIi2 s2)
    · exact (sb.2 _ D.TOz).trans b2
    · exact b3.at fun o q => (sb.2 _ D.i1z).trans q
    · exact b4.at fun o q => (sb.2 _ D.i2z).trans q
    · rw [upd_ne (Nat.ne_of_lt (lt c hm))]
      exact (hf c hm).1
  done := by
    rintro X hP hw hK hc i pins s σ H E I hf ⟨s1, s2, ⟨u, v, s3⟩, s4, s5⟩ ⟨xs, ys, qx, qy, hend⟩
    subst hP hw hK
    obtain ⟨us, ru, pu, _⟩ := I.tuple qx
    obtain ⟨vs, rv, pv, _⟩ := I.list qy
    have e1 := ru.length
    have e2 := rv.length
    refine nextM_end (I.ok.hd hc) D s1 s2 s3 s4 s5 pu pv.isList (hend.imp (fun q => by simp; omega) fun q => by simp; omega) fun h' k => ⟨rfl, ?_⟩
    refine I.turnedL (t' := s.toks) (ch := [z, TI, TO, i1, i2]) (fun c o n q => ?_) hf
    simp only [List.mem_cons, List.not_mem_nil, or_false, not_or] at n
    exact k c o n.1 n.2.2.1 n.2.2.2.1 n.2.2.2.2 q
  self := fun A i s Q E st h => wpAny_pyIter_zip st.1 h
def iZipM (K : PySem.W.Frag) (ta : TA) : TI := fun σ H R => ta σ H fun vs H1 => ∃ a b xs ys, vs = [.ref a, .ref b] ∧ SqT K H1 a xs ∧ SqL K H1 b ys ∧ R (ItzM K a b) H1
theorem pi_zipM {X : Cx} {e e2 : Expr} {ta : TA} {p pos tpos : Pos} {elts : List Expr} {kk : Nat} (hg : Gl X "zip") (hm : X.mg "zip" = none) (ha : PA X [e, e2] ta) (hs : starEach [e, e2] X.env = (false, eval e X.env) :: starEach [e2] X.env := by rfl) (hpl : (backTo pos (starEach [e2] X.env)).any (·.1) = false := by rfl) :
    PI X (.Tuple elts kk tpos) (.Call (.Name "zip" p) [e, e2] [] pos) (iZipM X.K ta) := by
  refine ⟨fun pins s σ H R I h => Call_ (ld_blt I hg hm PyProof.Rows.boot_zip (PyProof.Rows.callWith_type1 (thn (ha.run pos pins s σ H _ I h) fun us t ⟨vs, H1, I1, r1, a, b, xs, ys, ev, qx, qy, q⟩ => ?_) hs hpl))⟩
  subst ev
  obtain ⟨u1, u2, e1, ra, rb⟩ := vals2 r1
  subst e1
  obtain rfl : u1 = Value.ref a := ra
  obtain rfl : u2 = Value.ref b := rb
  obtain ⟨us, ru, pu, _⟩ := I1.tuple qx
  obtain ⟨vs, rv, pv, _⟩ := I1.list qy
  obtain ⟨o1, eo1, _⟩ := id pu
  let n := t.heap.objs.size
  refine callM (show t.heap.IsTuple a us.toArray from pu) pv.isList fun h' b1 b2 b3 b4 b5 k => wpAny_pyIter_zip b1 ?_
  have fresh : ∀ c, c ∈ [n + 4, n + 2, n + 3, n, n + 1] → FpOk X pins H1 c := fun c hm => by
    have hle : n ≤ c := by
      rcases five hm with z | z | z | z | z <;> rw [z]
      · exact Nat.le_add_right _ _
      · exact Nat.le_add_right _ _
      · exact Nat.le_add_right _ _
      · exact Nat.le_refl _
      · exact Nat.le_add_right _ _
    exact I1.fpOk hle (I1.hok.fresh hle)
  exact ⟨n + 4, [n + 4, n + 2, n + 3, n, n + 1], _, _, H1, rfl, I1.kept (t' := t.toks) k, turnM (PySem.W.ktu_apart n a b (Heap.lt_size eo1) pv.lt), ⟨b1, b2, ⟨_, _, b3⟩, b4, b5⟩, fresh, q⟩
section
variable {G : Ctx} {S S' : Addr → Prop} {H H' : Hp} {pos : Pos} {a b : Expr}
def zipTL (ds : List Dat) (P : List Dat → Prop) : Prop := match ds with
  | [.tup x, .lst y] => P (zips x y)
  | _ => False
theorem di_zipTL {elts : List Expr} {kk : Nat} {tpos p : Pos} {Fs : FA} (hm : G.X.mg "zip" = none) (ha : DA G [a, b] Fs) (hg : Gl G.X "zip" := by rfl) (hs : starEach [a, b] G.X.env = (false, eval a G.X.env) :: starEach [b] G.X.env := by rfl) (hpl : (backTo pos (starEach [b] G.X.env)).any (·.1) = false := by rfl) :
    DI G (.Tuple elts kk tpos) (.Call (.Name "zip" p) [a, b] [] pos) (fun ρ P => Fs ρ fun ds => zipTL ds P) := by
  obtain ⟨t, h1, l1⟩ := ha.ex
  refine ⟨⟨_, pi_zipM hg hm h1 hs hpl, fun S σ H ρ P R g h q => ?_⟩⟩
  refine l1 S σ H ρ _ _ g h fun vs ds H1 st hv hp => ?_
  have g1 := g.step st
  unfold zipTL at hp
  split at hp
  · rename_i x y
    obtain ⟨v, w, rfl, hd, he⟩ := dvl2 hv
    obtain ⟨p1, xs, rfl, e1, v1⟩ := dv_tup hd
    obtain ⟨p2, ys, rfl, n2, e2, v2⟩ := dv_lst he
    refine ⟨p1, p2, xs, ys, rfl, sqT_of e1, .inl (.inl e2), q _ _ H1 st ⟨fun i S' H' hi fr => ?_, fun i d S' σ' ρ' H' z H2 hd g fr yl => ?_, fun S' H' fr => ?_⟩ hp⟩
    · obtain ⟨x', y', h1, h2, _⟩ := zips_get (List.getElem?_eq_getElem hi)
      obtain ⟨u, eu, _⟩ := v1.get h1
      obtain ⟨u', eu', _⟩ := v2.get h2
      exact ⟨xs, ys, u, u', frT fr e1, .inl (.inl (fr _ _ n2 e2).2), eu, eu'⟩
    · obtain ⟨x', y', h1, h2, rfl⟩ := zips_get hd
      obtain ⟨u, eu, hu⟩ := v1.get h1
      obtain ⟨u', eu', hu'⟩ := v2.get h2
      obtain ⟨T, c1, c2, rfl, nT, rfl, f1, f2⟩ := yl
      cases eu.symm.trans (f1 xs (frT fr e1))
      cases eu'.symm.trans (f2 ys (.inl (.inl (fr _ _ n2 e2).2)))
      have s2 : Stp G H' (upd H' T (.tup [u, u'])) := Stp.new g.wld nT
      exact ⟨s2, T, [u, u'], rfl, .inl ⟨g.fresh nT, upd_same⟩, s2.dvl g ⟨u, _, rfl, hu.move fr, u', _, rfl, hu'.move fr, rfl⟩⟩
    · refine ⟨xs, ys, frT fr e1, .inl (.inl (fr _ _ n2 e2).2), ?_⟩
      rw [zips_len, v1.len, v2.len]
      omega
  · exact hp.elim
end
end DL
namespace DL
open PySem PySem.Spec PyProof.Rows L2
section
variable {G : Ctx} {S S' : Addr → Prop} {σ : L2.St} {H H' : Hp} {ρ : List Slot} {pos : Pos} {a b : Expr} {Fa Fb : FE}
/-- name = l + m, the list one's own -/
theorem ds_setCat {x : Str} {pos' p2 : Pos} (i : Nat) (ha : DE G a Fa) (hb : DE G b Fb) (hN : G.X.N.Nodup) (hi : G.X.N[i]? = some x := by rfl) (hx : Loc G.X.env.scope x := by first | exact Or.inl rfl | exact Or.inr rfl) (hs : swapsWith (.BinOp a .Add b p2) (some (.Name x pos')) pos.line G.X.env = pure false := by rfl)
    (hf : G.X.fn x = true ∨ G.X.env.scope.names.lookup x = some .local := by first | exact .inl rfl | exact .inr rfl) : DS G (.Assign [.Name x pos'] (.BinOp a .Add b p2) pos) (fun D ρ => Fa ρ fun x => Fb ρ fun y => lstD x fun xs => lstD y fun ys => xs.length + ys.length ≤ sizeLine ∧ D.nx (ρ.set i (.own (xs ++ ys)))) := by
  obtain ⟨t1, h1, l1⟩ := ha.ex
  obtain ⟨t2, h2, l2⟩ := hb.ex
  refine ⟨⟨_, ps_set (i := i) hN hi hx (pe_op op_cat h1 h2) hs hf, fun S σ H ρ D Dh g h q => ?_⟩⟩
  refine l1 S σ H ρ _ _ g h fun v1 d1 H1 st1 hv1 hp => ?_
  have g1 := g.step st1
  refine l2 S σ H1 ρ _ _ g1 hp fun v2 d2 H2 st2 hv2 hp => ?_
  have g2 := g1.step st2
  cases d1 with
  | lst ds =>
    cases d2 with
    | lst es =>
      obtain ⟨p1, xs, rfl, n1, e1, hl1⟩ := dv_lst (st2.dv g1 hv1)
      obtain ⟨p2, ys, rfl, n2, e2, hl2⟩ := dv_lst hv2
      refine ⟨p1, p2, xs, ys, rfl, rfl, e1, e2, by rw [hl1.len, hl2.len]; exact hp.1, fun p np => ?_⟩
      obtain ⟨g3, fr⟩ := g2.grow (o := .lst (xs ++ ys)) np
      exact q.nx _ _ _ _ (g2.setOwn (i := i) (s := .own (ds ++ es)) np rfl ⟨p, xs ++ ys, rfl, .inr rfl, g2.fresh0 np, upd_same, (hl1.append hl2).move fr⟩) (Fr.trans (Fr.trans (st1.fr g) (st2.fr g1)) fr) hp.2
    | _ => exact hp.elim
  | _ => exact hp.elim
end
end DL
namespace DL
open PySem PySem.Spec PyProof.Rows L2
theorem len_rep {α : Type} (xs : List α) : ∀ n : Nat, (List.replicate n xs).flatten.length = n * xs.length
  | 0 => by simp
  | n + 1 => by rw [List.replicate_succ, List.flatten_cons, List.length_append, len_rep xs n, Nat.succ_mul, Nat.add_comm]
/-- a tuple taken k times, at most a million items -/
def rRepB (K : PySem.W.Frag) : R2 := fun x y H Q => ∃ l k xs, x = .ref l ∧ y = .int k ∧ SqT K H l xs ∧ xs ≠ [] ∧ 2 ≤ k ∧ k.toNat * xs.length ≤ 1000000 ∧ ∀ p, H p = none → Q (.ref p) (upd H p (.tup (List.replicate k.toNat xs).flatten))
theorem op_repB {X : Cx} : OpR X (binaryOp .Mult) (rRepB X.K) := by
  rintro pins s σ H x y v u Q I rx ry ⟨l, k, xs, rfl, rfl, hT, hne, h1, hm, q⟩
  cases rx
  obtain ⟨t, rfl⟩ := ry
  obtain ⟨its, r, ⟨⟨cls, dd, data, sl⟩, ho, hc, n, hd⟩, hs⟩ := I.tuple hT
  simp only at hc hd
  subst hc hd
  have hle : its.length = xs.length := r.length.symm
  have hpos : 1 ≤ xs.length := by
    cases xs with
    | nil => exact absurd rfl hne
    | cons a b => simp
  have big : sizeLine = 16777216 := sizeLine_eq
  have hi : its.toArray.isEmpty = false := by
    cases its with
    | nil => rw [List.length_nil] at hle; omega
    | cons a b => rfl
  have hk : k ≤ 1000000 := by
    have e : k.toNat * 1 ≤ k.toNat * xs.length := Nat.mul_le_mul_left _ hpos
    omega
  have ek : ((k.toNat : Nat) : Int) = k := Int.toNat_of_nonneg (by omega)
  have em : ((its.toArray.size : Nat) : Int) * k ≤ 1000000 := by
    have e : ((its.toArray.size : Nat) : Int) * k = ((k.toNat * xs.length : Nat) : Int) := by
      rw [List.size_toArray, hle, Int.natCast_mul, ek, Int.mul_comm]
    rw [e]; omega
  have fl : (List.replicate k.toNat its).flatten.length ≤ sizeLine := by rw [len_rep, hle]; omega
  have d0 : (decide (k < -(2 ^ 63)) || decide (k ≥ 2 ^ 63)) = false := by simp; omega
  have d1 : (its.toArray.isEmpty || k == 1) = false := by rw [hi]; simp; omega
  have d2 : (decide (k ≤ 0) || its.toArray.isEmpty) = false := by rw [hi]; simp; omega
  have d4 : Builtin.Tuple.tupleTooMany (((its.toArray.size : Nat) : Int) * k) = false := by unfold Builtin.Tuple.tupleTooMany; exact decide_eq_false (by omega)
  have run := tuple_mulW l its.toArray n dd sl k t d0 d1 d2 (by omega) d4 (by rw [size_rep, List.size_toArray]; exact fl)
  refine wpAny_binaryOp_repeat_ref (T := "tuple") (U := "int") (by decide) ⟨_, ho, rfl⟩ (fun s' => typeIs_int s' k t) noFill_tuple_mul F.fills_int_mul F.slot_int_rmul repeat_tuple F.slot_int_index.lookup ?_
  refine call_meets F.slot_int_rmul (typeIs_int s k t) F.entry_int_rmul (F.args_int_rmul_2 _ _) (int_rmul_tuple k t l its.toArray n dd sl) ⟨ho, rfl, ⟨_, ho, rfl⟩, ?_⟩
  refine call_meets F.slot_tuple_mul ⟨_, ho, rfl⟩ F.entry_tuple_mul (F.args_tuple_mul_2 _ _) run ⟨ho, ?_⟩
  rw [size_rep]
  refine ⟨.ref s.heap.objs.size, upd H s.heap.objs.size (.tup (List.replicate k.toNat xs).flatten), I.laid (t' := s.toks) (fun b ob q => Heap.get?_push_of_some _ q) (Nat.le_refl _) ?_, rfl, q _ (I.hok.fresh (Nat.le_refl _))⟩
  exact ⟨by rw [len_rep]; omega, _, r.rep k.toNat, IsTup.new _ _⟩
/-- a text taken k times -/
def strRep (x : Str) (k : Nat) : Str := ⟨(List.replicate k x.cps).foldl (· ++ ·) #[]⟩
theorem foldl_size (a : Array Nat) : ∀ (n : Nat) (acc : Array Nat), ((List.replicate n a).foldl (· ++ ·) acc).size = acc.size + n * a.size
  | 0, acc => by simp
  | n + 1, acc => by
    rw [List.replicate_succ, List.foldl_cons, foldl_size a n, Array.size_append, Nat.succ_mul]
    omega
theorem strRep_len (x : Str) (n : Nat) : (strRep x n).length = n * x.length := by
  show ((List.replicate n x.cps).foldl (· ++ ·) #[]).size = n * x.cps.size
  rw [foldl_size]
  simp
theorem foldl_all (a : Array Nat) (p : Nat → Bool) (h : a.all p = true) : ∀ (n : Nat) (acc : Array Nat), acc.all p = true → ((List.replicate n a).foldl (· ++ ·) acc).all p = true
  | 0, acc, q => by simpa using q
  | n + 1, acc, q => by
    rw [List.replicate_succ, List.foldl_cons]
    exact foldl_all a p h n _ (by rw [Array.all_append, q, h]; rfl)
theorem strRep_all (x : Str) (n : Nat) (p : Nat → Bool) (h : x.cps.all p = true) : (strRep x n).cps.all p = true := foldl_all x.cps p h n #[] (by simp)
theorem op_repS {X : Cx} : OpR X (binaryOp .Mult) (fun x y H Q => ∃ (z : Str) (k : Int), x = .str z ∧ y = .int k ∧ z.length = 1 ∧ 2 ≤ k ∧ k ≤ 100000 ∧ Q (.str (strRep z k.toNat)) H) := by
  rintro pins s σ H x y v u Q I rx ry ⟨z, k, rfl, rfl, hz, h1, h2, q⟩
  obtain ⟨t1, rfl⟩ := rx
  obtain ⟨t2, rfl⟩ := ry
  have e1 : ¬ k < 1 := by omega
  have e2 : (k == 1 || z.length == 0) = false := by rw [hz]; simp; omega
  refine PySem.P.mul_str (by simp; omega) (fun _ _ => ?_) (fun _ _ => ?_) ?_
  · rw [hz]
    have e : (1 : Int) ≤ (2 ^ 63 - 1) / k := Int.le_ediv_of_mul_le (by omega) (by omega)
    show ¬ (((1 : Nat) : Int) > (2 ^ 63 - 1) / k)
    omega
  · rw [hz]
    unfold PySem.Builtin.Str.tooLong
    have big : sizeLine = 16777216 := sizeLine_eq
    exact decide_eq_false (by omega)
  · rw [if_neg e1, if_neg (by rw [e2]; exact Bool.false_ne_true)]
    exact ⟨show (strRep z k.toNat).length ≤ sizeLine by rw [strRep_len, hz, sizeLine_eq]; omega, .str (strRep z k.toNat), H, I.tok _, ⟨_, rfl⟩, q⟩
section
variable {G : Ctx} {S : Addr → Prop} {H : Hp} {pos : Pos} {a b : Expr} {Fa Fb : FE}
def repB : R2D
  | .tup ds, .int k, P => ds ≠ [] ∧ 2 ≤ k ∧ k.toNat * ds.length ≤ 1000000 ∧ P (.tup (List.replicate k.toNat ds).flatten)
  | .str z, .int k, P => z.length = 1 ∧ 2 ≤ k ∧ k ≤ 100000 ∧ P (.str (strRep z k.toNat))
  | _, _, _ => False
theorem serves_repB : Serves G (fun x y H Q => rRepB G.X.K x y H Q ∨ ∃ (z : Str) (k : Int), x = .str z ∧ y = .int k ∧ z.length = 1 ∧ 2 ≤ k ∧ k ≤ 100000 ∧ Q (.str (strRep z k.toNat)) H) repB := by
  intro S σ ρ H x y dx dy P Q g hx hy h q
  cases dy with
  | int k =>
    cases dv_int hy
    cases dx with
    | tup ds =>
      obtain ⟨h1, h2, h3, hp⟩ := h
      obtain ⟨a, xs, rfl, e, hl⟩ := dv_tup hx
      exact .inl ⟨a, k, xs, rfl, rfl, sqT_of e, fun z => h1 (List.length_eq_zero_iff.mp (by rw [← hl.len, z]; rfl)), h2, by rw [hl.len]; exact h3, new_tup g (hl.rep k.toNat) hp q⟩
    | str z =>
      obtain ⟨h1, h2, h3, hp⟩ := h
      cases dv_str hx
      exact .inr ⟨z, k, rfl, rfl, h1, h2, h3, q _ (.str _) H (Stp.refl g.wld) rfl hp⟩
    | _ => exact h.elim
  | _ => cases dx <;> exact h.elim
theorem de_repB (ha : DE G a Fa) (hb : DE G b Fb) : DE G (.BinOp a .Mult b pos) (fun ρ P => Fa ρ fun x => Fb ρ fun y => repB x y P) := de_bin (.or op_repB op_repS) serves_repB ha hb
end
end DL
namespace DL
open PySem PySem.Spec PyProof.Rows L2
/-- f(k = v, ..), keywords alone -/
theorem pe_callK0 {X : Cx} {CX : CXT} {k : Nat} {f : Addr} {fd : FuncData} {ps ks : List Str} {sp : Sp} {E : XK} {x : Str} {p pos : Pos} {kws : List Keyword} {tk : TA} {g : List Value → List Value → List Value} {gV : List V → List V → List V}
    (F : FnOk X.prog X.w X.K X.mg X.base CX k f fd ps sp) (hr : Room k X.A) (hg : Gl X x) (hm : X.mg x = some (.ref f)) (hk : PySem.W.keepIn X.K (.ref f) = true) (hb : KBinds X.K fd ps ks g gV) (hx : Passes CX X E) (hkw : PK X kws tk)
    (hall : (backToKw pos (keywordEach kws X.env)).all (·.1.isSome) = true := by rfl) (hks : (backToKw pos (keywordEach kws X.env)).filterMap (·.1) = ks := by rfl) (hdb : (x == ("__debug__" : Str)) = false := by decide)
    (hpl : ((backTo pos (starEach [] X.env)).any (·.1) || (backToKw pos (keywordEach kws X.env)).any (·.1.isNone)) = false := by rfl) : PE X (.Call (.Name x p) [] kws pos) (fun σ H Q => tk σ H fun zs H1 => sp (gV [] zs) H1 Q E) := by
  refine ⟨fun pins s σ H Q I h => wpAny_Call_Name_kw (ld_glob I hg hm (PySem.W.callWith_KW0 (h₀ := X.base) I.ok.mod.kin hk hall ?_ hpl) hdb)⟩
  refine thn (hkw.run pos pins s σ H _ I h) fun ws t ⟨zs, H1, I1, rz, q⟩ => ⟨I1.kIn, ?_⟩
  rw [hks]
  exact run_fnk (us := []) F hr hb hx I1 .nil rz q
/-- a def by its name, called with its parameters' names -/
structure CalleeK (P : Program) (w : World) (K : PySem.W.Frag) (mg : Str → Option Value) (base : Heap) (CX : CXT) (x : Str) (k : Nat) (ps : List Str) (C : Con) : Prop where
  ex : ∃ f fd, FnOk P w K mg base CX k f fd ps (spD K C) ∧ mg x = some (.ref f) ∧ PySem.W.keepIn K (.ref f) = true ∧ KBinds K fd ps ps (fun us ws => us ++ ws) (fun vs zs => vs ++ zs)
section
variable {G : Ctx} {S : Addr → Prop} {σ : L2.St} {H H' : Hp} {ρ : List Slot} {pos : Pos} {e : Expr} {F : FE}
theorem de_fnK {x kw : Str} {k m : Nat} {C : Con} {p kpos : Pos} (h : CalleeK G.X.prog G.X.w G.X.K G.X.mg G.X.base CX0 x k [kw] C) (hr : Room m G.X.A) (he : DE G e F) (hk : k ≤ m := by decide) (hg : Gl G.X x := by rfl) (hdb : (x == ("__debug__" : Str)) = false := by decide)
    (hall : (backToKw pos (keywordEach [⟨some kw, e, kpos⟩] G.X.env)).all (·.1.isSome) = true := by rfl) (hks : (backToKw pos (keywordEach [⟨some kw, e, kpos⟩] G.X.env)).filterMap (·.1) = [kw] := by rfl)
    (hpl : ((backTo pos (starEach [] G.X.env)).any (·.1) || (backToKw pos (keywordEach [⟨some kw, e, kpos⟩] G.X.env)).any (·.1.isNone)) = false := by rfl) :
    DE G (.Call (.Name x p) [] [⟨some kw, e, kpos⟩] pos) (fun ρ P => F ρ fun d => C.C [d] P (fun _ => False)) := by
  obtain ⟨f, fd, F1, hm, hkp, hb⟩ := h.ex
  obtain ⟨t, h, l⟩ := he.ex
  refine ⟨⟨_, pe_callK0 F1 (hr.mono hk) hg hm hkp hb pass0 (pk_cons h pk_nil) hall hks hdb hpl, fun S σ H ρ P Q g h q => ?_⟩⟩
  refine l S σ H ρ _ _ g h fun v d H1 st hv hp => ?_
  exact spD_use (vs := [v]) (ds := [d]) (g.step st) ⟨v, [], rfl, hv, rfl⟩ hp fun v d H2 st2 => q v d H2 (st.trans st2)
theorem de_fnKX {x kw : Str} {k m : Nat} {C : Con} {p kpos : Pos} (h : CalleeK G.X.prog G.X.w G.X.K G.X.mg G.X.base (L2.CX G.X.prog G.X.w) x k [kw] C) (hr : Room m G.X.A) (he : DE G e F) (hk : k ≤ m := by decide) (tk : TkG G := by exact takes_of rfl rfl rfl rfl) (hg : Gl G.X x := by rfl) (hdb : (x == ("__debug__" : Str)) = false := by decide)
    (hall : (backToKw pos (keywordEach [⟨some kw, e, kpos⟩] G.X.env)).all (·.1.isSome) = true := by rfl) (hks : (backToKw pos (keywordEach [⟨some kw, e, kpos⟩] G.X.env)).filterMap (·.1) = [kw] := by rfl)
    (hpl : ((backTo pos (starEach [] G.X.env)).any (·.1) || (backToKw pos (keywordEach [⟨some kw, e, kpos⟩] G.X.env)).any (·.1.isNone)) = false := by rfl) :
    DE G (.Call (.Name x p) [] [⟨some kw, e, kpos⟩] pos) (fun ρ P => F ρ fun d => C.C [d] P G.EX) := by
  obtain ⟨f, fd, F1, hm, hkp, hb⟩ := h.ex
  obtain ⟨t, h, l⟩ := he.ex
  refine ⟨⟨_, pe_callK0 F1 (hr.mono hk) hg hm hkp hb (passes_call tk fun _ _ _ _ z => z) (pk_cons h pk_nil) hall hks hdb hpl, fun S σ H ρ P Q g h q => ?_⟩⟩
  refine l S σ H ρ _ _ g h fun v d H1 st hv hp => ?_
  exact spD_useX (vs := [v]) (ds := [d]) (g.step st) ⟨v, [], rfl, hv, rfl⟩ hp fun v d H2 st2 => q v d H2 (st.trans st2)
end
end DL
namespace DL
open PySem PySem.Spec PyProof.Rows L2
/-! ### repr of a list -/
def rReprL (K : PySem.W.Frag) : List V → Hp → VK → Prop := fun xs H Q => ∃ (a : Addr) (d : PyData), xs = [.ref a] ∧ Dp K H (.ref a) d ∧ d.showable = true ∧ d.hasDict = false ∧ d.depth ≤ 60 ∧ d.shown.length ≤ sizeLine ∧ Q (.str d.shown) H
theorem call_reprL {X : Cx} (hg : X.A.guards = some []) (hu : X.A.units + 64 < cLine) : CallR X (.builtin "repr") (rReprL X.K) := by
  rintro pins s σ H xs us Q I r ⟨a, d, rfl, hd, h1, h2, h3, h4, q⟩
  obtain ⟨u, rfl, ru⟩ := vals1 r
  obtain rfl : u = Value.ref a := ru
  obtain ⟨as, rd⟩ := Dp.reads I d (.ref a) (.ref a) hd rfl
  exact repr_of_reads' rd h1 (fun z => by rw [h2] at z; cases z) hg (by omega) (fun _ _ e => e) (fun h' u tk k => ⟨.str d.shown, H, I.kept (t' := tk) k, ⟨_, rfl⟩, q⟩) h4
section
variable {G : Ctx} {S : Addr → Prop} {H : Hp} {pos : Pos} {a : Expr}
def reprD (ds : List Dat) (P : Dat → Prop) : Prop := match ds with
  | [.lst xs] => (toP (.lst xs)).canLay0 = true ∧ (toP (.lst xs)).showable = true ∧ (toP (.lst xs)).hasDict = false ∧ (toP (.lst xs)).depth ≤ 60 ∧ (toP (.lst xs)).shown.length ≤ sizeLine ∧ P (.str (toP (.lst xs)).shown)
  | _ => False
theorem serves_repr : ServesC G (rReprL G.X.K) reprD := by
  intro S σ ρ H vs ds P Q g hv h q
  unfold reprD at h
  split at h
  · rename_i xs
    obtain ⟨h0, h1, h2, h3, h4, hp⟩ := h
    obtain ⟨v, rfl, hd⟩ := dvl1 hv
    obtain ⟨p, us, rfl, n, e, hl⟩ := dv_lst hd
    exact ⟨p, _, rfl, dp_of _ _ hd h0, h1, h2, h3, h4, q _ (.str _) H (Stp.refl g.wld) rfl hp⟩
  · exact h.elim
theorem de_repr {p : Pos} {Fs : FA} (hgd : G.X.A.guards = some []) (hu : G.X.A.units + 64 < cLine) (hm : G.X.mg "repr" = none) (ha : DA G [a] Fs) (hg : Gl G.X "repr" := by rfl) (he : starEach [a] G.X.env = (false, eval a G.X.env) :: starEach [] G.X.env := by rfl) :
    DE G (.Call (.Name "repr" p) [a] [] pos) (fun ρ P => Fs ρ fun ds => reprD ds P) := de_cb (call_reprL hgd hu) serves_repr hm (by decide +kernel) ha hg (he := he)
/-- l * k of a fresh list -/
def repL : R2D
  | .lst xs, .int k, P => 0 ≤ k ∧ k ≤ 1000 ∧ xs.length ≤ 1000 ∧ P (.lst (List.replicate k.toNat xs).flatten)
  | _, _, _ => False
theorem serves_repL : Serves G rRep repL := by
  intro S σ ρ H x y dx dy P Q g hx hy h q
  cases dx with
  | lst xs =>
    cases dy with
    | int k =>
      obtain ⟨h1, h2, h3, hp⟩ := h
      obtain ⟨p, us, rfl, n, e, hl⟩ := dv_lst hx
      cases dv_int hy
      refine ⟨p, k, us, rfl, rfl, e, by omega, by omega, ?_, new_lst g (hl.rep k.toNat) hp q⟩
      rw [hl.len, sizeLine_eq]
      have : xs.length * k.toNat ≤ 1000 * 1000 := Nat.mul_le_mul h3 (by omega)
      omega
    | _ => exact h.elim
  | _ => exact h.elim
theorem de_repL {b : Expr} {Fa Fb : FE} (ha : DE G a Fa) (hb : DE G b Fb) : DE G (.BinOp a .Mult b pos) (fun ρ P => Fa ρ fun x => Fb ρ fun y => repL x y P) := de_bin op_rep serves_repL ha hb
end
end DL
namespace DL
open PySem PySem.Spec PyProof.Rows L2
/-! ### defs that are called where no repr is under way -/
structure FnG (P : Program) (w : World) (K : PySem.W.Frag) (mg : Str → Option Value) (base : Heap) (CX : CXT) (k : Nat) (f : Addr) (fd : FuncData) (ps : List Str) (sp : Sp) : Prop where
  len : ∀ vs H Q E, sp vs H Q E → vs.length = ps.length
  run : ∀ (A : Around) (outer : List Env) (s : Shared) (H : Hp) (args : Args) (us : List Value) (vs : List V) (Q : VK) (E : XK), Room k A → A.guards = some [] → Env0 P w K mg base A outer s H → BindsTo s fd args (ps.zip us) → Vals vs us → sp vs H Q E → codeAny (model P w) A (.call (.ref f) args) (CR CX outer P w H s Q E) s
theorem fnG_of {CX : CXT} {P : Program} {w : World} {K : PySem.W.Frag} {mg : Str → Option Value} {base : Heap} {k : Nat} {f : Addr} {name qual : Str} {params : Arguments} {body : List Stmt} {scope : Scope} {dV kV doc pm cdv ct oc : Value} {an od : Option Addr} {osl : Array (Option Value)} {N ps : List Str} {sp : Sp}
    (lk : K.lookup f = some ⟨oc, od, .func (PySem.W.fnOf name qual params body scope dV kV doc pm an cdv ct), osl⟩) (hcd : PySem.W.codeIn K cdv qual = true) (S : FnScope N ps scope) (len : ∀ vs H Q E, sp vs H Q E → vs.length = ps.length)
    (hbody : ∀ (A : Around) (outer : List Env) (s : Shared) (H : Hp) (vs : List V) (Q : VK) (E : XK), A.guards = some [] → Room k (A.deeper (envOfC qual scope s.heap.objs.size f cdv)) → sp vs H Q E → ∃ t, PSs (cxOf CX P w K mg base N qual scope f cdv A outer s H E) body t ∧ t { nx := fun _ H' => Q .non H', rt := Q } (L2.start N vs) H) :
    FnG P w K mg base CX (k + 1) f (PySem.W.fnOf name qual params body scope dV kV doc pm an cdv ct) ps sp := by
  refine ⟨len, fun A outer s H args us vs Q E hr hgd e0 hb r hsp => ?_⟩
  have inK : K.In s.heap := e0.mod.kin.keeps fun b o e => (e0.bs b o e).1
  have lim : s.heap.NoLimit := e0.mod.nolimit.keeps fun b o e => (e0.bs b o e).1
  have kinds : ∀ y ∈ ps.zip us, scope.names.lookup y.1 = some .local ∨ (scope.names.lookup y.1 = some .cell ∧ ((cellsFrom (s.heap.objs.size + 1) scope.names []).lookup y.1).isSome = true) := by
    rintro ⟨n, v⟩ hy
    exact (S.par n (List.of_mem_zip hy).1).imp id fun q => ⟨q, PySem.W.cellsFrom_some _ _ _ (.inl q)⟩
  refine codeAny_call_function hr.depth (inK _ _ lk) rfl S.co S.gen rfl (PySem.W.codeRec_of inK hcd) (hb _ _ _ _ (wpAny_newFunctionEnv_cells S.kind kinds fun env he s1 x => ?_))
  subst he
  refine ⟨lim.keeps x.toInCall.keep, codeAny_func ?_⟩
  obtain ⟨t, ht, hq⟩ := hbody A outer s H vs Q E hgd (hr.deeper _) hsp
  have I := inv_start (CX := CX) (E := E) S hr.hd e0 (len _ _ _ _ hsp) r x
  refine wpAny_mono (ht.run [] s1 (L2.start N vs) H _ I hq) (fun fl s' hs => ?_) fun e s' hs => hs
  match fl, hs with
  | .ret u, ⟨v, σ', H', J, rv, q⟩ => exact ⟨v, H', J.os, J.bare, J.base, J.hok, rv, q⟩
  | .next, ⟨σ', H', J, q⟩ => exact ⟨.non, H', J.os, J.bare, J.base, J.hok, rfl, q⟩
  | .brk, ⟨_, _, _, q⟩ => exact False.elim q
  | .cont, ⟨_, _, _, q⟩ => exact False.elim q
theorem FnG.mono {P : Program} {w : World} {K : PySem.W.Frag} {mg : Str → Option Value} {base : Heap} {CX : CXT} {j k : Nat} {f : Addr} {fd : FuncData} {ps : List Str} {sp : Sp} (F : FnG P w K mg base CX j f fd ps sp) (h : j ≤ k) : FnG P w K mg base CX k f fd ps sp := ⟨F.len, fun A outer s H args us vs Q E hr => F.run A outer s H args us vs Q E (hr.mono h)⟩
/-- THE RULE for a pure def that raises nothing, called where no repr is under way -/
theorem fn_pureG {P : Program} {w : World} {K : PySem.W.Frag} {mg : Str → Option Value} {base : Heap} {x qual : Str} {st : Stmt} {f : Addr} {fd : FuncData} {N ps : List Str} {k : Nat} {C : Con} (F : Fun K x qual st f fd) (Sc : FnScope N ps (defScope st)) (len : ∀ ds P X, C.C ds P X → ds.length = ps.length)
    (hbody : ∀ (cdv : Value) (A : Around) (outer : List Env) (s : Shared) (H : Hp) (S : Addr → Prop) (hS : ∀ a, S a → ∃ o, H a = some o), A.guards = some [] → Room k (A.deeper (envOfC qual (defScope st) s.heap.objs.size f cdv)) →
      ∃ T, DB (ctx0 P w K mg base N qual (defScope st) f cdv A outer s H S hS) (defBody st) T ∧ ∀ ds R X, C.C ds R X → T { nx := fun _ => R .non, rt := R } (start N.length ds)) : FnG P w K mg base CX0 (k + 1) f fd ps (spD K C) := by
  have hpl : ps.length ≤ N.length := by have := congrArg List.length Sc.pre; rw [List.length_take] at this; omega
  obtain ⟨oc, od, kV, doc, pm, an, cdv, ct, osl, rfl, lk, hcd⟩ := F.ex
  refine fnG_of lk hcd Sc (fun vs H Q E ⟨S, ds, _, hv, hc⟩ => by rw [hv.len]; exact len _ _ _ hc) fun A outer s H vs Q E hgd hr h => ?_
  obtain ⟨S, ds, hS, hv, hc⟩ := h
  obtain ⟨T, ⟨t, hp, l⟩, hT⟩ := hbody cdv A outer s H S hS hgd hr
  refine ⟨t, hp.nox, ?_⟩
  refine l S _ H (start N.length ds) _ _ (gd_start (G := ctx0 P w K mg base N qual (defScope st) f cdv A outer s H S hS) (fun _ _ e => e) hS hv (by rw [len _ _ _ hc]; exact hpl)) (hT ds _ _ hc) ?_
  exact ⟨fun S' σ' H' ρ' g fr q => q .non H' g.wld rfl, fun v d H' hw hv q => q v H' hw hv, fun _ _ _ _ _ _ z => z.elim, fun _ _ _ _ _ _ z => z.elim⟩
theorem pe_callG {X : Cx} {CX : CXT} {k : Nat} {f : Addr} {fd : FuncData} {ps : List Str} {sp : Sp} {E : XK} {x : Str} {p pos : Pos} {e : Expr} {es : List Expr} {t : TA} (F : FnG X.prog X.w X.K X.mg X.base CX k f fd ps sp) (hr : Room k X.A) (hgd : X.A.guards = some []) (hg : Gl X x) (hm : X.mg x = some (.ref f)) (hk : PySem.W.keepIn X.K (.ref f) = true) (hb : Binds X.K fd ps []) (hx : Passes CX X E)
    (ha : PA X (e :: es) t) (hdb : (x == ("__debug__" : Str)) = false := by decide) (he : starEach (e :: es) X.env = (false, eval e X.env) :: starEach es X.env := by rfl) (hpl : (backTo pos (starEach es X.env)).any (·.1) = false := by rfl) : PE X (.Call (.Name x p) (e :: es) [] pos) (tCall sp [] E t) := by
  refine ⟨fun pins s σ H Q I h => wpAny_Call_Name_kw (ld_glob I hg hm (PySem.W.callWith_K (h₀ := X.base) I.ok.mod.kin hk (thn (ha.run pos pins s σ H _ I h) fun us s1 ⟨vs, H1, I1, r, q⟩ => ⟨I1.kIn, ?_⟩) he hpl) hdb)⟩
  replace q : sp (vs ++ []) H1 Q E := q
  rw [List.append_nil] at q
  have hl : us.length = ps.length := by rw [← r.length]; exact F.len _ _ _ _ q
  have hb' := hb s1 us I1.kIn (by rw [List.append_nil]; exact hl)
  rw [List.append_nil] at hb'
  refine wpAny_call (codeAny_mono (F.run X.A X.stack s1 H1 ⟨us, []⟩ us vs Q E hr hgd I1.env0 hb' r q) fun r s' hq => ?_)
  match r, hq with
  | .error e, hq => exact hx pins σ H1 s1 e s' I1 hq
  | .ok (.ret u), hq => exact I1.after hq
  | .ok .next, hq => exact False.elim hq
  | .ok .brk, hq => exact False.elim hq
  | .ok .cont, hq => exact False.elim hq
structure CalleeG (P : Program) (w : World) (K : PySem.W.Frag) (mg : Str → Option Value) (base : Heap) (x : Str) (k : Nat) (ps : List Str) (C : Con) : Prop where
  ex : ∃ f fd, FnG P w K mg base CX0 k f fd ps (spD K C) ∧ mg x = some (.ref f) ∧ PySem.W.keepIn K (.ref f) = true ∧ Binds K fd ps []
section
variable {G : Ctx} {S : Addr → Prop} {σ : L2.St} {H H' : Hp} {ρ : List Slot} {pos : Pos} {e : Expr} {F : FE}
theorem de_fnG {x : Str} {k m : Nat} {ps : List Str} {C : Con} {p : Pos} {es : List Expr} {Fs : FA} (h : CalleeG G.X.prog G.X.w G.X.K G.X.mg G.X.base x k ps C) (hr : Room m G.X.A) (hgd : G.X.A.guards = some []) (ha : DA G (e :: es) Fs) (hk : k ≤ m := by decide) (hg : Gl G.X x := by rfl) (hdb : (x == ("__debug__" : Str)) = false := by decide)
    (he : starEach (e :: es) G.X.env = (false, eval e G.X.env) :: starEach es G.X.env := by rfl) (hpl : (backTo pos (starEach es G.X.env)).any (·.1) = false := by rfl) : DE G (.Call (.Name x p) (e :: es) [] pos) (fun ρ P => Fs ρ fun ds => C.C ds P (fun _ => False)) := by
  obtain ⟨f, fd, F, hm, hkp, hb⟩ := h.ex
  obtain ⟨t, h, l⟩ := ha.ex
  refine ⟨⟨_, pe_callG F (hr.mono hk) hgd hg hm hkp hb pass0 h hdb he hpl, fun S σ H ρ P Q g h q => ?_⟩⟩
  refine l S σ H ρ _ _ g h fun vs ds H1 st hv hp => ?_
  rw [List.append_nil]
  exact spD_use (g.step st) hv hp fun v d H2 st2 => q v d H2 (st.trans st2)
/-- a def that may raise, called where it does not -/
theorem de_fnX0 {x : Str} {k m : Nat} {ps : List Str} {C : Con} {p : Pos} {es : List Expr} {Fs : FA} (h : CalleeX G.X.prog G.X.w G.X.K G.X.mg G.X.base x k ps C) (hr : Room m G.X.A) (ha : DA G (e :: es) Fs) (hk : k ≤ m := by decide) (hg : Gl G.X x := by rfl) (hdb : (x == ("__debug__" : Str)) = false := by decide)
    (he : starEach (e :: es) G.X.env = (false, eval e G.X.env) :: starEach es G.X.env := by rfl) (hpl : (backTo pos (starEach es G.X.env)).any (·.1) = false := by rfl) : DE G (.Call (.Name x p) (e :: es) [] pos) (fun ρ P => Fs ρ fun ds => C.C ds P (fun _ => False)) := by
  obtain ⟨f, fd, F, hm, hkp, hb⟩ := h.ex
  obtain ⟨t, h, l⟩ := ha.ex
  refine ⟨⟨_, pe_call F (hr.mono hk) hg hm hkp hb .nil passL h hdb he hpl, fun S σ H ρ P Q g h q => ?_⟩⟩
  refine l S σ H ρ _ _ g h fun vs ds H1 st hv hp => ?_
  rw [List.append_nil]
  exact spD_use (g.step st) hv hp fun v d H2 st2 => q v d H2 (st.trans st2)
theorem de_fnKX0 {x kw : Str} {k m : Nat} {C : Con} {p kpos : Pos} (h : CalleeK G.X.prog G.X.w G.X.K G.X.mg G.X.base (L2.CX G.X.prog G.X.w) x k [kw] C) (hr : Room m G.X.A) (he : DE G e F) (hk : k ≤ m := by decide) (hg : Gl G.X x := by rfl) (hdb : (x == ("__debug__" : Str)) = false := by decide)
    (hall : (backToKw pos (keywordEach [⟨some kw, e, kpos⟩] G.X.env)).all (·.1.isSome) = true := by rfl) (hks : (backToKw pos (keywordEach [⟨some kw, e, kpos⟩] G.X.env)).filterMap (·.1) = [kw] := by rfl)
    (hpl : ((backTo pos (starEach [] G.X.env)).any (·.1) || (backToKw pos (keywordEach [⟨some kw, e, kpos⟩] G.X.env)).any (·.1.isNone)) = false := by rfl) :
    DE G (.Call (.Name x p) [] [⟨some kw, e, kpos⟩] pos) (fun ρ P => F ρ fun d => C.C [d] P (fun _ => False)) := by
  obtain ⟨f, fd, F1, hm, hkp, hb⟩ := h.ex
  obtain ⟨t, h, l⟩ := he.ex
  refine ⟨⟨_, pe_callK0 F1 (hr.mono hk) hg hm hkp hb passL (pk_cons h pk_nil) hall hks hdb hpl, fun S σ H ρ P Q g h q => ?_⟩⟩
  refine l S σ H ρ _ _ g h fun v d H1 st hv hp => ?_
  exact spD_use (vs := [v]) (ds := [d]) (g.step st) ⟨v, [], rfl, hv, rfl⟩ hp fun v d H2 st2 => q v d H2 (st.trans st2)
end
end DL
namespace DL
open PySem PySem.Spec PyProof.Rows L2
/-! ### a state that is handed in: where it lies, what holds of it, by an index -/
def ExF (fp : Addr → Prop) (H H' : Hp) : Prop := ∀ a o, ¬ fp a → H a = some o → H' a = some o
theorem ExF.refl (fp : Addr → Prop) (H : Hp) : ExF fp H H := fun _ _ _ e => e
theorem ExF.trans {fp : Addr → Prop} {H H1 H2 : Hp} (a : ExF fp H H1) (b : ExF fp H1 H2) : ExF fp H H2 := fun c o n e => b c o n (a c o n e)
structure Sta (ι : Type) where
  fp : Addr → Prop
  M : ι → Hp → Prop
  loc : ∀ i H H', M i H → (∀ a o, fp a → H a = some o → H' a = some o) → KeepX H H' → M i H'
  noc : ∀ i H, M i H → ∀ a φ, fp a → H a ≠ some (.ext φ)
  dom : ∀ i H, M i H → ∀ a, fp a → ∃ o, H a = some o
/-- where one stands, by the index -/
structure Fam (ι : Type) where
  X : Cx
  H0 : Hp
  S0 : Addr → Prop
  W : ι → Hp → Prop
  clo : ∀ i H H', W i H → (∀ a o o0, H0 a = some o0 → H a = some o → H' a = some o) → KeepX H H' → W i H'
  top : ∀ i H, W i H → ∀ a o, H0 a = some o → ∃ o', H a = some o'
  s0 : ∀ a, S0 a → ∃ o, H0 a = some o
abbrev Fam.at {ι : Type} (G : Fam ι) (i : ι) : Ctx := { X := G.X, H0 := G.H0, S0 := G.S0, W := G.W i, clo := G.clo i, top := G.top i, s0 := G.s0, E := E0, EX := fun _ => False, elink := fun _ _ _ _ _ z => z.elim }
abbrev Fam.any {ι : Type} (G : Fam ι) : Ctx := { X := G.X, H0 := G.H0, S0 := G.S0, W := fun H => ∃ i, G.W i H, clo := fun H H' ⟨i, h⟩ k x => ⟨i, G.clo i H H' h k x⟩, top := fun H ⟨i, h⟩ => G.top i H h, s0 := G.s0, E := E0, EX := fun _ => False, elink := fun _ _ _ _ _ z => z.elim }
section
variable {ι κ : Type} {G : Fam ι} {S S' : Addr → Prop} {σ : L2.St} {H H' H2 : Hp} {ρ : List Slot} {i j k : ι}
structure StpI (G : Fam ι) (j : ι) (H H' : Hp) : Prop where
  wld : G.W j H'
  keep : ∀ a o, ¬ G.S0 a → H a = some o → H' a = some o
  has : ∀ a o, H a = some o → ∃ o', H' a = some o'
theorem StpI.any (st : StpI G j H H') : Stp G.any H H' := ⟨⟨j, st.wld⟩, st.keep, st.has⟩
theorem StpI.of (st : Stp (G.at i) H H') : StpI G i H H' := ⟨st.wld, st.keep, st.has⟩
theorem StpI.refl (h : G.W i H) : StpI G i H H := ⟨h, fun _ _ _ e => e, fun _ o e => ⟨o, e⟩⟩
theorem StpI.trans (a : StpI G i H H') (b : StpI G j H' H2) : StpI G j H H2 := ⟨b.wld, fun c o n e => b.keep c o n (a.keep c o n e), fun c o e => by
  obtain ⟨o', e'⟩ := a.has c o e
  exact b.has c o' e'⟩
theorem Gd.toAny (g : Gd (G.at i) S σ H ρ) : Gd G.any S σ H ρ := ⟨⟨i, g.wld⟩, g.all, g.sub, g.len, g.slots, g.apart⟩
theorem Gd.ofAny (g : Gd G.any S σ H ρ) (h : G.W i H) : Gd (G.at i) S σ H ρ := ⟨h, g.all, g.sub, g.len, g.slots, g.apart⟩
theorem Gd.stepI (g : Gd (G.at i) S σ H ρ) (st : StpI G j H H') : Gd (G.at j) S σ H' ρ := (g.toAny.step st.any).ofAny st.wld
theorem StpI.dv (st : StpI G j H H') (g : Gd (G.at i) S σ H ρ) {d : Dat} {v : V} (h : Dv G.X.K S H d v) : Dv G.X.K S H' d v := st.any.dv g.toAny h
theorem StpI.dvl (st : StpI G j H H') (g : Gd (G.at i) S σ H ρ) {d : List Dat} {v : List V} (h : DvL G.X.K S H d v) : DvL G.X.K S H' d v := st.any.dvl g.toAny h
theorem StpI.fr (st : StpI G j H H') (g : Gd (G.at i) S σ H ρ) : Fr S H S H' := st.any.fr g.toAny
theorem StpI.new (h : G.W i H) {p : Addr} {o : HO} (n : H p = none) : StpI G i H (upd H p o) := StpI.of (Stp.new (G := G.at i) h n)
end
/-! ### the judgements -/
abbrev FR (ι : Type) := List Slot → ι → (Dat → ι → Prop) → Prop
abbrev FTR (ι : Type) := List Slot → ι → (Bool → ι → Prop) → Prop
abbrev FAR (ι : Type) := List Slot → ι → (List Dat → ι → Prop) → Prop
abbrev FSR' (ι : Type) := List Slot → ι → (List Slot → ι → Prop) → Prop
structure DEndsR (ι : Type) where
  nx : List Slot → ι → Prop
  rt : Dat → ι → Prop
  bk : List Slot → ι → Prop := fun _ _ => False
  ct : List Slot → ι → Prop := fun _ _ => False
abbrev FSR (ι : Type) := DEndsR ι → List Slot → ι → Prop
def LiftR {ι : Type} (G : Fam ι) (t : TE) (F : FR ι) : Prop := ∀ S σ H ρ i P (Q : VK), Gd (G.at i) S σ H ρ → F ρ i P → (∀ v d H' j, StpI G j H H' → Dv G.X.K S H' d v → P d j → Q v H') → t σ H Q
def LiftTR {ι : Type} (G : Fam ι) (t : TT) (F : FTR ι) : Prop := ∀ S σ H ρ i P (Q : Bool → Hp → Prop), Gd (G.at i) S σ H ρ → F ρ i P → (∀ b H' j, StpI G j H H' → P b j → Q b H') → t σ H Q
def LiftAR {ι : Type} (G : Fam ι) (t : TA) (F : FAR ι) : Prop := ∀ S σ H ρ i P (Q : List V → Hp → Prop), Gd (G.at i) S σ H ρ → F ρ i P → (∀ vs ds H' j, StpI G j H H' → DvL G.X.K S H' ds vs → P ds j → Q vs H') → t σ H Q
structure EndsOkR {ι : Type} (G : Fam ι) (S : Addr → Prop) (H : Hp) (D : DEndsR ι) (Dh : Ends) : Prop where
  nx : ∀ S' σ' H' ρ' j, Gd (G.at j) S' σ' H' ρ' → Fr S H S' H' → D.nx ρ' j → Dh.nx σ' H'
  rt : ∀ v d H' j, G.W j H' → Dv G.X.K G.S0 H' d v → D.rt d j → Dh.rt v H'
  bk : ∀ S' σ' H' ρ' j, Gd (G.at j) S' σ' H' ρ' → Fr S H S' H' → D.bk ρ' j → Dh.bk σ' H'
  ct : ∀ S' σ' H' ρ' j, Gd (G.at j) S' σ' H' ρ' → Fr S H S' H' → D.ct ρ' j → Dh.ct σ' H'
def LiftSR {ι : Type} (G : Fam ι) (t : TS) (F : FSR ι) : Prop := ∀ S σ H ρ i D Dh, Gd (G.at i) S σ H ρ → F D ρ i → EndsOkR G S H D Dh → t Dh σ H
structure DR {ι : Type} (G : Fam ι) (e : Expr) (F : FR ι) : Prop where
  ex : ∃ t, PE G.X e t ∧ LiftR G t F
structure DTR {ι : Type} (G : Fam ι) (e : Expr) (F : FTR ι) : Prop where
  ex : ∃ t, PT G.X e t ∧ LiftTR G t F
structure DWR {ι : Type} (G : Fam ι) (e : Expr) (F : FTR ι) : Prop where
  ex : ∃ t, PW G.X e t ∧ LiftTR G t F
structure DAR {ι : Type} (G : Fam ι) (es : List Expr) (F : FAR ι) : Prop where
  ex : ∃ t, PA G.X es t ∧ LiftAR G t F
structure DSR {ι : Type} (G : Fam ι) (st : Stmt) (F : FSR ι) : Prop where
  ex : ∃ t, PS G.X st t ∧ LiftSR G t F
structure DBR {ι : Type} (G : Fam ι) (st : List Stmt) (F : FSR ι) : Prop where
  ex : ∃ t, PSs G.X st t ∧ LiftSR G t F
section
variable {ι κ : Type} {G : Fam ι} {S S' : Addr → Prop} {σ : L2.St} {H H' H2 : Hp} {ρ : List Slot} {pos : Pos} {a b c e : Expr} {es rest : List Expr} {Fa Fb : FR ι}
/-- what asks nothing of the state -/
theorem dr_of {F : ι → FE} (h : ∀ i, DE (G.at i) e (F i)) : DR G e (fun ρ i P => F i ρ fun d => P d i) := by
  have h' : ∀ i, ∃ t, PE G.X e t ∧ LiftE (G.at i) t (F i) := fun i => (h i).ex
  refine ⟨⟨fun σ H Q => ∃ t : TE, PE G.X e t ∧ t σ H Q, ⟨fun pins s σ H Q I ⟨t, hp, hq⟩ => hp.run pins s σ H Q I hq⟩, fun S σ H ρ i P Q g h q => ?_⟩⟩
  obtain ⟨t, hp, l⟩ := h' i
  exact ⟨t, hp, l S σ H ρ _ _ g h fun v d H1 st hv hp => q v d H1 i (.of st) hv hp⟩
theorem dtr_of {F : ι → FT} (h : ∀ i, DT (G.at i) e (F i)) : DTR G e (fun ρ i P => F i ρ fun d => P d i) := by
  have h' : ∀ i, ∃ t, PT G.X e t ∧ LiftT (G.at i) t (F i) := fun i => (h i).ex
  refine ⟨⟨fun σ H Q => ∃ t : TT, PT G.X e t ∧ t σ H Q, ⟨fun pins s σ H Q I ⟨t, hp, hq⟩ => hp.run pins s σ H Q I hq⟩, fun S σ H ρ i P Q g h q => ?_⟩⟩
  obtain ⟨t, hp, l⟩ := h' i
  exact ⟨t, hp, l S σ H ρ _ _ g h fun b H1 st hp => q b H1 i (.of st) hp⟩
theorem dar_nil : DAR G [] (fun _ i P => P [] i) := ⟨⟨_, pa_nil, fun _ _ H _ i _ _ g h q => q [] [] H i (.refl g.wld) rfl h⟩⟩
theorem dar_cons {Fs : FAR ι} (ha : DR G e Fa) (hr : DAR G es Fs) (hs : starEach (e :: es) G.X.env = (false, eval e G.X.env) :: starEach es G.X.env := by rfl) :
    DAR G (e :: es) (fun ρ i P => Fa ρ i fun x j => Fs ρ j fun xs k => P (x :: xs) k) := by
  obtain ⟨t, h1, l1⟩ := ha.ex
  obtain ⟨u, h2, l2⟩ := hr.ex
  refine ⟨⟨_, pa_cons h1 h2 hs, fun S σ H ρ i P Q g h q => ?_⟩⟩
  refine l1 S σ H ρ i _ _ g h fun v d H1 j st hv h' => ?_
  refine l2 S σ H1 ρ j _ _ (g.stepI st) h' fun vs ds H2 k st2 hvs hp => ?_
  exact q _ (d :: ds) H2 k (st.trans st2) ⟨v, vs, rfl, st2.dv (g.stepI st) hv, hvs⟩ hp
theorem dr_tup {Fs : FAR ι} {kk} (h : DAR G es Fs) : DR G (.Tuple es kk pos) (fun ρ i P => Fs ρ i fun xs j => xs.length ≤ sizeLine ∧ P (.tup xs) j) := by
  obtain ⟨t, h1, l1⟩ := h.ex
  refine ⟨⟨_, pe_tup h1, fun S σ H ρ i P Q g h q => ?_⟩⟩
  refine l1 S σ H ρ i _ _ g h fun vs ds H1 j st hv ⟨hl, hp⟩ => ⟨by rw [hv.len]; exact hl, fun p np => ?_⟩
  have g1 := g.stepI st
  have st2 : StpI G j H1 (upd H1 p (.tup vs)) := StpI.new g1.wld np
  exact q _ (.tup ds) _ j (st.trans st2) ⟨p, vs, rfl, .inl ⟨g1.fresh np, upd_same⟩, st2.dvl g1 hv⟩ hp
theorem dr_lst {Fs : FAR ι} (h : DAR G es Fs) : DR G (.List es pos) (fun ρ i P => Fs ρ i fun xs j => xs.length ≤ sizeLine ∧ P (.lst xs) j) := by
  obtain ⟨t, h1, l1⟩ := h.ex
  refine ⟨⟨_, pe_lst h1, fun S σ H ρ i P Q g h q => ?_⟩⟩
  refine l1 S σ H ρ i _ _ g h fun vs ds H1 j st hv ⟨hl, hp⟩ => ⟨by rw [hv.len]; exact hl, fun p np => ?_⟩
  have g1 := g.stepI st
  have st2 : StpI G j H1 (upd H1 p (.lst vs)) := StpI.new g1.wld np
  exact q _ (.lst ds) _ j (st.trans st2) ⟨p, vs, rfl, g1.fresh np, upd_same, st2.dvl g1 hv⟩ hp
theorem liftR_op {r : R2} {D : R2D} {ta tb : TE} (hr : ∀ i, Serves (G.at i) r D) (la : LiftR G ta Fa) (lb : LiftR G tb Fb) : LiftR G (tOp r ta tb) (fun ρ i P => Fa ρ i fun x j => Fb ρ j fun y k => D x y fun z => P z k) := by
  intro S σ H ρ i P Q g h q
  refine la S σ H ρ i _ _ g h fun v d H1 j st hv h' => ?_
  refine lb S σ H1 ρ j _ _ (g.stepI st) h' fun v2 d2 H2 k st2 hv2 hp => ?_
  exact hr k S σ ρ H2 v v2 d d2 _ Q ((g.stepI st).stepI st2) (st2.dv (g.stepI st) hv) hv2 hp fun v3 d3 H3 st3 => q v3 d3 H3 k ((st.trans st2).trans (.of st3))
theorem dr_bin {op : Operator} {r : R2} {D : R2D} (ho : OpR G.X (binaryOp op) r) (hr : ∀ i, Serves (G.at i) r D) (ha : DR G a Fa) (hb : DR G b Fb) : DR G (.BinOp a op b pos) (fun ρ i P => Fa ρ i fun x j => Fb ρ j fun y k => D x y fun z => P z k) := by
  obtain ⟨ta, h1, l1⟩ := ha.ex
  obtain ⟨tb, h2, l2⟩ := hb.ex
  exact ⟨⟨_, pe_op ho h1 h2, liftR_op hr l1 l2⟩⟩
theorem dr_ix (ha : DR G a Fa) (hb : DR G b Fb) (hs : PlainIx b := by exact fun _ _ => rfl) : DR G (.Subscript a b pos) (fun ρ i P => Fa ρ i fun x j => Fb ρ j fun y k => ixD x y fun z => P z k) := by
  obtain ⟨ta, h1, l1⟩ := ha.ex
  obtain ⟨tb, h2, l2⟩ := hb.ex
  exact ⟨⟨_, pe_ix (.or (.or ix_list ix_tup) ix_str) h1 h2 hs, liftR_op (fun i => serves_ix) l1 l2⟩⟩
theorem dtr_cmp {op : CmpOp} {r : R2} {D : R2D} (ho : OpR G.X (compareOp op) r) (hr : ∀ i, Serves (G.at i) r D) (ha : DR G a Fa) (hb : DR G b Fb) (hm : behindInMarks op b = false := by first | exact nobehind _ (by decide) (by decide) | rfl) : DTR G (.Compare a [op] [b] pos) (fun ρ i P => Fa ρ i fun x j => Fb ρ j fun y k => D x y fun z => isB z fun z => P z k) := by
  obtain ⟨ta, h1, l1⟩ := ha.ex
  obtain ⟨tb, h2, l2⟩ := hb.ex
  refine ⟨⟨_, pt_cmpR ho h1 h2 hm, fun S σ H ρ i P Q g h q => ?_⟩⟩
  refine liftR_op hr l1 l2 S σ H ρ i (fun z k => isB z fun z => P z k) _ g h fun v d H1 j st hv hp => ?_
  obtain ⟨b, rfl, hp⟩ := isB_inv hp
  exact ⟨b, hv, q b H1 j st hp⟩
theorem dr_cmp {op : CmpOp} {r : R2} {D : R2D} (ho : OpR G.X (compareOp op) r) (hr : ∀ i, Serves (G.at i) r D) (ha : DR G a Fa) (hb : DR G b Fb) (hm : behindInMarks op b = false := by first | exact nobehind _ (by decide) (by decide) | rfl) : DR G (.Compare a [op] [b] pos) (fun ρ i P => Fa ρ i fun x j => Fb ρ j fun y k => D x y fun z => P z k) := by
  obtain ⟨ta, h1, l1⟩ := ha.ex
  obtain ⟨tb, h2, l2⟩ := hb.ex
  exact ⟨⟨_, pe_cmpR ho h1 h2 hm, liftR_op hr l1 l2⟩⟩
theorem dtr_val {F : FR ι} (h : DR G e F) (he : ∀ whole, isTrue e G.X.env whole = (do let v ← whole; standAt e.pos; holding [v] (truthy v)) := by intro _; rfl) : DTR G e (fun ρ i P => F ρ i fun x j => isB x fun b => P b j) := by
  obtain ⟨t, h1, l1⟩ := h.ex
  refine ⟨⟨_, pt_val h1 he, fun S σ H ρ i P Q g h q => ?_⟩⟩
  refine l1 S σ H ρ i _ _ g h fun v d H1 j st hv hp => ?_
  obtain ⟨b, rfl, hp⟩ := isB_inv hp
  exact ⟨b, hv, q b H1 j st hp⟩
theorem dwr_and1 {F : FTR ι} (ha : DTR G a F) : DWR G (.BoolOp .And [a] pos) F := by
  obtain ⟨t, h, l⟩ := ha.ex
  exact ⟨⟨_, pw_and1 h, l⟩⟩
theorem dwr_or1 {F : FTR ι} (ha : DTR G a F) : DWR G (.BoolOp .Or [a] pos) F := by
  obtain ⟨t, h, l⟩ := ha.ex
  exact ⟨⟨_, pw_or1 h, l⟩⟩
theorem dwr_and {F F' : FTR ι} (ha : DTR G a F) (hb : DWR G (.BoolOp .And (b :: rest) pos) F') : DWR G (.BoolOp .And (a :: b :: rest) pos) (fun ρ i P => F ρ i fun c j => if c = true then F' ρ j P else P false j) := by
  obtain ⟨t, h, l⟩ := ha.ex
  obtain ⟨u, h2, l2⟩ := hb.ex
  refine ⟨⟨_, pw_and h h2, fun S σ H ρ i P Q g h q => ?_⟩⟩
  refine l S σ H ρ i _ _ g h fun b H1 j st hp => ?_
  cases b with
  | true => exact l2 S σ H1 ρ j _ _ (g.stepI st) hp fun b H2 k st2 => q b H2 k (st.trans st2)
  | false => exact q false H1 j st hp
theorem dwr_or {F F' : FTR ι} (ha : DTR G a F) (hb : DWR G (.BoolOp .Or (b :: rest) pos) F') : DWR G (.BoolOp .Or (a :: b :: rest) pos) (fun ρ i P => F ρ i fun c j => if c = true then P true j else F' ρ j P) := by
  obtain ⟨t, h, l⟩ := ha.ex
  obtain ⟨u, h2, l2⟩ := hb.ex
  refine ⟨⟨_, pw_or h h2, fun S σ H ρ i P Q g h q => ?_⟩⟩
  refine l S σ H ρ i _ _ g h fun b H1 j st hp => ?_
  cases b with
  | false => exact l2 S σ H1 ρ j _ _ (g.stepI st) hp fun b H2 k st2 => q b H2 k (st.trans st2)
  | true => exact q true H1 j st hp
theorem dtr_w {F : FTR ι} (h : DWR G e F) : DTR G e F := by
  obtain ⟨t, h, l⟩ := h.ex
  exact ⟨⟨_, h.pt, l⟩⟩
theorem dtr_not {F : FTR ι} (ha : DTR G a F) : DTR G (.UnaryOp .Not a pos) (fun ρ i P => F ρ i fun c j => P (!c) j) := by
  obtain ⟨t, h, l⟩ := ha.ex
  exact ⟨⟨_, pt_not h, fun S σ H ρ i P Q g h q => l S σ H ρ i _ _ g h fun b H1 j st hp => q (!b) H1 j st hp⟩⟩
theorem dr_if {Fc : FTR ι} (hc : DTR G c Fc) (ha : DR G a Fa) (hb : DR G b Fb) : DR G (.IfExp c a b pos) (fun ρ i P => Fc ρ i fun c j => if c = true then Fa ρ j P else Fb ρ j P) := by
  obtain ⟨t0, h0, l0⟩ := hc.ex
  obtain ⟨t, h, l⟩ := ha.ex
  obtain ⟨u, h2, l2⟩ := hb.ex
  refine ⟨⟨_, pe_ifExp h0 h h2, fun S σ H ρ i P Q g h q => ?_⟩⟩
  refine l0 S σ H ρ i _ _ g h fun b H1 j st hp => ?_
  cases b with
  | true => exact l S σ H1 ρ j _ _ (g.stepI st) hp fun v d H2 k st2 => q v d H2 k (st.trans st2)
  | false => exact l2 S σ H1 ρ j _ _ (g.stepI st) hp fun v d H2 k st2 => q v d H2 k (st.trans st2)
/-- a built-in, its arguments of the state -/
theorem liftR_cb {r : List V → Hp → VK → Prop} {D : RCD} {t : TA} {Fs : FAR ι} (hr : ∀ i, ServesC (G.at i) r D) (l : LiftAR G t Fs) : LiftR G (tCB r t) (fun ρ i P => Fs ρ i fun ds j => D ds fun d => P d j) := by
  intro S σ H ρ i P Q g h q
  refine l S σ H ρ i _ _ g h fun vs ds H1 j st hv hp => ?_
  exact hr j S σ ρ H1 vs ds _ Q (g.stepI st) hv hp fun v d H2 st2 => q v d H2 j (st.trans (.of st2))
theorem dr_cb {id : String} {r : List V → Hp → VK → Prop} {D : RCD} {x : Str} {p : Pos} {Fs : FAR ι} (hc : CallR G.X (.builtin id) r) (hr : ∀ i, ServesC (G.at i) r D) (hm : G.X.mg x = none) (hv : bootBuiltins x = some (.builtin id)) (ha : DAR G (e :: es) Fs) (hg : Gl G.X x := by rfl)
    (hn : x ≠ "__name__" := by decide) (hdb : (x == ("__debug__" : Str)) = false := by decide) (he : starEach (e :: es) G.X.env = (false, eval e G.X.env) :: starEach es G.X.env := by rfl) (hpl : (backTo pos (starEach es G.X.env)).any (·.1) = false := by rfl) :
    DR G (.Call (.Name x p) (e :: es) [] pos) (fun ρ i P => Fs ρ i fun ds j => D ds fun d => P d j) := by
  obtain ⟨t, h, l⟩ := ha.ex
  exact ⟨⟨_, pe_callB hc hg hm hv h hn hdb he hpl, liftR_cb hr l⟩⟩
theorem dr_ct {T : String} {r : List V → Hp → VK → Prop} {D : RCD} {x : Str} {p : Pos} {Fs : FAR ι} (hc : CallR G.X (.type T) r) (hr : ∀ i, ServesC (G.at i) r D) (hm : G.X.mg x = none) (hv : bootBuiltins x = some (.type T)) (ha : DAR G (e :: es) Fs) (hg : Gl G.X x := by rfl)
    (hn : x ≠ "__name__" := by decide) (hdb : (x == ("__debug__" : Str)) = false := by decide) (he : starEach (e :: es) G.X.env = (false, eval e G.X.env) :: starEach es G.X.env := by rfl) (hpl : (backTo pos (starEach es G.X.env)).any (·.1) = false := by rfl) :
    DR G (.Call (.Name x p) (e :: es) [] pos) (fun ρ i P => Fs ρ i fun ds j => D ds fun d => P d j) := by
  obtain ⟨t, h, l⟩ := ha.ex
  exact ⟨⟨_, pe_callTy hc hg hm hv h hn hdb he hpl, liftR_cb hr l⟩⟩
/-! ### calls of defs that are handed the state -/
def ArgOk (K : PySem.W.Frag) (S : Addr → Prop) (H : Hp) : Slot → V → Prop
  | .d x, v => Dv K S H x v
  | .raw w, v => v = w
  | .scr ns, v => ScrOk K S H ns v
  | _, _ => False
def SlL (K : PySem.W.Frag) (S : Addr → Prop) (H : Hp) : List Slot → List V → Prop
  | [], vs => vs = []
  | s :: sl, vs => ∃ v r, vs = v :: r ∧ ArgOk K S H s v ∧ SlL K S H sl r
theorem SlL.len {K : PySem.W.Frag} : ∀ {sl : List Slot} {vs : List V}, SlL K S H sl vs → vs.length = sl.length
  | [], _, e => by cases (e : _ = []); rfl
  | s :: sl, vs, e => by
    obtain ⟨v, r, rfl, _, h2⟩ := (e : ∃ v r, vs = v :: r ∧ ArgOk K S H s v ∧ SlL K S H sl r)
    simp [h2.len]
theorem ArgOk.move {K : PySem.W.Frag} (h : Fr S H S' H') : ∀ {s : Slot} {v : V}, ArgOk K S H s v → ArgOk K S' H' s v
  | .d x, v, e => Dv.move h x v e
  | .raw w, v, e => e
  | .scr ns, v, e => ScrOk.move (K := K) e h
  | .un, _, e => e.elim
  | .own _, _, e => e.elim
  | .ownd _ _, _, e => e.elim
  | .ownt _ _, _, e => e.elim
  | .ownp _ _, _, e => e.elim
theorem SlL.move {K : PySem.W.Frag} (h : Fr S H S' H') : ∀ {sl : List Slot} {vs : List V}, SlL K S H sl vs → SlL K S' H' sl vs
  | [], _, e => e
  | s :: sl, vs, e => by
    obtain ⟨v, r, rfl, h1, h2⟩ := (e : ∃ v r, vs = v :: r ∧ ArgOk K S H s v ∧ SlL K S H sl r)
    exact ⟨v, r, rfl, h1.move h, h2.move h⟩
theorem SlL.get {K : PySem.W.Frag} : ∀ {sl : List Slot} {vs : List V} {n : Nat} {s : Slot}, SlL K S H sl vs → sl[n]? = some s → ∃ v, vs[n]? = some v ∧ ArgOk K S H s v
  | [], _, _, _, _, h => by simp at h
  | d :: ds, vs, 0, d', e, h => by
    obtain ⟨v, r, rfl, h1, _⟩ := (e : ∃ v r, vs = v :: r ∧ ArgOk K S H d v ∧ SlL K S H ds r)
    simp at h; subst h
    exact ⟨v, rfl, h1⟩
  | d :: ds, vs, i + 1, d', e, h => by
    obtain ⟨v, r, rfl, _, h2⟩ := (e : ∃ v r, vs = v :: r ∧ ArgOk K S H d v ∧ SlL K S H ds r)
    simpa using SlL.get h2 (by simpa using h)
/-- what a def that is handed a state promises: the state, its index, the arguments, what is wanted -/
structure ConS (κ : Type) where
  C : Sta κ → κ → List Slot → (Dat → κ → Prop) → Prop
  mono : ∀ st i sl P P', C st i sl P → (∀ d j, P d j → P' d j) → C st i sl P'
def spS (K : PySem.W.Frag) (C : ConS κ) : Sp := fun vs H Q E => ∃ (S : Addr → Prop) (st : Sta κ) (i : κ) (sl : List Slot), (∀ a, S a → ∃ o, H a = some o) ∧ (∀ a, st.fp a → S a) ∧ st.M i H ∧ SlL K S H sl vs ∧
  C.C st i sl (fun d j => ∀ v H', ExF st.fp H H' → st.M j H' → Dv K S H' d v → Q v H')
/-- here the state may change: π reads its index off one's own, u puts a new one -/
structure GS (G : Fam ι) (st : Sta κ) (π : ι → κ) (u : ι → κ → ι) : Prop where
  sub : ∀ a, st.fp a → G.S0 a
  get : ∀ i H, G.W i H → st.M (π i) H
  put : ∀ i j H H', G.W i H → ExF st.fp H H' → st.M j H' → G.W (u i j) H'
theorem GS.stp {st : Sta κ} {π : ι → κ} {u : ι → κ → ι} (gs : GS G st π u) {i : ι} {j : κ} (hw : G.W i H) (e : ExF st.fp H H') (m : st.M j H') : StpI G (u i j) H H' := by
  refine ⟨gs.put i j H H' hw e m, fun a o n q => e a o (fun z => n (gs.sub a z)) q, fun a o q => ?_⟩
  by_cases z : st.fp a
  · exact st.dom j H' m a z
  · exact ⟨o, e a o z q⟩
def LiftSl {ι : Type} (G : Fam ι) (t : TA) (F : FSR' ι) : Prop := ∀ S σ H ρ i P (Q : List V → Hp → Prop), Gd (G.at i) S σ H ρ → F ρ i P → (∀ vs sl H' j, StpI G j H H' → SlL G.X.K S H' sl vs → P sl j → Q vs H') → t σ H Q
structure DSl {ι : Type} (G : Fam ι) (es : List Expr) (F : FSR' ι) : Prop where
  ex : ∃ t, PA G.X es t ∧ LiftSl G t F
theorem dsl_nil : DSl G [] (fun _ i P => P [] i) := ⟨⟨_, pa_nil, fun _ _ H _ i _ _ g h q => q [] [] H i (.refl g.wld) rfl h⟩⟩
theorem dsl_d {Fs : FSR' ι} (ha : DR G e Fa) (hr : DSl G es Fs) (hs : starEach (e :: es) G.X.env = (false, eval e G.X.env) :: starEach es G.X.env := by rfl) :
    DSl G (e :: es) (fun ρ i P => Fa ρ i fun x j => Fs ρ j fun xs k => P (.d x :: xs) k) := by
  obtain ⟨t, h1, l1⟩ := ha.ex
  obtain ⟨u, h2, l2⟩ := hr.ex
  refine ⟨⟨_, pa_cons h1 h2 hs, fun S σ H ρ i P Q g h q => ?_⟩⟩
  refine l1 S σ H ρ i _ _ g h fun v d H1 j st hv h' => ?_
  refine l2 S σ H1 ρ j _ _ (g.stepI st) h' fun vs ds H2 k st2 hvs hp => ?_
  exact q _ (.d d :: ds) H2 k (st.trans st2) ⟨v, vs, rfl, st2.dv (g.stepI st) hv, hvs⟩ hp
/-- a slot's raw value -/
def rdRaw (ρ : List Slot) (n : Nat) (P : V → Prop) : Prop := match ρ[n]? with
  | some (.raw x) => P x
  | _ => False
theorem rdRaw_inv {ρ : List Slot} {n : Nat} {P : V → Prop} (h : rdRaw ρ n P) : ∃ x, ρ[n]? = some (.raw x) ∧ P x := by
  unfold rdRaw at h
  split at h
  · rename_i x e; exact ⟨x, e, h⟩
  · exact h.elim
theorem Gd.slot_raw {G : Ctx} (g : Gd G S σ H ρ) {n : Nat} {x : V} (h : ρ[n]? = some (.raw x)) : σ[n]? = some (some x) := by
  have q := g.slots n _ h
  cases e : σ[n]? with
  | none => rw [e] at q; exact q.elim
  | some o =>
    cases o with
    | none => rw [e] at q; exact q.elim
    | some v => rw [e] at q; rw [show v = x from q]
theorem dsl_raw {x : Str} {p : Pos} {Fs : FSR' ι} (n : Nat) (hr : DSl G es Fs) (hN : G.X.N[n]? = some x := by rfl) (hv : Vis G.X.env.scope x := by first | exact Or.inl rfl | exact Or.inr (Or.inl rfl) | exact Or.inr (Or.inr rfl)) (hd : (x == ("__debug__" : Str)) = false := by decide)
    (hcd : (x == ("__classdict__" : Str)) = false := by decide) (hs : starEach (Expr.Name x p :: es) G.X.env = (false, eval (.Name x p) G.X.env) :: starEach es G.X.env := by rfl) :
    DSl G (.Name x p :: es) (fun ρ i P => rdRaw ρ n fun w => Fs ρ i fun xs k => P (.raw w :: xs) k) := by
  obtain ⟨u, h2, l2⟩ := hr.ex
  refine ⟨⟨_, pa_cons (pe_var hN hv hd hcd) h2 hs, fun S σ H ρ i P Q g h q => ?_⟩⟩
  obtain ⟨w, e, h⟩ := rdRaw_inv h
  exact ⟨w, g.slot_raw e, l2 S σ H ρ i _ _ g h fun vs sl H2 k st2 hvs hp => q _ (.raw w :: sl) H2 k st2 ⟨w, vs, rfl, rfl, hvs⟩ hp⟩
/-- a def by its name that is handed a state -/
structure CalleeS (P : Program) (w : World) (K : PySem.W.Frag) (mg : Str → Option Value) (base : Heap) (x : Str) (k : Nat) (ps : List Str) (C : ConS κ) : Prop where
  ex : ∃ f fd, FnOk P w K mg base CX0 k f fd ps (spS K C) ∧ mg x = some (.ref f) ∧ PySem.W.keepIn K (.ref f) = true ∧ Binds K fd ps []
theorem dr_fnS {st : Sta κ} {π : ι → κ} {u : ι → κ → ι} {x : Str} {k m : Nat} {ps : List Str} {C : ConS κ} {p : Pos} {Fs : FSR' ι} (gs : GS G st π u) (h : CalleeS G.X.prog G.X.w G.X.K G.X.mg G.X.base x k ps C) (hr : Room m G.X.A) (ha : DSl G (e :: es) Fs) (hk : k ≤ m := by decide) (hg : Gl G.X x := by rfl) (hdb : (x == ("__debug__" : Str)) = false := by decide)
    (he : starEach (e :: es) G.X.env = (false, eval e G.X.env) :: starEach es G.X.env := by rfl) (hpl : (backTo pos (starEach es G.X.env)).any (·.1) = false := by rfl) :
    DR G (.Call (.Name x p) (e :: es) [] pos) (fun ρ i P => Fs ρ i fun sl j => C.C st (π j) sl fun d j' => P d (u j j')) := by
  obtain ⟨f, fd, F, hm, hkp, hb⟩ := h.ex
  obtain ⟨t, h, l⟩ := ha.ex
  refine ⟨⟨_, pe_call F (hr.mono hk) hg hm hkp hb .nil pass0 h hdb he hpl, fun S σ H ρ i P Q g h q => ?_⟩⟩
  refine l S σ H ρ i _ _ g h fun vs sl H1 j s1 hv hp => ?_
  rw [List.append_nil]
  have g1 := g.stepI s1
  refine ⟨S, st, π j, sl, g1.all, fun a z => g1.sub a (gs.sub a z), gs.get j H1 g1.wld, hv, C.mono _ _ _ _ _ hp fun d j' hp v H' e m hd => ?_⟩
  exact q v d H' (u j j') (s1.trans (gs.stp g1.wld e m)) hd hp
/-! ### statements -/
variable {st : Stmt} {sts : List Stmt}
theorem EndsOkR.from {D : DEndsR ι} {Dh : Ends} (q : EndsOkR G S H D Dh) (fr : Fr S H S' H') : EndsOkR G S' H' D Dh :=
  ⟨fun S2 σ2 H2 ρ2 j g f => q.nx S2 σ2 H2 ρ2 j g (fr.trans f), q.rt, fun S2 σ2 H2 ρ2 j g f => q.bk S2 σ2 H2 ρ2 j g (fr.trans f), fun S2 σ2 H2 ρ2 j g f => q.ct S2 σ2 H2 ρ2 j g (fr.trans f)⟩
theorem dsr_set {x : Str} {pos' : Pos} {F : FR ι} (n : Nat) (he : DR G e F) (hN : G.X.N.Nodup) (hi : G.X.N[n]? = some x := by rfl) (hx : Loc G.X.env.scope x := by first | exact Or.inl rfl | exact Or.inr rfl) (hs : swapsWith e (some (.Name x pos')) pos.line G.X.env = pure false := by rfl)
    (hf : G.X.fn x = true ∨ G.X.env.scope.names.lookup x = some .local := by first | exact .inl rfl | exact .inr rfl) : DSR G (.Assign [.Name x pos'] e pos) (fun D ρ i => F ρ i fun d j => D.nx (ρ.set n (.d d)) j) := by
  obtain ⟨t, h, l⟩ := he.ex
  refine ⟨⟨_, ps_set (i := n) hN hi hx h hs hf, fun S σ H ρ i D Dh g h q => ?_⟩⟩
  exact l S σ H ρ i _ _ g h fun v d H1 j st hv hp => q.nx S _ H1 _ j ((g.stepI st).set hv) (st.fr g) hp
theorem dsr_ret {F : FR ι} (he : DR G e F) : DSR G (.Return (some e) pos) (fun D ρ i => F ρ i D.rt) := by
  obtain ⟨t, h, l⟩ := he.ex
  refine ⟨⟨_, ps_ret h, fun S σ H ρ i D Dh g h q => ?_⟩⟩
  exact l S σ H ρ i _ _ g h fun v d H1 j st hv hp => q.rt v d H1 j st.wld (hv.move fun a o n e => ⟨fun z => n (g.sub a z), e⟩) hp
theorem dsr_freeze {F : FSR ι} (h : DSR G st F) : DSR G st (fun D ρ i => F D (ρ.map Slot.freeze) i) := by
  obtain ⟨t, h, l⟩ := h.ex
  refine ⟨⟨t, h, fun S σ H ρ i D Dh g h q => ?_⟩⟩
  obtain ⟨g1, fr⟩ := g.freeze
  exact l G.S0 σ H _ i D Dh g1 h (q.from fr)
theorem dbr_nil : DBR G [] (fun D ρ i => D.nx ρ i) := ⟨⟨_, pss_nil, fun S σ H ρ i D Dh g h q => q.nx S σ H ρ i g (Fr.refl S H) h⟩⟩
theorem dbr_one {F : FSR ι} (h : DSR G st F) : DBR G [st] F := by
  obtain ⟨t, h, l⟩ := h.ex
  exact ⟨⟨t, pss_one h, l⟩⟩
theorem dbr_cons {F F' : FSR ι} (h : DSR G st F) (hr : DBR G sts F') : DBR G (st :: sts) (fun D ρ i => F { D with nx := F' D } ρ i) := by
  obtain ⟨t, h, l⟩ := h.ex
  obtain ⟨u, h2, l2⟩ := hr.ex
  refine ⟨⟨_, pss_cons h h2, fun S σ H ρ i D Dh g h q => ?_⟩⟩
  exact l S σ H ρ i _ _ g h ⟨fun S' σ' H' ρ' j g' fr hp => l2 S' σ' H' ρ' j D Dh g' hp (q.from fr), q.rt, q.bk, q.ct⟩
/-- an if, its test told first -/
theorem dsr_if {sa sb : List Stmt} {Fc : FTR ι} {F F' : FSR ι} (hc : DTR G c Fc) (ha : DBR G sa F) (hb : DBR G sb F') : DSR G (.If c sa sb pos) (fun D ρ i => ∃ Pc : Bool → ι → Prop, Fc ρ i Pc ∧ (∀ j, Pc true j → F D ρ j) ∧ (∀ j, Pc false j → F' D ρ j)) := by
  obtain ⟨t0, h0, l0⟩ := hc.ex
  obtain ⟨t, h, l⟩ := ha.ex
  obtain ⟨u, h2, l2⟩ := hb.ex
  refine ⟨⟨_, ps_if h0 h h2, fun S σ H ρ i D Dh g h q => ?_⟩⟩
  obtain ⟨Pc, hc, h1, h2⟩ := h
  refine l0 S σ H ρ i _ _ g hc fun b H1 j st hp => ?_
  cases b with
  | true => exact l S σ H1 ρ j D Dh (g.stepI st) (h1 j hp) (q.from (st.fr g))
  | false => exact l2 S σ H1 ρ j D Dh (g.stepI st) (h2 j hp) (q.from (st.fr g))
theorem dsr_par {x y : Str} {Fs : FAR ι} {px py pt : Pos} {kt k2 pt2} (n m : Nat) (ha : DAR G [a, b] Fs) (hN : G.X.N.Nodup) (hc : G.X.calm = true := by rfl) (hi : G.X.N[n]? = some x := by rfl) (hj : G.X.N[m]? = some y := by rfl) (hij : n ≠ m := by decide)
    (hx : G.X.env.scope.names.lookup x = some .local := by rfl) (hy : G.X.env.scope.names.lookup y = some .local := by rfl)
    (hw : swappedStores [.Tuple [.Name x px, .Name y py] kt pt] (.Tuple [a, b] k2 pt2) G.X.env = pure (some [x, y]) := by rfl)
    (hs : swapsWithSole [.Tuple [.Name x px, .Name y py] kt pt] (.Tuple [a, b] k2 pt2) pos.line G.X.env = pure false := by rfl) :
    DSR G (.Assign [.Tuple [.Name x px, .Name y py] kt pt] (.Tuple [a, b] k2 pt2) pos) (fun D ρ i => Fs ρ i fun ds j => two ds fun d e => D.nx ((ρ.set n (.d d)).set m (.d e)) j) := by
  obtain ⟨t, h, l⟩ := ha.ex
  refine ⟨⟨_, ps_par hc hN hi hj hij hx hy h hw hs, fun S σ H ρ i D Dh g h q => ?_⟩⟩
  refine l S σ H ρ i _ _ g h fun vs ds H1 j st hv hp => ?_
  unfold two at hp
  split at hp
  · obtain ⟨v, w, rfl, h1, h2⟩ := dvl2 hv
    exact ⟨v, w, rfl, q.nx _ _ _ _ j (((g.stepI st).set h1).set h2) (st.fr g) hp⟩
  · exact hp.elim
end
/-! ### the rule for a def that is handed a state -/
section
/-- the context of a body that is handed a state -/
abbrev famS {κ : Type} (P : Program) (w : World) (K : PySem.W.Frag) (mg : Str → Option Value) (base : Heap) (N : List Str) (qual : Str) (sc : Scope) (f : Addr) (cdv : Value) (A : Around) (outer : List Env) (s : Shared) (H : Hp) (S : Addr → Prop) (hS : ∀ a, S a → ∃ o, H a = some o) (st : Sta κ) (i0 : κ) (h0 : st.M i0 H) : Fam κ where
  X := (cxOf CX0 P w K mg base N qual sc f cdv A outer s H E0).nox
  H0 := H
  S0 := S
  W := fun i H' => ExF st.fp H H' ∧ st.M i H'
  clo := fun i H1 H2 h k x => ⟨fun a o n e => k a o o e (h.1 a o n e), st.loc i H1 H2 h.2 (fun a o z e => by
    obtain ⟨o0, e0⟩ := st.dom i0 H h0 a z
    exact k a o o0 e0 e) x⟩
  top := fun i H1 h a o e => by
    by_cases z : st.fp a
    · exact st.dom i H1 h.2 a z
    · exact ⟨o, h.1 a o z e⟩
  s0 := hS
theorem gs_self {κ : Type} {P : Program} {w : World} {K : PySem.W.Frag} {mg : Str → Option Value} {base : Heap} {N : List Str} {qual : Str} {sc : Scope} {f : Addr} {cdv : Value} {A : Around} {outer : List Env} {s : Shared} {H : Hp} {S : Addr → Prop} {hS : ∀ a, S a → ∃ o, H a = some o} {st : Sta κ} {i0 : κ} {h0 : st.M i0 H} (hf : ∀ a, st.fp a → S a) :
    GS (famS P w K mg base N qual sc f cdv A outer s H S hS st i0 h0) st (fun i => i) (fun _ j => j) :=
  ⟨hf, fun _ _ h => h.2, fun i j H1 H2 h e m => ⟨h.1.trans e, m⟩⟩
/-- a part of the state -/
structure SubS {ι κ : Type} (c : Sta κ) (st : Sta ι) (π : ι → κ) (u : ι → κ → ι) : Prop where
  fp : ∀ a, c.fp a → st.fp a
  get : ∀ i H, st.M i H → c.M (π i) H
  put : ∀ i j H H', st.M i H → ExF c.fp H H' → c.M j H' → st.M (u i j) H'
theorem GS.subS {ι κ μ : Type} {G : Fam ι} {st : Sta κ} {c : Sta μ} {π : ι → κ} {u : ι → κ → ι} {π' : κ → μ} {u' : κ → μ → κ} (gs : GS G st π u) (s : SubS c st π' u') : GS G c (fun i => π' (π i)) (fun i j => u i (u' (π i) j)) :=
  ⟨fun a z => gs.sub a (s.fp a z), fun i H h => s.get _ H (gs.get i H h), fun i j H H' h e m => gs.put i _ H H' h (fun a o n => e a o fun z => n (s.fp a z)) (s.put _ j H H' (gs.get i H h) e m)⟩
def startS (n : Nat) (sl : List Slot) : List Slot := sl ++ List.replicate (n - sl.length) Slot.un
theorem argOk_slot {K : PySem.W.Frag} {S : Addr → Prop} {H0 H : Hp} {s : Slot} {v : V} (h : ArgOk K S H s v) : SlotOk K S H0 H (some v) s ∧ s.isOwn = false := by
  cases s with
  | d x => exact ⟨h, rfl⟩
  | raw w => exact ⟨h, rfl⟩
  | scr w => exact ⟨h, rfl⟩
  | un => exact h.elim
  | own _ => exact h.elim
  | ownd _ _ => exact h.elim
  | ownt _ _ => exact h.elim
  | ownp _ _ => exact h.elim
theorem gd_startS {G : Ctx} {H : Hp} {N : List Str} {vs : List V} {sl : List Slot} (hw : G.W H) (ha : ∀ a, G.S0 a → ∃ o, H a = some o) (hv : SlL G.X.K G.S0 H sl vs) (hl : sl.length ≤ N.length) : Gd G G.S0 (L2.start N vs) H (startS N.length sl) := by
  have hvl := hv.len
  refine ⟨hw, ha, fun _ h => h, by unfold L2.start startS; simp [hvl], fun i s hs => ?_, fun i j si sj v h1 h2 o1 o2 _ _ => ?_⟩
  · unfold startS at hs
    unfold L2.start
    by_cases hi : i < sl.length
    · rw [List.getElem?_append_left hi] at hs
      obtain ⟨v, e1, e2⟩ := hv.get hs
      rw [List.getElem?_append_left (by rw [List.length_map]; omega), List.getElem?_map, e1]
      exact (argOk_slot e2).1
    · rw [List.getElem?_append_right (by omega), List.getElem?_replicate] at hs
      split at hs
      · cases hs; exact trivial
      · cases hs
  · unfold startS at h1
    by_cases hi : i < sl.length
    · rw [List.getElem?_append_left hi] at h1
      obtain ⟨v, e1, e2⟩ := hv.get h1
      rw [(argOk_slot (H0 := H) e2).2] at o1
      cases o1
    · rw [List.getElem?_append_right (by omega), List.getElem?_replicate] at h1
      split at h1
      · cases h1; cases o1
      · cases h1
theorem fn_pureS {κ : Type} {P : Program} {w : World} {K : PySem.W.Frag} {mg : Str → Option Value} {base : Heap} {x qual : Str} {stm : Stmt} {f : Addr} {fd : FuncData} {N ps : List Str} {k : Nat} {C : ConS κ} (F : Fun K x qual stm f fd) (Sc : FnScope N ps (defScope stm)) (len : ∀ st i sl P, C.C st i sl P → sl.length = ps.length)
    (hbody : ∀ (cdv : Value) (A : Around) (outer : List Env) (s : Shared) (H : Hp) (S : Addr → Prop) (hS : ∀ a, S a → ∃ o, H a = some o) (st : Sta κ) (i0 : κ) (h0 : st.M i0 H), (∀ a, st.fp a → S a) → Room k (A.deeper (envOfC qual (defScope stm) s.heap.objs.size f cdv)) → ∀ sl R, C.C st i0 sl R →
      ∃ T, DBR (famS P w K mg base N qual (defScope stm) f cdv A outer s H S hS st i0 h0) (defBody stm) T ∧ T { nx := fun _ => R .non, rt := R } (startS N.length sl) i0) : FnOk P w K mg base CX0 (k + 1) f fd ps (spS K C) := by
  have hpl : ps.length ≤ N.length := by have := congrArg List.length Sc.pre; rw [List.length_take] at this; omega
  refine F.ok Sc (fun vs H Q E ⟨S, st, i, sl, _, _, _, hv, hc⟩ => by rw [hv.len]; exact len _ _ _ _ hc) fun cdv A outer s H vs Q E hr h => ?_
  obtain ⟨S, st, i, sl, hS, hf, h0, hv, hc⟩ := h
  obtain ⟨T, ⟨t, hp, l⟩, hT⟩ := hbody cdv A outer s H S hS st i h0 hf hr sl _ hc
  refine ⟨t, ?_, ?_⟩
  · exact hp
  · refine l S _ H (startS N.length sl) i _ _ (gd_startS (G := (famS P w K mg base N qual (defScope stm) f cdv A outer s H S hS st i h0).at i) ⟨ExF.refl _ _, h0⟩ hS hv (by rw [len _ _ _ _ hc]; exact hpl)) hT ?_
    exact ⟨fun S' σ' H' ρ' j g fr q => q .non H' g.wld.1 g.wld.2 rfl, fun v d H' j hw hv q => q v H' hw.1 hw.2 hv, fun _ _ _ _ _ _ _ z => z.elim, fun _ _ _ _ _ _ _ z => z.elim⟩
end
end DL
namespace DL
open PySem PySem.Spec PyProof.Rows L2
/-! ### the dict that draws go by: a: the dict, b: its cells, c: what is left; L: how long that is; n: at most so many draws so far -/
def drawM (a b c : Addr) (L : Nat) (n : Nat) (H : Hp) : Prop := ∃ (k : Nat) (cells left : List Int), k ≤ n ∧ cells.length = 64 ∧ (∀ x ∈ cells, 0 ≤ x ∧ x < 2147483648) ∧ left.length = L ∧
  H a = some (.dK [(.inr "cells", .ref b), (.inr "left", .ref c), (.inr "spot", .int (k : Nat))]) ∧ H b = some (.lst (cells.map V.int)) ∧ H c = some (.lst (left.map V.int))
def drawSta (a b c : Addr) (L : Nat) : Sta Nat where
  fp := fun x => x = a ∨ x = b ∨ x = c
  M := drawM a b c L
  loc := fun n H H' ⟨k, cells, left, h1, h2, h3, h4, e1, e2, e3⟩ q _ => ⟨k, cells, left, h1, h2, h3, h4, q a _ (.inl rfl) e1, q b _ (.inr (.inl rfl)) e2, q c _ (.inr (.inr rfl)) e3⟩
  noc := fun n H ⟨k, cells, left, h1, h2, h3, h4, e1, e2, e3⟩ x φ hx z => by
    rcases hx with rfl | rfl | rfl
    · rw [e1] at z; cases z
    · rw [e2] at z; cases z
    · rw [e3] at z; cases z
  dom := fun n H ⟨k, cells, left, h1, h2, h3, h4, e1, e2, e3⟩ x hx => by
    rcases hx with rfl | rfl | rfl
    · exact ⟨_, e1⟩
    · exact ⟨_, e2⟩
    · exact ⟨_, e3⟩
/-- v is what draws go by, in this state -/
def IsDraw (st : Sta Nat) (v : V) : Prop := ∃ a b c L, a ≠ b ∧ a ≠ c ∧ b ≠ c ∧ st = drawSta a b c L ∧ v = .ref a
/-- no more draws than these, ever -/
def manyDraws : Nat := 1000000000000000
def conMix : Con := ⟨fun ds P _ => ∃ c k : Int, ds = [.int c, .int k] ∧ 0 ≤ c ∧ c < 4611686018427387904 ∧ 0 ≤ k ∧ k < 4611686018427387904 ∧ ∀ x : Int, 0 ≤ x → x < 2147483648 → P (.int x),
  fun _ _ _ _ _ ⟨c, k, e, h1, h2, h3, h4, h⟩ m _ => ⟨c, k, e, h1, h2, h3, h4, fun x a b => m _ (h x a b)⟩⟩
def conDraw : ConS Nat := ⟨fun st n sl P => ∃ (v : V) (top : Int), IsDraw st v ∧ sl = [.raw v, .d (.int top)] ∧ 0 < top ∧ top < 1000000000 ∧ n < manyDraws ∧ ∀ x : Int, 0 ≤ x → x < top → P (.int x) (n + 1),
  fun _ _ _ _ _ ⟨v, top, h0, e, h1, h2, h3, h⟩ m => ⟨v, top, h0, e, h1, h2, h3, fun x a b => m _ _ (h x a b)⟩⟩
section
variable {P : Program} {w : World} {K : PySem.W.Frag} {mg : Str → Option Value} {base : Heap} {f f2 : Addr} {fd fd2 : FuncData} {k : Nat}
theorem valV_at {kvs : List (Key × V)} {k : Key} {v : V} (h : valV kvs k = some v) : (valV kvs k) = some v := h
theorem put_spot {b c : Addr} {k j : Int} : putK [((.inr "cells" : Key), V.ref b), (.inr "left", .ref c), (.inr "spot", .int k)] (.inr "spot") (V.int j) = [(.inr "cells", .ref b), (.inr "left", .ref c), (.inr "spot", .int j)] := by
  have e : ∀ x y : Str, decide ((Sum.inr x : Key) = Sum.inr y) = decide (x = y) := key_rr
  simp [putK, e]
  decide
theorem get_cells {b c : Addr} {k : Int} : valV [((.inr "cells" : Key), V.ref b), (.inr "left", .ref c), (.inr "spot", .int k)] (.inr "cells") = some (.ref b) := valV_pos rfl
theorem get_left {b c : Addr} {k : Int} : valV [((.inr "cells" : Key), V.ref b), (.inr "left", .ref c), (.inr "spot", .int k)] (.inr "left") = some (.ref c) := by
  rw [valV_neg (by intro z; injection z with z; exact absurd z (by decide))]
  exact valV_pos rfl
theorem get_spot {b c : Addr} {k : Int} : valV [((.inr "cells" : Key), V.ref b), (.inr "left", .ref c), (.inr "spot", .int k)] (.inr "spot") = some (.int k) := by
  rw [valV_neg (by intro z; injection z with z; exact absurd z (by decide)), valV_neg (by intro z; injection z with z; exact absurd z (by decide))]
  exact valV_pos rfl
theorem atI_int {ns : List Int} {i : Int} (h0 : 0 ≤ i) (h1 : i < ns.length) : ∃ x, ns[i.toNat]? = some x ∧ atI (ns.map V.int) i = some (.int x) ∧ ixN (ns.map V.int).length i = some i.toNat := by
  have hl : i.toNat < ns.length := by omega
  refine ⟨ns[i.toNat], List.getElem?_eq_getElem hl, ?_, by unfold ixN; rw [if_pos h0, if_pos (by rw [List.length_map]; exact h1)]⟩
  have e : atI (ns.map V.int) ((i.toNat : Nat) : Int) = some (.int ns[i.toNat]) := atI_nat (by simp [List.getElem?_map, List.getElem?_eq_getElem hl])
  rw [Int.toNat_of_nonneg h0] at e
  exact e
theorem dget_at {H : Hp} {a : Addr} {kvs : List (Key × V)} {x : Str} {v : V} (e : H a = some (.dK kvs)) (h : valV kvs (.inr x) = some v) : DGet H a (.str x) (some v) := by
  have q : DGet H a (kV (.inr x)) (valV kvs (.inr x)) := DGet.k e
  rw [h] at q
  exact q
theorem ints_lay : ∀ l : List Int, PyData.canLayAll0 (toPs (l.map Dat.int)) = true ∧ PyData.depthAll (toPs (l.map Dat.int)) = 0
  | [] => ⟨rfl, rfl⟩
  | x :: l => by
    have ih := ints_lay l
    rw [List.map_cons, toPs, PyData.canLayAll0, PyData.depthAll, ih.1, ih.2]
    exact ⟨rfl, rfl⟩
theorem ints_shaped (l : List Int) : SeqAt.shaped (toP (.lst (l.map Dat.int))) = true := by
  have h := ints_lay l
  unfold SeqAt.shaped
  rw [toP, PyData.canLay0, PyData.depth, h.1, h.2]
  rfl
theorem ints_dv {K : PySem.W.Frag} {S : Addr → Prop} {H : Hp} : ∀ l : List Int, DvL K S H (l.map Dat.int) (l.map V.int)
  | [] => rfl
  | x :: l => ⟨_, _, rfl, rfl, ints_dv l⟩
theorem ints_ne (l : List Int) : PyData.eqv (toP (.lst (l.map Dat.int))) (toP (.lst [])) = l.isEmpty := by
  cases l with
  | nil => rfl
  | cons x l => rfl
end
end DL
namespace K01
open PySem PySem.Spec PyProof.Rows L2 DL
section
variable {P : Program} {w : World} {K : PySem.W.Frag} {mg : Str → Option Value} {base : Heap} {f f2 : Addr} {fd fd2 : FuncData} {k : Nat}
abbrev s__law_mixed : Stmt := topS 23
theorem sc__law_mixed : FnScope ["cell", "k", "turned"] ["cell", "k"] (defScope s__law_mixed) := ⟨rfl, rfl, rfl, by decide +kernel, rfl, by decide +kernel, by decide +kernel⟩
-- calls [] consts []
theorem mul_s {i j : Int} (h : -(2 ^ 64) < i ∧ i < 2 ^ 64) : CMul i j := .inl h
theorem mul_t {i j : Int} (h : -(2 ^ 64) < j ∧ j < 2 ^ 64) : CMul i j := .inr h
theorem ok_law_mixed (F : Fun K "_law_mixed" "_law_mixed" s__law_mixed f fd) : FnOk P w K mg base CX0 (k + 1) f fd ["cell", "k"] (spD K conMix) := by
  refine fn_pure F sc__law_mixed (fun ds P X ⟨c, k, e, _⟩ => by rw [e]; rfl) fun cdv A outer s H S hS hr => ?_
  have nd := sc__law_mixed.nd
  refine ⟨_, (db_cons (ds_set 2 (de_add (de_add (de_mod (de_mulI (de_mulI (de_var 0) (de_add de_int (de_mulI de_int (de_var 1)))) de_int) de_int) (de_mulI (de_mulI de_int (de_var 1)) (de_var 1))) (de_mulI de_int (de_var 1))) nd) (db_one (ds_ret (de_fdiv (de_mod (de_mulI (de_var 2) de_int) de_int) de_int)))), ?_⟩
  rintro ds R X ⟨c, j, rfl, hc0, hc1, hj0, hj1, h⟩
  ((try dsimp only); refine rd_here rfl ?_; (try dsimp only))
  ((try dsimp only); refine rd_here rfl ?_; (try dsimp only))
  refine ⟨.inl (by decide), ?_⟩
  refine ⟨.inl ⟨by omega, by omega⟩, ?_⟩
  refine ⟨.inr (by decide), ?_⟩
  refine ⟨(show (0 : Int) < 2147483647 by decide), ?_⟩
  ((try dsimp only); refine rd_here rfl ?_; (try dsimp only))
  refine ⟨.inl (by decide), ?_⟩
  ((try dsimp only); refine rd_here rfl ?_; (try dsimp only))
  refine ⟨.inr ⟨by omega, by omega⟩, ?_⟩
  dsimp only
  rw [addD_int]
  ((try dsimp only); refine rd_here rfl ?_; (try dsimp only))
  refine ⟨.inl (by decide), ?_⟩
  dsimp only
  rw [addD_int]
  ((try dsimp only); refine rd_here rfl ?_; (try dsimp only))
  refine ⟨.inr (by decide), ?_⟩
  refine ⟨(show (0 : Int) < 2147483629 by decide), ?_⟩
  refine ⟨⟨(show (0 : Int) < 7 by decide), (show (7 : Int) < 1073741824 by decide)⟩, ?_⟩
  refine h _ ?_ ?_
  · exact Int.ediv_nonneg (Int.emod_nonneg _ (by decide)) (by decide)
  · exact Int.lt_of_le_of_lt (Int.ediv_le_self _ (Int.emod_nonneg _ (by decide))) (Int.lt_trans (Int.emod_lt_of_pos _ (by decide)) (by decide))
abbrev s__law_draw : Stmt := topS 25
theorem sc__law_draw : FnScope ["m", "top", "k", "spot", "cell"] ["m", "top"] (defScope s__law_draw) := ⟨rfl, rfl, rfl, by decide +kernel, rfl, by decide +kernel, by decide +kernel⟩
theorem draw_cells {cells : List Int} (h : ∀ x ∈ cells, (0 : Int) ≤ x ∧ x < 2147483648) {n : Nat} {x : Int} (e : cells[n]? = some x) : 0 ≤ x ∧ x < 2147483648 := h x (List.mem_of_getElem? e)
theorem ok_law_draw (B : Bt mg) (F__law_mixed : Callee P w K mg base "_law_mixed" k ["cell", "k"] conMix) (F : Fun K "_law_draw" "_law_draw" s__law_draw f fd) : FnOk P w K mg base CX0 (k + 1) f fd ["m", "top"] (spS K conDraw) := by
  obtain ⟨fm, fdm, Fm, hm, hkp, hbm⟩ := F__law_mixed.ex
  refine F.ok sc__law_draw (fun vs H Q E ⟨S, st, i, sl, _, _, _, hv, v, top, _, e, _⟩ => by rw [hv.len, e]; rfl) fun cdv A outer s H vs Q E hr h => ?_
  obtain ⟨S, st, n, sl, hS, hf, h0, hv, v, top, ⟨a, b, c, L, nab, nac, nbc, rfl, rfl⟩, rfl, ht0, ht1, hn, hq⟩ := h
  obtain ⟨v1, r1, rfl, hv1, v2, r2, rfl, hv2, hr2⟩ := hv
  cases (hv1 : v1 = .ref a)
  cases (hv2 : v2 = .int top)
  cases (hr2 : r2 = [])
  obtain ⟨j, cells, left, hj, hc64, hcells, hL, ea, eb, ec⟩ := h0
  have nd := sc__law_draw.nd

  refine ⟨_, pss_cons (ps_set (i := 2) nd rfl (.inl rfl) (pe_dget (hu_of hr) (pv 0) pe_str (fun _ _ => rfl)))
    (pss_cons (ps_dput (hu_of hr) (pv 0) pe_str (pe_op op_add (pv 2) pe_int) rfl)
    (pss_cons (ps_if (pt_cmpR (op_neD hr.units) (pe_dget (hu_of hr) (pv 0) pe_str (fun _ _ => rfl)) (pe_lst pa_nil) (by rfl))
      (pss_cons (ps_set (i := 3) nd rfl (.inl rfl) (pe_op op_mod (pv 2) (pe_callB call_len (by rfl) B.len PySem.boot_len (pa_cons (pe_dget (hu_of hr) (pv 0) pe_str (fun _ _ => rfl)) pa_nil))))
      (pss_cons (ps_set (i := 4) nd rfl (.inl rfl) (pe_ix ix_list (pe_dget (hu_of hr) (pv 0) pe_str (fun _ _ => rfl)) (pv 3) (fun _ _ => rfl)))
      (pss_one (ps_if (pt_cmpR op_gt (pv 4) pe_int (by rfl))
        (pss_cons (ps_asg (pe_op op_fdiv (pv 4) (pv 1)) (pg_sub (pe_dget (hu_of hr) (pv 0) pe_str (fun _ _ => rfl)) (pv 3) set_list))
        (pss_one (ps_ret (pe_op op_mod (pv 4) (pv 1)))))
        pss_nil)))) pss_nil)
    (pss_one (ps_ret (pe_op op_mod (pe_call Fm (hr.mono (by omega)) (by rfl) hm hkp hbm .nil pass0 (pa_cons (pe_call Fm (hr.mono (by omega)) (by rfl) hm hkp hbm .nil pass0 (pa_cons (pe_op op_add (pe_ix ix_list (pe_dget (hu_of hr) (pv 0) pe_str (fun _ _ => rfl)) (pe_op op_mod (pv 2) pe_int) (fun _ _ => rfl)) (pe_op op_mul pe_int (pe_op op_fdiv (pv 2) pe_int))) (pa_cons (pv 2) pa_nil))) (pa_cons (pe_op op_add (pv 2) pe_int) pa_nil))) (pv 1)))))), ?_⟩
  have mL : ∀ {n : Nat} {x : V} {σ : L2.St}, True := fun {n x σ} => trivial
  refine ⟨_, rfl, a, .int j, rfl, dget_at ea get_spot, ?_⟩
  let H1 := upd H a (.dK [(.inr "cells", .ref b), (.inr "left", .ref c), (.inr "spot", .int ((j : Int) + 1))])
  have e1a : H1 a = some (.dK [(.inr "cells", .ref b), (.inr "left", .ref c), (.inr "spot", .int ((j : Int) + 1))]) := upd_same
  have e1b : H1 b = some (.lst (cells.map V.int)) := by show upd H a _ b = _; rw [upd_ne (fun z => nab z.symm)]; exact eb
  have e1c : H1 c = some (.lst (left.map V.int)) := by show upd H a _ c = _; rw [upd_ne (fun z => nac z.symm)]; exact ec
  refine ⟨_, rfl, _, _, rfl, rfl, _, rfl, a, H1, rfl, ?_, ?_⟩
  · have q : DPut H a (kV (.inr "spot")) (.int ((j : Int) + 1)) (upd H a (.dK (putK [((.inr "cells" : Key), V.ref b), (.inr "left", .ref c), (.inr "spot", .int (j : Int))] (.inr "spot") (.int ((j : Int) + 1))))) := DPut.k ea (show (3 : Nat) < sizeLine by decide)
    rw [put_spot] at q
    exact q
  refine ⟨_, rfl, a, .ref c, rfl, dget_at e1a get_left, by decide, fun p np => ?_⟩
  let H2 := upd H1 p (.lst [])
  have n2 : ∀ x u, H1 x = some u → H2 x = some u := fun x u e => by show upd H1 p _ x = _; rw [upd_ne (ne_of_none e np)]; exact e
  have e2a := n2 _ _ e1a
  have e2b := n2 _ _ e1b
  have e2c := n2 _ _ e1c
  have dvc : Dv K (fun _ => False) H2 (.lst (left.map Dat.int)) (.ref c) := ⟨c, _, rfl, id, e2c, ints_dv left⟩
  have dvp : Dv K (fun _ => False) H2 (.lst []) (.ref p) := ⟨p, [], rfl, id, upd_same, rfl⟩
  refine ⟨_, _, dp_of _ _ dvc (SeqAt.canLay_of_shaped (ints_shaped left)), dp_of _ _ dvp rfl, ints_shaped left, rfl, ?_⟩
  refine ⟨_, rfl, ?_⟩
  rw [ints_ne left]
  -- the end by the digits of a cell, and the end by mixing
  have fin : ∀ (cells' left' : List Int) (H' : Hp), (∀ x u, x ≠ a → x ≠ b → x ≠ c → H x = some u → H' x = some u) → cells'.length = 64 → (∀ x ∈ cells', 0 ≤ x ∧ x < 2147483648) → left'.length = L → H' a = some (.dK [(.inr "cells", .ref b), (.inr "left", .ref c), (.inr "spot", .int ((j : Int) + 1))]) → H' b = some (.lst (cells'.map V.int)) → H' c = some (.lst (left'.map V.int)) → ∀ y : Int, 0 ≤ y → y < top → Q (.int y) H' := fun cells' left' H' hk h64 hc hl ha hb' hc' y y0 y1 =>
    hq y y0 y1 (.int y) H' (fun x u nx e => hk x u (fun z => nx (.inl z)) (fun z => nx (.inr (.inl z))) (fun z => nx (.inr (.inr z))) e) ⟨j + 1, cells', left', by omega, h64, hc, hl, ha, hb', hc'⟩ rfl
  have k2 : ∀ x u, x ≠ a → x ≠ b → x ≠ c → H x = some u → H2 x = some u := fun x u xa _ _ e => n2 x u (by show upd H a _ x = _; rw [upd_ne xa]; exact e)
  cases left with
  | nil =>
    refine iteF ?_
    refine ⟨_, rfl, a, .ref b, rfl, dget_at e2a get_cells, ?_⟩
    obtain ⟨x, hx, hat, hix⟩ := atI_int (ns := cells) (i := (j : Int) % 64) (Int.emod_nonneg _ (by decide)) (by rw [hc64]; exact Int.emod_lt_of_pos _ (by decide))
    obtain ⟨x0, x1⟩ := draw_cells hcells hx
    have hm31 : 31 * ((j : Int) / 64) < 2000000000000000 ∧ 0 ≤ 31 * ((j : Int) / 64) := by
      unfold manyDraws at hn
      omega
    have hjb : (j : Int) < 1000000000000000 := by
      unfold manyDraws at hn
      omega
    refine ⟨_, rfl, _, _, rfl, rfl, (show (0 : Int) < 64 by decide), b, _, _, .int x, rfl, rfl, .inl (.inl e2b), hat, ?_⟩
    refine ⟨_, rfl, _, _, rfl, rfl, ⟨(show (0 : Int) < 64 by decide), (show (64 : Int) < 1073741824 by decide)⟩, ?_⟩
    refine ⟨_, _, rfl, rfl, .inl (by decide), _, _, rfl, rfl, _, rfl, ?_⟩
    refine ⟨fun _ => False, [.int _, .int _], fun _ z => z.elim, ⟨_, _, rfl, rfl, _, _, rfl, rfl, rfl⟩, _, _, rfl, by omega, by omega, by omega, by omega, fun y y0 y1 v H3 ex3 hd3 => ?_⟩
    cases (hd3 : v = .int y)
    refine ⟨_, rfl, _, _, rfl, rfl, ?_⟩
    refine ⟨fun _ => False, [.int _, .int _], fun _ z => z.elim, ⟨_, _, rfl, rfl, _, _, rfl, rfl, rfl⟩, _, _, rfl, by omega, by omega, by omega, by omega, fun z z0 z1 v H4 ex4 hd4 => ?_⟩
    cases (hd4 : v = .int z)
    refine ⟨_, rfl, _, _, rfl, rfl, ht0, ?_⟩
    exact fin cells _ H4 (fun u o xa xb xc e => ex4 u o (ex3 u o (k2 u o xa xb xc e))) hc64 hcells hL (ex4 _ _ (ex3 _ _ e2a)) (ex4 _ _ (ex3 _ _ e2b)) (ex4 _ _ (ex3 _ _ e2c)) _ (Int.emod_nonneg _ (by omega)) (Int.emod_lt_of_pos _ ht0)
  | cons l0 lr =>
    refine iteT ?_
    refine ⟨_, rfl, _, rfl, a, .ref c, rfl, dget_at e2a get_left, ?_⟩
    refine ⟨_, _, rfl, .inl ⟨_, .inl (.inl e2c), rfl⟩, _, _, rfl, rfl, (by rw [List.length_map, List.length_cons]; omega), ?_⟩
    refine ⟨_, rfl, a, .ref c, rfl, dget_at e2a get_left, _, rfl, ?_⟩
    obtain ⟨x, hx, hat, hix⟩ := atI_int (ns := l0 :: lr) (i := (j : Int) % ((((l0 :: lr).map V.int).length : Nat) : Int)) (Int.emod_nonneg _ (by rw [List.length_map, List.length_cons]; omega)) (by rw [List.length_map]; exact Int.emod_lt_of_pos _ (by rw [List.length_cons]; omega))
    refine ⟨c, _, _, .int x, rfl, rfl, .inl (.inl e2c), hat, ?_⟩
    refine ⟨_, rfl, _, _, rfl, rfl, _, rfl, ?_⟩
    show if decide (0 < x) = true then _ else _
    by_cases hx0 : 0 < x
    · rw [if_pos (decide_eq_true hx0)]
      refine ⟨_, rfl, _, rfl, _, _, rfl, rfl, ⟨ht0, by omega⟩, ?_⟩
      refine ⟨_, rfl, a, .ref c, rfl, dget_at e2a get_left, _, rfl, ?_⟩
      refine ⟨c, _, _, _, rfl, rfl, e2c, hix, ?_⟩
      refine ⟨_, rfl, _, rfl, _, _, rfl, rfl, ht0, ?_⟩
      have ca : a ≠ c := nac
      refine fin cells ((l0 :: lr).set ((j : Int) % ((((l0 :: lr).map V.int).length : Nat) : Int)).toNat (x / top)) _ (fun u o xa xb xc e => by rw [upd_ne xc]; exact k2 u o xa xb xc e) hc64 hcells (by rw [List.length_set]; exact hL) (by rw [upd_ne nac]; exact e2a) (by rw [upd_ne nbc]; exact e2b) (by rw [upd_same, List.map_set]) _ (Int.emod_nonneg _ (by omega)) (Int.emod_lt_of_pos _ ht0)
    · rw [if_neg (by rw [decide_eq_true_eq]; exact hx0)]
      refine ⟨_, rfl, a, .ref b, rfl, dget_at e2a get_cells, ?_⟩
      obtain ⟨x, hx, hat, hix⟩ := atI_int (ns := cells) (i := (j : Int) % 64) (Int.emod_nonneg _ (by decide)) (by rw [hc64]; exact Int.emod_lt_of_pos _ (by decide))
      obtain ⟨x0, x1⟩ := draw_cells hcells hx
      have hm31 : 31 * ((j : Int) / 64) < 2000000000000000 ∧ 0 ≤ 31 * ((j : Int) / 64) := by
        unfold manyDraws at hn
        omega
      have hjb : (j : Int) < 1000000000000000 := by
        unfold manyDraws at hn
        omega
      refine ⟨_, rfl, _, _, rfl, rfl, (show (0 : Int) < 64 by decide), b, _, _, .int x, rfl, rfl, .inl (.inl e2b), hat, ?_⟩
      refine ⟨_, rfl, _, _, rfl, rfl, ⟨(show (0 : Int) < 64 by decide), (show (64 : Int) < 1073741824 by decide)⟩, ?_⟩
      refine ⟨_, _, rfl, rfl, .inl (by decide), _, _, rfl, rfl, _, rfl, ?_⟩
      refine ⟨fun _ => False, [.int _, .int _], fun _ z => z.elim, ⟨_, _, rfl, rfl, _, _, rfl, rfl, rfl⟩, _, _, rfl, by omega, by omega, by omega, by omega, fun y y0 y1 v H3 ex3 hd3 => ?_⟩
      cases (hd3 : v = .int y)
      refine ⟨_, rfl, _, _, rfl, rfl, ?_⟩
      refine ⟨fun _ => False, [.int _, .int _], fun _ z => z.elim, ⟨_, _, rfl, rfl, _, _, rfl, rfl, rfl⟩, _, _, rfl, by omega, by omega, by omega, by omega, fun z z0 z1 v H4 ex4 hd4 => ?_⟩
      cases (hd4 : v = .int z)
      refine ⟨_, rfl, _, _, rfl, rfl, ht0, ?_⟩
      exact fin cells _ H4 (fun u o xa xb xc e => ex4 u o (ex3 u o (k2 u o xa xb xc e))) hc64 hcells hL (ex4 _ _ (ex3 _ _ e2a)) (ex4 _ _ (ex3 _ _ e2b)) (ex4 _ _ (ex3 _ _ e2c)) _ (Int.emod_nonneg _ (by omega)) (Int.emod_lt_of_pos _ ht0)
end
end K01
namespace DL
open PySem PySem.Spec PyProof.Rows L2
section
variable {G : Ctx} {S S' : Addr → Prop} {σ : L2.St} {H H' : Hp} {ρ : List Slot} {pos : Pos} {a b e : Expr} {Fa Fb F : FE}
/-- name[e] of a list of one's own -/
theorem de_ixOwn {x : Str} {p : Pos} (i : Nat) (hb : DE G b Fb) (hs : PlainIx b := by exact fun _ _ => rfl) (hN : G.X.N[i]? = some x := by rfl) (hv : Vis G.X.env.scope x := by first | exact Or.inl rfl | exact Or.inr (Or.inl rfl) | exact Or.inr (Or.inr rfl)) (hd : (x == ("__debug__" : Str)) = false := by decide)
    (hcd : (x == ("__classdict__" : Str)) = false := by decide) : DE G (.Subscript (.Name x p) b pos) (fun ρ P => ownL ρ i fun ds => Fb ρ fun y => isI y fun k => someD (atI ds k) P) := by
  obtain ⟨tb, h2, l2⟩ := hb.ex
  refine ⟨⟨_, pe_ix ix_list (pe_var hN hv hd hcd) h2 hs, fun S σ H ρ P Q g h q => ?_⟩⟩
  obtain ⟨ds, es, hf⟩ := ownL_inv h
  obtain ⟨p, xs, e1, sp, e0, eh, hl⟩ := g.slot_own es
  refine ⟨.ref p, e1, l2 S σ H ρ _ _ g hf fun v d H1 st hv hp => ?_⟩
  obtain ⟨k, rfl, hp⟩ := isI_inv hp
  cases dv_int hv
  obtain ⟨d, ed, hp⟩ := someD_inv hp
  have g1 := g.step st
  obtain ⟨p', xs', e1', sp', e0', eh', hl'⟩ := g1.slot_own es
  cases e1.symm.trans e1'
  obtain ⟨z, ez, hz⟩ := atI_dv hl' ed
  exact ⟨p, xs', k, z, rfl, rfl, .inl (.inl eh'), ez, q z d H1 st hz hp⟩
/-- len(name) of a list of one's own -/
theorem de_lenOwn {x : Str} {p p2 : Pos} (i : Nat) (hm : G.X.mg "len" = none) (hN : G.X.N[i]? = some x := by rfl) (hv : Vis G.X.env.scope x := by first | exact Or.inl rfl | exact Or.inr (Or.inl rfl) | exact Or.inr (Or.inr rfl)) (hd : (x == ("__debug__" : Str)) = false := by decide)
    (hcd : (x == ("__classdict__" : Str)) = false := by decide) (hg : Gl G.X "len" := by rfl) (he : starEach [.Name x p] G.X.env = (false, eval (.Name x p) G.X.env) :: starEach [] G.X.env := by rfl) : DE G (.Call (.Name "len" p2) [.Name x p] [] pos) (fun ρ P => ownL ρ i fun ds => P (.int (ds.length : Nat))) := by
  refine ⟨⟨_, pe_callB call_len hg hm PySem.boot_len (pa_cons (pe_var hN hv hd hcd) pa_nil he) (he := he), fun S σ H ρ P Q g h q => ?_⟩⟩
  obtain ⟨ds, es, hf⟩ := ownL_inv h
  obtain ⟨p, xs, e1, sp, e0, eh, hl⟩ := g.slot_own es
  exact ⟨.ref p, e1, _, _, rfl, .inl ⟨xs, .inl (.inl eh), rfl⟩, q _ (.int (xs.length : Nat)) H (Stp.refl g.wld) rfl (by rw [hl.len]; exact hf)⟩
theorem DvL.set {K : PySem.W.Frag} : ∀ {ds : List Dat} {vs : List V} (n : Nat) {d : Dat} {v : V}, DvL K S H ds vs → Dv K S H d v → DvL K S H (ds.set n d) (vs.set n v)
  | [], vs, n, d, v, e, _ => by cases (e : _ = []); exact rfl
  | d0 :: ds, vs, 0, d, v, e, h => by
    obtain ⟨v0, r, rfl, h1, h2⟩ := (e : ∃ v r, vs = v :: r ∧ Dv K S H d0 v ∧ DvL K S H ds r)
    exact ⟨v, r, rfl, h, h2⟩
  | d0 :: ds, vs, n + 1, d, v, e, h => by
    obtain ⟨v0, r, rfl, h1, h2⟩ := (e : ∃ v r, vs = v :: r ∧ Dv K S H d0 v ∧ DvL K S H ds r)
    exact ⟨v0, r.set n v, rfl, h1, h2.set n h⟩
/-- name[b] = e of a list of one's own -/
theorem ds_putOwn {x : Str} {np sp : Pos} (i : Nat) (he : DE G e F) (hb : DE G b Fb) (hN : G.X.N[i]? = some x := by rfl) (hv : Vis G.X.env.scope x := by first | exact Or.inl rfl | exact Or.inr (Or.inl rfl) | exact Or.inr (Or.inr rfl)) (hd : (x == ("__debug__" : Str)) = false := by decide)
    (hcd : (x == ("__classdict__" : Str)) = false := by decide) (hs : swapsWithSole [.Subscript (.Name x np) b sp] e pos.line G.X.env = pure false := by rfl) (hw : swappedStores [.Subscript (.Name x np) b sp] e G.X.env = pure none := by rfl)
    (h1 : (assignEach [.Subscript (.Name x np) b sp] G.X.env).map (·.2) = [assign (.Subscript (.Name x np) b sp) G.X.env] := by rfl)
    (hw2 : ∀ z, assign (.Subscript (.Name x np) b sp) G.X.env z = (do let u ← holding [z] (eval (.Name x np) G.X.env); let k ← holding [z, u] (eval b G.X.env); standAt sp; holding [z, u, k] (setItem u k z); release [z, u, k] []) := by intro _; rfl) :
    DS G (.Assign [.Subscript (.Name x np) b sp] e pos) (fun D ρ => F ρ fun v => ownL ρ i fun ds => Fb ρ fun y => isI y fun k => someD (ixN ds.length k) fun j => D.nx (ρ.set i (.own (ds.set j v)))) := by
  obtain ⟨t, h, l⟩ := he.ex
  obtain ⟨tb, h2, l2⟩ := hb.ex
  refine ⟨⟨_, ps_asg h (pg_sub (pe_var hN hv hd hcd) h2 set_list hw2) hs hw h1, fun S σ H ρ D Dh g hf q => ?_⟩⟩
  refine l S σ H ρ _ _ g hf fun v d H1 st hv' hp => ?_
  have g1 := g.step st
  obtain ⟨ds, es, hf⟩ := ownL_inv hp
  obtain ⟨p, xs, e1, sp, e0, eh, hl⟩ := g1.slot_own es
  refine ⟨.ref p, e1, l2 S σ H1 ρ _ _ g1 hf fun v2 d2 H2 st2 hv2 hp => ?_⟩
  obtain ⟨k, rfl, hp⟩ := isI_inv hp
  cases dv_int hv2
  obtain ⟨j, ej, hp⟩ := someD_inv hp
  have g2 := g1.step st2
  obtain ⟨p', xs', e1', sp', e0', eh', hl'⟩ := g2.slot_own es
  cases e1.symm.trans e1'
  have fr : Fr S H2 S (upd H2 p (.lst (xs'.set j v))) := fun b u n e => ⟨n, by rw [upd_ne (fun z => n (by rw [z]; exact sp'))]; exact e⟩
  obtain ⟨g3, fr3⟩ := g2.write (o := .lst (xs'.set j v)) (s' := .own (ds.set j d)) es e1' rfl rfl ⟨p, xs'.set j v, rfl, sp', e0', upd_same, DvL.move fr _ _ (hl'.set j (st2.dv g1 hv'))⟩
  exact ⟨p, xs', k, j, rfl, rfl, eh', by rw [hl'.len]; exact ej, q.nx _ _ _ _ g3 (Fr.trans (st.fr g) (Fr.trans (st2.fr g1) fr3)) hp⟩
/-! ### a list that is handed in from outside, of ints -/
def rdScr (ρ : List Slot) (i : Nat) (P : List Int → Prop) : Prop := match ρ[i]? with
  | some (.scr x) => P x
  | _ => False
theorem rdScr_inv {ρ : List Slot} {i : Nat} {P : List Int → Prop} (h : rdScr ρ i P) : ∃ x, ρ[i]? = some (.scr x) ∧ P x := by
  unfold rdScr at h
  split at h
  · rename_i x e; exact ⟨x, e, h⟩
  · exact h.elim
theorem rdScr_here {ρ : List Slot} {i : Nat} {ns : List Int} {P : List Int → Prop} (e : ρ[i]? = some (.scr ns)) (h : P ns) : rdScr ρ i P := by unfold rdScr; rw [e]; exact h
theorem Gd.slot_scr (g : Gd G S σ H ρ) {i : Nat} {ns : List Int} (h : ρ[i]? = some (.scr ns)) : ∃ a, σ[i]? = some (some (.ref a)) ∧ ScrOk G.X.K S H ns (.ref a) := by
  have q := g.slots i _ h
  cases e : σ[i]? with
  | none => rw [e] at q; exact q.elim
  | some o =>
    cases o with
    | none => rw [e] at q; exact q.elim
    | some v =>
      rw [e] at q
      obtain ⟨a, rfl, r⟩ := (q : ScrOk G.X.K S H ns v)
      exact ⟨a, rfl, a, rfl, r⟩
theorem walk_scr {S : Addr → Prop} {H : Hp} {ns : List Int} {p : Addr} (q : ScrOk G.X.K S H ns (.ref p)) : WalkOk G (Itl G.X.K p) (ns.map Dat.int) S H := by
  have all : ∀ (S2 : Addr → Prop) (H2 : Hp), Fr S H S2 H2 → SqL G.X.K H2 p (ns.map V.int) := fun S2 H2 fr => (q.move fr).sq
  refine ⟨fun i S' H' hi fr => ?_, fun i d S' σ' ρ' H' x H2 hd g fr y => ?_, fun S' H' fr => ⟨_, all S' H' fr, by simp⟩⟩
  · have hl : i < ns.length := by simpa using hi
    exact ⟨_, .int ns[i], all S' H' fr, by simp [List.getElem?_eq_getElem hl]⟩
  · obtain ⟨rfl, y⟩ := y
    rw [List.getElem?_map] at hd
    cases e : ns[i]? with
    | none => rw [e] at hd; cases hd
    | some n =>
      rw [e] at hd
      cases hd
      have q := y _ (all _ _ fr)
      rw [List.getElem?_map, e] at q
      cases q
      exact ⟨Stp.refl g.wld, rfl⟩
theorem di_scr {tg : Expr} {x : Str} {p : Pos} (i : Nat) (hN : G.X.N[i]? = some x := by rfl) (hv : Vis G.X.env.scope x := by first | exact Or.inl rfl | exact Or.inr (Or.inl rfl) | exact Or.inr (Or.inr rfl)) (hd : (x == ("__debug__" : Str)) = false := by decide)
    (hcd : (x == ("__classdict__" : Str)) = false := by decide) : DI G tg (.Name x p) (fun ρ P => rdScr ρ i fun ns => P (ns.map Dat.int)) := by
  refine ⟨⟨_, pi_seq (pe_var hN hv hd hcd), fun S σ H ρ P R g h q => ?_⟩⟩
  obtain ⟨ns, e, h⟩ := rdScr_inv h
  obtain ⟨a, ea, hs⟩ := g.slot_scr e
  exact ⟨_, ea, a, rfl, .inl ⟨⟨_, hs.sq⟩, q _ _ H (Stp.refl g.wld) (walk_scr hs) h⟩⟩
/-- enumerate of it: pairs -/
def enumL : Nat → List Int → List Dat
  | _, [] => []
  | k, n :: ns => .tup [.int (k : Nat), .int n] :: enumL (k + 1) ns
theorem enumL_get : ∀ {ns : List Int} {k i : Nat} {d : Dat}, (enumL k ns)[i]? = some d → ∃ n, ns[i]? = some n ∧ d = .tup [.int ((k + i : Nat) : Int), .int n]
  | [], _, _, _, h => by simp [enumL] at h
  | n :: ns, k, 0, d, h => by
    simp [enumL] at h
    exact ⟨n, rfl, h.symm⟩
  | n :: ns, k, i + 1, d, h => by
    obtain ⟨m, e1, e2⟩ := enumL_get (ns := ns) (k := k + 1) (i := i) (by simpa [enumL] using h)
    exact ⟨m, by simpa using e1, by rw [e2]; congr 3; omega⟩
theorem enumL_len : ∀ (k : Nat) (ns : List Int), (enumL k ns).length = ns.length
  | _, [] => rfl
  | k, n :: ns => by rw [enumL, List.length_cons, List.length_cons, enumL_len (k + 1) ns]
theorem di_enumScr {elts : List Expr} {kk : Nat} {tpos p pp : Pos} {x : Str} (i : Nat) (hm : G.X.mg "enumerate" = none) (hN : G.X.N[i]? = some x := by rfl) (hv : Vis G.X.env.scope x := by first | exact Or.inl rfl | exact Or.inr (Or.inl rfl) | exact Or.inr (Or.inr rfl)) (hd : (x == ("__debug__" : Str)) = false := by decide)
    (hcd : (x == ("__classdict__" : Str)) = false := by decide) (hg : Gl G.X "enumerate" := by rfl) (hs : starEach [.Name x p] G.X.env = [(false, eval (.Name x p) G.X.env)] := by rfl) :
    DI G (.Tuple elts kk tpos) (.Call (.Name "enumerate" pp) [.Name x p] [] pos) (fun ρ P => rdScr ρ i fun ns => P (enumL 0 ns)) := by
  refine ⟨⟨_, pi_enum hg hm (pa_cons (pe_var hN hv hd hcd) pa_nil) hs, fun S σ H ρ P R g h q => ?_⟩⟩
  obtain ⟨ns, e, h⟩ := rdScr_inv h
  obtain ⟨a, ea, hsc⟩ := g.slot_scr e
  have all : ∀ (S2 : Addr → Prop) (H2 : Hp), Fr S H S2 H2 → SqL G.X.K H2 a (ns.map V.int) := fun S2 H2 fr => (hsc.move fr).sq
  refine ⟨_, ea, a, _, rfl, hsc.sq, q _ _ H (Stp.refl g.wld) ⟨fun j S' H' hj fr => ?_, fun j d S' σ' ρ' H' z H2 hd g fr y => ?_, fun S' H' fr => ⟨_, all S' H' fr, by rw [enumL_len, List.length_map]; exact Nat.le_refl _⟩⟩ h⟩
  · rw [enumL_len] at hj
    exact ⟨_, .int ns[j], all S' H' fr, by simp [List.getElem?_eq_getElem hj]⟩
  · obtain ⟨n, e1, rfl⟩ := enumL_get hd
    obtain ⟨T, u, rfl, nT, rfl, y⟩ := y
    have q := y _ (all _ _ fr)
    rw [List.getElem?_map, e1] at q
    cases q
    have s2 : Stp G H' (upd H' T (.tup [.int ((j : Nat) : Int), .int n])) := Stp.new g.wld nT
    exact ⟨s2, T, _, rfl, .inl ⟨g.fresh nT, upd_same⟩, _, _, rfl, by rw [Nat.zero_add]; rfl, _, _, rfl, rfl, rfl⟩
/-- a new object becomes one's own, behind steps that made it -/
theorem Gd.setOwn2 (g : Gd G S σ H ρ) (st : Stp G H H') {i : Nat} {s : Slot} {p : Addr} (np : H p = none) (hs : s.isOwn = true) (h : SlotOk G.X.K (fun a => S a ∨ a = p) G.H0 H' (some (.ref p)) s) :
    Gd G (fun a => S a ∨ a = p) (σ.set i (some (.ref p))) H' (ρ.set i s) ∧ Fr S H (fun a => S a ∨ a = p) H' := by
  have fr : Fr S H (fun a => S a ∨ a = p) H' := fun a u n e => ⟨fun z => z.elim n (ne_of_none e np), st.keep a u (fun z => n (g.sub a z)) e⟩
  have n0 : ∀ a, G.H0 a = none → ¬ G.S0 a := fun a n z => by
    obtain ⟨o, e⟩ := G.s0 a z
    rw [n] at e; cases e
  have old : ∀ (j : Nat) t, ρ[j]? = some t → SlotOk G.X.K (fun a => S a ∨ a = p) G.H0 H' (σ[j]?.join) t := fun j t ht =>
    (g.slots j t ht).move fr (fun _ => .inl) fun a u ow ea e => by
      have q := g.slots j t ht
      obtain ⟨a', u', e1, _, _, e4⟩ := SlotOk.addr q ow
      rw [ea] at e1
      cases e1
      exact st.keep a u (n0 a e4) e
  have other : ∀ (j : Nat) sj, ρ[j]? = some sj → sj.isOwn = true → σ[j]? = some (some (.ref p)) → False := fun j sj hj oj e => by
    have q := g.slots j sj hj
    rw [e] at q
    obtain ⟨a, u, e1, _, e2, _⟩ := SlotOk.addr q oj
    cases e1
    rw [np] at e2; cases e2
  obtain ⟨a0, u0, ea0, _, eh0, _⟩ := SlotOk.addr h hs
  cases ea0
  refine ⟨⟨st.wld, fun a ha => ?_, fun a ha => .inl (g.sub a ha), by simp [g.len], fun j t ht => ?_, fun j k sj sk w h1 h2 o1 o2 e1 e2 => ?_⟩, fr⟩
  · rcases ha with ha | rfl
    · obtain ⟨u, e⟩ := g.all a ha
      exact st.has a u e
    · exact ⟨u0, eh0⟩
  · rw [getset] at ht
    rw [getset]
    by_cases hj : j = i
    · subst hj
      rw [if_pos rfl] at ht ⊢
      have hl := g.len
      by_cases hi : j < ρ.length
      · rw [if_pos hi] at ht
        cases ht
        rw [if_pos (by omega)]
        exact h
      · rw [if_neg hi] at ht; cases ht
    · rw [if_neg hj] at ht ⊢
      exact old j t ht
  · rw [getset] at h1 h2
    rw [getset] at e1 e2
    by_cases hj : j = i
    · by_cases hk : k = i
      · omega
      · rw [if_pos hj] at e1
        split at e1
        · cases e1
          rw [if_neg hk] at h2 e2
          exact (other k sk h2 o2 e2).elim
        · cases e1
    · by_cases hk : k = i
      · rw [if_pos hk] at e2
        split at e2
        · cases e2
          rw [if_neg hj] at h1 e1
          exact (other j sj h1 o1 e1).elim
        · cases e2
      · rw [if_neg hj] at h1 e1
        rw [if_neg hk] at h2 e2
        exact g.apart j k sj sk w h1 h2 o1 o2 e1 e2
/-- name = [.. for ..], the list one's own -/
theorem ds_setLcOwn {y : Str} {py spos : Pos} {elt tg iter : Expr} {ifs : List Expr} {scope : Scope} {x : Str} (i j : Nat) {F : FI} {Ft : FT} {Fe : FE} (hc : G.X.calm = true) (hN : G.X.N.Nodup) (hsw : swapsWith (.ListComp elt [⟨tg, iter, ifs, 0⟩] scope pos) (some (.Name y py)) spos.line G.X.env = pure true) (hi : DI G tg iter F) (ok : BlkOk G.X.N G.X.env.scope scope [(x, j)])
    (hg : ∀ (s : Shared) (H : Hp) (C : Addr) (cl : List (Str × Addr)) (fp : List Addr), PG (G.X.blk s H scope (compEnvC scope cl C G.X.env) fp) tg (gName j)) (ht : ∀ (s : Shared) (H : Hp) (C : Addr) (cl : List (Str × Addr)) (fp : List Addr), DTs (G.blk s H scope (compEnvC scope cl C G.X.env) fp) ifs Ft)
    (he : ∀ (s : Shared) (H : Hp) (C : Addr) (cl : List (Str × Addr)) (fp : List Addr), DE (G.blk s H scope (compEnvC scope cl C G.X.env) fp) elt Fe) (hy : G.X.N[i]? = some y := by rfl) (hyl : G.X.env.scope.names.lookup y = some .local := by rfl) (hs : ∀ x, foldedSetIterable iter G.X.env x = pure x := by intro _; rfl) :
    DS G (.Assign [.Name y py] (.ListComp elt [⟨tg, iter, ifs, 0⟩] scope pos) spos) (fun D ρ => F ρ fun items => compF (gNm j) Ft Fe (ρ.set j .un) items [] fun ds => D.nx (ρ.set i (.own ds))) := by
  obtain ⟨w, h1, l1⟩ := hi.ex
  refine ⟨⟨_, ps_setLc (i := i) (own := [(x, j)]) hc hN hy hyl hsw h1 ok hg (fun s H C cl fp => (ht s H C cl fp).blk) (fun s H C cl fp => (he s H C cl fp).blk) hs, fun S σ H ρ D Dh g h q => ?_⟩⟩
  refine lift_lc j l1 S σ H ρ _ _ g h fun p xs ds H' np st e hv hp => ?_
  obtain ⟨g2, fr⟩ := g.setOwn2 (i := i) (s := .own ds) st np rfl ⟨p, xs, rfl, .inr rfl, g.fresh0 np, e, hv⟩
  exact q.nx _ _ H' _ g2 fr hp
end
end DL
namespace DL
open PySem PySem.Spec PyProof.Rows L2
/-! ### defs whose arguments are slots: data, raw values, the script -/
structure ConL where
  C : List Slot → (Dat → Prop) → Prop
  mono : ∀ sl P P', C sl P → (∀ d, P d → P' d) → C sl P'
def spL (K : PySem.W.Frag) (C : ConL) : Sp := fun vs H Q E => ∃ (S : Addr → Prop) (sl : List Slot), (∀ a, S a → ∃ o, H a = some o) ∧ SlL K S H sl vs ∧ C.C sl (fun d => ∀ v H', Evl.Ex H H' → Dv K S H' d v → Q v H')
theorem fn_pureL {P : Program} {w : World} {K : PySem.W.Frag} {mg : Str → Option Value} {base : Heap} {x qual : Str} {st : Stmt} {f : Addr} {fd : FuncData} {N ps : List Str} {k : Nat} {C : ConL} (F : Fun K x qual st f fd) (Sc : FnScope N ps (defScope st)) (len : ∀ sl P, C.C sl P → sl.length = ps.length)
    (hbody : ∀ (cdv : Value) (A : Around) (outer : List Env) (s : Shared) (H : Hp) (S : Addr → Prop) (hS : ∀ a, S a → ∃ o, H a = some o), Room k (A.deeper (envOfC qual (defScope st) s.heap.objs.size f cdv)) →
      ∃ T, DB (ctx0 P w K mg base N qual (defScope st) f cdv A outer s H S hS) (defBody st) T ∧ ∀ sl R, C.C sl R → T { nx := fun _ => R .non, rt := R } (startS N.length sl)) : FnOk P w K mg base CX0 (k + 1) f fd ps (spL K C) := by
  have hpl : ps.length ≤ N.length := by have := congrArg List.length Sc.pre; rw [List.length_take] at this; omega
  refine F.ok Sc (fun vs H Q E ⟨S, sl, _, hv, hc⟩ => by rw [hv.len]; exact len _ _ hc) fun cdv A outer s H vs Q E hr h => ?_
  obtain ⟨S, sl, hS, hv, hc⟩ := h
  obtain ⟨T, ⟨t, hp, l⟩, hT⟩ := hbody cdv A outer s H S hS hr
  refine ⟨t, hp, ?_⟩
  refine l S _ H (startS N.length sl) _ _ (gd_startS (G := ctx0 P w K mg base N qual (defScope st) f cdv A outer s H S hS) (fun _ _ e => e) hS hv (by rw [len _ _ hc]; exact hpl)) (hT sl _ hc) ?_
  exact ⟨fun S' σ' H' ρ' g fr q => q .non H' g.wld rfl, fun v d H' hw hv q => q v H' hw hv, fun _ _ _ _ _ _ z => z.elim, fun _ _ _ _ _ _ z => z.elim⟩
structure CalleeL (P : Program) (w : World) (K : PySem.W.Frag) (mg : Str → Option Value) (base : Heap) (x : Str) (k : Nat) (ps : List Str) (C : ConL) : Prop where
  ex : ∃ f fd, FnOk P w K mg base CX0 k f fd ps (spL K C) ∧ mg x = some (.ref f) ∧ PySem.W.keepIn K (.ref f) = true ∧ Binds K fd ps []
/-- arguments as slots -/
abbrev FSl := List Slot → (List Slot → Prop) → Prop
def LiftSl0 (G : Ctx) (t : TA) (F : FSl) : Prop := ∀ S σ H ρ P (Q : List V → Hp → Prop), Gd G S σ H ρ → F ρ P → (∀ vs sl H', Stp G H H' → SlL G.X.K S H' sl vs → P sl → Q vs H') → t σ H Q
structure DSl0 (G : Ctx) (es : List Expr) (F : FSl) : Prop where
  ex : ∃ t, PA G.X es t ∧ LiftSl0 G t F
section
variable {G : Ctx} {S S' : Addr → Prop} {σ : L2.St} {H H' : Hp} {ρ : List Slot} {pos : Pos} {a b e : Expr} {es : List Expr} {Fa Fb F : FE}
theorem dl_nil : DSl0 G [] (fun _ P => P []) := ⟨⟨_, pa_nil, fun _ _ H _ _ _ g h q => q [] [] H (.refl g.wld) rfl h⟩⟩
theorem dl_d {Fs : FSl} (ha : DE G e Fa) (hr : DSl0 G es Fs) (hs : starEach (e :: es) G.X.env = (false, eval e G.X.env) :: starEach es G.X.env := by rfl) :
    DSl0 G (e :: es) (fun ρ P => Fa ρ fun x => Fs ρ fun xs => P (.d x :: xs)) := by
  obtain ⟨t, h1, l1⟩ := ha.ex
  obtain ⟨u, h2, l2⟩ := hr.ex
  refine ⟨⟨_, pa_cons h1 h2 hs, fun S σ H ρ P Q g h q => ?_⟩⟩
  refine l1 S σ H ρ _ _ g h fun v d H1 st hv h' => ?_
  refine l2 S σ H1 ρ _ _ (g.step st) h' fun vs ds H2 st2 hvs hp => ?_
  exact q _ (.d d :: ds) H2 (st.trans st2) ⟨v, vs, rfl, st2.dv (g.step st) hv, hvs⟩ hp
theorem dl_scr {x : Str} {p : Pos} {Fs : FSl} (n : Nat) (hr : DSl0 G es Fs) (hN : G.X.N[n]? = some x := by rfl) (hv : Vis G.X.env.scope x := by first | exact Or.inl rfl | exact Or.inr (Or.inl rfl) | exact Or.inr (Or.inr rfl)) (hd : (x == ("__debug__" : Str)) = false := by decide)
    (hcd : (x == ("__classdict__" : Str)) = false := by decide) (hs : starEach (Expr.Name x p :: es) G.X.env = (false, eval (.Name x p) G.X.env) :: starEach es G.X.env := by rfl) :
    DSl0 G (.Name x p :: es) (fun ρ P => rdScr ρ n fun ns => Fs ρ fun xs => P (.scr ns :: xs)) := by
  obtain ⟨u, h2, l2⟩ := hr.ex
  refine ⟨⟨_, pa_cons (pe_var hN hv hd hcd) h2 hs, fun S σ H ρ P Q g h q => ?_⟩⟩
  obtain ⟨ns, e, h⟩ := rdScr_inv h
  obtain ⟨a, ea, hsc⟩ := g.slot_scr e
  exact ⟨_, ea, l2 S σ H ρ _ _ g h fun vs sl H2 st2 hvs hp => q _ (.scr ns :: sl) H2 st2 ⟨_, vs, rfl, hsc.move fun a o n e => ⟨n, st2.keep a o (fun z => n (g.sub a z)) e⟩, hvs⟩ hp⟩
theorem de_fnL {x : Str} {k m : Nat} {ps : List Str} {C : ConL} {p : Pos} {Fs : FSl} (h : CalleeL G.X.prog G.X.w G.X.K G.X.mg G.X.base x k ps C) (hr : Room m G.X.A) (ha : DSl0 G (e :: es) Fs) (hk : k ≤ m := by decide) (hg : Gl G.X x := by rfl) (hdb : (x == ("__debug__" : Str)) = false := by decide)
    (he : starEach (e :: es) G.X.env = (false, eval e G.X.env) :: starEach es G.X.env := by rfl) (hpl : (backTo pos (starEach es G.X.env)).any (·.1) = false := by rfl) :
    DE G (.Call (.Name x p) (e :: es) [] pos) (fun ρ P => Fs ρ fun sl => C.C sl P) := by
  obtain ⟨f, fd, F, hm, hkp, hb⟩ := h.ex
  obtain ⟨t, h, l⟩ := ha.ex
  refine ⟨⟨_, pe_call F (hr.mono hk) hg hm hkp hb .nil pass0 h hdb he hpl, fun S σ H ρ P Q g h q => ?_⟩⟩
  refine l S σ H ρ _ _ g h fun vs sl H1 s1 hv hp => ?_
  rw [List.append_nil]
  exact ⟨S, sl, (g.step s1).all, hv, C.mono _ _ _ hp fun d hp v H' e hd => q v d H' (s1.trans (Stp.ex (g.step s1).wld e)) hd hp⟩
end
/-! ### more statements with the state's index -/
section
variable {ι κ : Type} {G : Fam ι} {S S' : Addr → Prop} {σ : L2.St} {H H' H2 : Hp} {ρ : List Slot} {pos : Pos} {a b c e : Expr} {es rest : List Expr} {Fa Fb : FR ι} {st : Stmt} {sts : List Stmt}
/-- what asks nothing of the state is a statement all the same -/
theorem dsr_of {F : ι → FS} (h : ∀ i, DS (G.at i) st (F i)) : DSR G st (fun D ρ i => F i { nx := fun ρ => D.nx ρ i, rt := fun d => D.rt d i, bk := fun ρ => D.bk ρ i, ct := fun ρ => D.ct ρ i } ρ) := by
  have h' : ∀ i, ∃ t, PS G.X st t ∧ LiftS (G.at i) t (F i) := fun i => (h i).ex
  refine ⟨⟨fun D σ H => ∃ t : TS, PS G.X st t ∧ t D σ H, ⟨fun pins s σ H D I ⟨t, hp, hq⟩ => hp.run pins s σ H D I hq⟩, fun S σ H ρ i D Dh g h q => ?_⟩⟩
  obtain ⟨t, hp, l⟩ := h' i
  exact ⟨t, hp, l S σ H ρ _ _ g h ⟨fun S' σ' H' ρ' g' fr hn => q.nx S' σ' H' ρ' i g' fr hn, fun v d H' hw hd hn => q.rt v d H' i hw hd hn, fun S' σ' H' ρ' g' fr hn => q.bk S' σ' H' ρ' i g' fr hn, fun S' σ' H' ρ' g' fr hn => q.ct S' σ' H' ρ' i g' fr hn⟩⟩
/-- name = [e, ..], the list one's own -/
theorem dsr_setOwn {x : Str} {pos' p2 : Pos} {Fs : FAR ι} (n : Nat) (he : DAR G es Fs) (hN : G.X.N.Nodup) (hi : G.X.N[n]? = some x := by rfl) (hx : Loc G.X.env.scope x := by first | exact Or.inl rfl | exact Or.inr rfl) (hs : swapsWith (.List es p2) (some (.Name x pos')) pos.line G.X.env = pure false := by rfl)
    (hf : G.X.fn x = true ∨ G.X.env.scope.names.lookup x = some .local := by first | exact .inl rfl | exact .inr rfl) : DSR G (.Assign [.Name x pos'] (.List es p2) pos) (fun D ρ i => Fs ρ i fun ds j => ds.length ≤ sizeLine ∧ D.nx (ρ.set n (.own ds)) j) := by
  obtain ⟨t, h, l⟩ := he.ex
  refine ⟨⟨_, ps_set (i := n) hN hi hx (pe_lst h) hs hf, fun S σ H ρ i D Dh g h q => ?_⟩⟩
  refine l S σ H ρ i _ _ g h fun vs ds H1 j st hv hp => ⟨by rw [hv.len]; exact hp.1, fun p np => ?_⟩
  have g1 := g.stepI st
  obtain ⟨g2, fr⟩ := g1.grow (o := .lst vs) np
  exact q.nx _ _ _ _ j (g1.setOwn (i := n) (s := .own ds) np rfl ⟨p, vs, rfl, .inr rfl, g1.fresh0 np, upd_same, hv.move fr⟩) (Fr.trans (st.fr g) fr) hp.2
/-- x, y = e, [], the second one a list of one's own -/
theorem dsr_parOwn {x y : Str} {px py pt lp : Pos} {kt k2 pt2} (n m : Nat) (ha : DR G a Fa) (hN : G.X.N.Nodup) (hc : G.X.calm = true := by rfl) (hi : G.X.N[n]? = some x := by rfl) (hj : G.X.N[m]? = some y := by rfl) (hij : n ≠ m := by decide)
    (hx : G.X.env.scope.names.lookup x = some .local := by rfl) (hy : G.X.env.scope.names.lookup y = some .local := by rfl)
    (hw : swappedStores [.Tuple [.Name x px, .Name y py] kt pt] (.Tuple [a, .List [] lp] k2 pt2) G.X.env = pure (some [x, y]) := by rfl)
    (hs : swapsWithSole [.Tuple [.Name x px, .Name y py] kt pt] (.Tuple [a, .List [] lp] k2 pt2) pos.line G.X.env = pure false := by rfl)
    (hst : starEach [a, .List [] lp] G.X.env = (false, eval a G.X.env) :: starEach [.List [] lp] G.X.env := by rfl) (hst2 : starEach [.List [] lp] G.X.env = (false, eval (.List [] lp) G.X.env) :: starEach [] G.X.env := by rfl) :
    DSR G (.Assign [.Tuple [.Name x px, .Name y py] kt pt] (.Tuple [a, .List [] lp] k2 pt2) pos) (fun D ρ i => Fa ρ i fun d j => D.nx ((ρ.set n (.d d)).set m (.own [])) j) := by
  obtain ⟨t, h, l⟩ := ha.ex
  refine ⟨⟨_, ps_par hc hN hi hj hij hx hy (pa_cons h (pa_cons (pe_lst pa_nil) pa_nil hst2) hst) hw hs, fun S σ H ρ i D Dh g h q => ?_⟩⟩
  refine l S σ H ρ i _ _ g h fun v d H1 j st hv hp => ⟨by decide, fun p np => ?_⟩
  have g1 := (g.stepI st).set (i := n) hv
  obtain ⟨g2, fr⟩ := g1.grow (o := .lst []) np
  exact ⟨v, .ref p, rfl, q.nx _ _ _ _ j (g1.setOwn (i := m) (s := .own []) np rfl ⟨p, [], rfl, .inr rfl, g1.fresh0 np, upd_same, rfl⟩) (Fr.trans (st.fr g) fr) hp⟩
/-! ### for, with the index -/
abbrev FIR (ι : Type) := List Slot → ι → (List Dat → ι → Prop) → Prop
/-- range(e) -/
theorem rangeR {tg : Expr} {p : Pos} {Fs : FAR ι} (hm : G.X.mg "range" = none) (ha : DAR G [a] Fs) (hg : Gl G.X "range" := by rfl) (hs : starEach [a] G.X.env = [(false, eval a G.X.env)] := by rfl) :
    ∃ w : TI, PI G.X tg (.Call (.Name "range" p) [a] [] pos) w ∧ ∀ S σ H ρ i (P : List Dat → ι → Prop) (R : It → Hp → Prop), Gd (G.at i) S σ H ρ → (Fs ρ i fun ds j => int1 ds fun n => (-(2 ^ 62) ≤ n ∧ n < 2 ^ 62) ∧ P (rints 0 n.toNat) j) →
      (∀ (lo : Int) (n : Nat) H1 j, StpI G j H H1 → P (rints lo n) j → R (Itr lo n) H1) → w σ H R := by
  obtain ⟨t, h1, l1⟩ := ha.ex
  refine ⟨_, pi_range1 hg hm h1 hs, fun S σ H ρ i P R g h q => ?_⟩
  refine l1 S σ H ρ i _ _ g h fun vs ds H1 j st hv hp => ?_
  unfold int1 at hp
  split at hp
  · obtain ⟨v, rfl, hd⟩ := dvl1 hv
    cases dv_int hd
    exact ⟨_, rfl, hp.1.1, hp.1.2, q _ _ H1 j st hp.2⟩
  · exact hp.elim
/-- for name in range(e), by a word of what is left, the slots and the index -/
theorem dsr_forRange {x : Str} {xp p fp : Pos} {body : List Stmt} {Fs : FAR ι} {Fb : FSR ι} (n : Nat) (hm : G.X.mg "range" = none) (hp : PassesOwn (model G.X.prog G.X.w) G.X.A G.X.env G.X.xe) (hc : G.X.calm = true) (ha : DAR G [a] Fs) (hb : DBR G body Fb) (hN : G.X.N.Nodup) (hi : G.X.N[n]? = some x := by rfl) (hx : Loc G.X.env.scope x := by first | exact Or.inl rfl | exact Or.inr rfl)
    (hf : G.X.fn x = true ∨ G.X.env.scope.names.lookup x = some .local := by first | exact .inl rfl | exact .inr rfl) (hg : Gl G.X "range" := by rfl) (hs : starEach [a] G.X.env = [(false, eval a G.X.env)] := by rfl)
    (hs2 : ∀ z, foldedSetIterable (.Call (.Name "range" p) [a] [] pos) G.X.env z = pure z := by intro _; rfl) :
    DSR G (.For (.Name x xp) (.Call (.Name "range" p) [a] [] pos) body [] fp) (fun D ρ i => ∃ Inv : List Dat → List Slot → ι → Prop, (Fs ρ i fun ds j => int1 ds fun n => (-(2 ^ 62) ≤ n ∧ n < 2 ^ 62) ∧ Inv (rints 0 n.toNat) ρ j) ∧ (∀ ρ j, Inv [] ρ j → D.nx ρ j) ∧ ∀ d ds ρ j, Inv (d :: ds) ρ j → Fb { nx := Inv ds, ct := Inv ds, bk := D.nx, rt := D.rt } (ρ.set n (.d d)) j) := by
  obtain ⟨w, h1, lw⟩ := rangeR (tg := .Name x xp) (p := p) (pos := pos) hm ha hg hs
  obtain ⟨u, h3, lb⟩ := hb.ex
  refine ⟨⟨_, ps_for hp hc h1 (pg_name (i := n) hN hi hx hf) h3 hs2, ?_⟩⟩
  intro S σ H ρ i D Dh gd h q
  obtain ⟨Inv, h, k0, ks⟩ := h
  refine lw S σ H ρ i (fun items j => Inv items ρ j) _ gd h fun lo cnt H1 j0 st hp => ?_
  have g1 := gd.stepI st
  have fr1 : Fr S H S H1 := st.fr gd
  have wk : ∀ j : ι, WalkOk (G.at j) (Itr lo cnt) (rints lo cnt) S H1 := fun j => walk_rng
  refine ⟨fun r m σ' H' => m = (rints lo cnt).length - r ∧ r ≤ (rints lo cnt).length ∧ ∃ S' ρ' j, Gd (G.at j) S' σ' H' ρ' ∧ Fr S H1 S' H' ∧ Inv ((rints lo cnt).drop r) ρ' j, ⟨_, rfl, Nat.zero_le _, S, ρ, j0, g1, Fr.refl _ _, hp⟩, ?_⟩
  rintro r m σ' H' ⟨rfl, hr, S', ρ', j, g', fr, hf'⟩
  by_cases hlt : r < (rints lo cnt).length
  · refine .inr ⟨(wk j).go r S' H' hlt fr, fun σ2 H2 => ∃ S2 ρ2 j2, Gd (G.at j2) S2 σ2 H2 ρ2 ∧ Fr S H1 S2 H2 ∧ Inv ((rints lo cnt).drop (r + 1)) ρ2 j2, fun σ2 H2 ⟨S2, ρ2, j2, a1, a2, a3⟩ => ⟨_, by omega, rfl, hlt, S2, ρ2, j2, a1, a2, a3⟩, fun z H2 y => ?_⟩
    obtain ⟨s2, hd⟩ := (wk j).yld r _ S' σ' ρ' H' z H2 (List.getElem?_eq_getElem hlt) g' fr y
    have g2 := g'.step s2
    rw [List.drop_eq_getElem_cons hlt] at hf'
    have frx : Fr S' H' S' H2 := s2.fr g'
    refine lb S' _ H2 _ j _ _ (g2.set hd) (ks _ _ _ _ hf') ⟨fun S4 σ4 H4 ρ4 j4 g4 fr4 hn => ⟨S4, ρ4, j4, g4, (fr.trans frx).trans fr4, hn⟩, q.rt, fun S4 σ4 H4 ρ4 j4 g4 fr4 hn => q.nx S4 σ4 H4 ρ4 j4 g4 (fr1.trans ((fr.trans frx).trans fr4)) hn, fun S4 σ4 H4 ρ4 j4 g4 fr4 hn => ⟨S4, ρ4, j4, g4, (fr.trans frx).trans fr4, hn⟩⟩
  · have e : r = (rints lo cnt).length := by omega
    subst e
    rw [List.drop_length] at hf'
    exact .inl ⟨(wk j).stop S' H' fr, q.nx S' σ' H' ρ' j g' (fr1.trans fr) (k0 _ _ hf')⟩
end
end DL
namespace DL
open PySem PySem.Spec PyProof.Rows L2
/-! ### two states side by side; a list of one number -/
def staAnd {ι κ : Type} (s : Sta ι) (t : Sta κ) : Sta (ι × κ) where
  fp := fun a => s.fp a ∨ t.fp a
  M := fun i H => s.M i.1 H ∧ t.M i.2 H
  loc := fun i H H' h q x => ⟨s.loc _ H H' h.1 (fun a o z => q a o (.inl z)) x, t.loc _ H H' h.2 (fun a o z => q a o (.inr z)) x⟩
  noc := fun i H h a φ z => z.elim (s.noc _ H h.1 a φ) (t.noc _ H h.2 a φ)
  dom := fun i H h a z => z.elim (s.dom _ H h.1 a) (t.dom _ H h.2 a)
theorem sub_fst {ι κ : Type} {s : Sta ι} {t : Sta κ} (d : ∀ a, t.fp a → ¬ s.fp a) : SubS s (staAnd s t) Prod.fst (fun i n => (n, i.2)) :=
  ⟨fun _ => .inl, fun _ _ h => h.1, fun i j H H' h e m => ⟨m, t.loc i.2 H H' h.2 (fun a o z q => e a o (d a z) q) fun a φ q => e a _ (fun z => s.noc i.1 H h.1 a φ z q) q⟩⟩
theorem sub_snd {ι κ : Type} {s : Sta ι} {t : Sta κ} (d : ∀ a, t.fp a → ¬ s.fp a) : SubS t (staAnd s t) Prod.snd (fun i n => (i.1, n)) :=
  ⟨fun _ => .inr, fun _ _ h => h.2, fun i j H H' h e m => ⟨s.loc i.1 H H' h.1 (fun a o z q => e a o (fun y => d a y z) q) fun a φ q => e a _ (fun z => t.noc i.2 H h.2 a φ z q) q, m⟩⟩
def roomSta (a : Addr) : Sta Int where
  fp := fun b => b = a
  M := fun r H => H a = some (.lst [.int r])
  loc := fun r H H' h q _ => q a _ rfl h
  noc := fun r H h b φ e z => by rw [e, h] at z; cases z
  dom := fun r H h b e => by rw [e]; exact ⟨_, h⟩
section
variable {ι κ : Type} {G : Fam ι} {S S' : Addr → Prop} {σ : L2.St} {H H' H2 : Hp} {ρ : List Slot} {pos : Pos} {a b c e : Expr} {es rest : List Expr} {Fa Fb : FR ι} {st : Stmt} {sts : List Stmt}
theorem dr_add (ha : DR G a Fa) (hb : DR G b Fb) : DR G (.BinOp a .Add b pos) (fun ρ i P => Fa ρ i fun x j => Fb ρ j fun y k => addD x y fun z => P z k) := dr_bin (.or (.or op_add op_add_str) (.or op_cat op_catA)) (fun i => serves_add) ha hb
theorem dr_sub (ha : DR G a Fa) (hb : DR G b Fb) : DR G (.BinOp a .Sub b pos) (fun ρ i P => Fa ρ i fun x j => Fb ρ j fun y k => int0 (fun i j => .int (i - j)) x y fun z => P z k) := dr_bin op_sub (fun i => serves_I0) ha hb
theorem dr_mulI (ha : DR G a Fa) (hb : DR G b Fb) : DR G (.BinOp a .Mult b pos) (fun ρ i P => Fa ρ i fun x j => Fb ρ j fun y k => intD (fun i j => .int (i * j)) CMul x y fun z => P z k) := dr_bin op_mul (fun i => serves_I) ha hb
theorem dtr_eq (hu : G.X.A.units + 64 < cLine) (ha : DR G a Fa) (hb : DR G b Fb) : DTR G (.Compare a [.Eq] [b] pos) (fun ρ i P => Fa ρ i fun x j => Fb ρ j fun y k => eqD x y fun z => isB z fun z => P z k) := dtr_cmp (.or op_eq (op_eqD hu)) (fun i => serves_eq) ha hb
theorem dtr_gt (ha : DR G a Fa) (hb : DR G b Fb) : DTR G (.Compare a [.Gt] [b] pos) (fun ρ i P => Fa ρ i fun x j => Fb ρ j fun y k => int0 (fun i j => .bl (decide (j < i))) x y fun z => isB z fun z => P z k) := dtr_cmp op_gt (fun i => serves_B0) ha hb
theorem dtr_lt (ha : DR G a Fa) (hb : DR G b Fb) : DTR G (.Compare a [.Lt] [b] pos) (fun ρ i P => Fa ρ i fun x j => Fb ρ j fun y k => int0 (fun i j => .bl (decide (i < j))) x y fun z => isB z fun z => P z k) := dtr_cmp op_lt (fun i => serves_B0) ha hb
/-- room[0] -/
theorem dr_room {π : ι → Int} {u : ι → Int → ι} {x : Str} {p : Pos} {z} {ra : Addr} (gs : GS G (roomSta ra) π u) (n : Nat) (hN : G.X.N[n]? = some x := by rfl) (hv : Vis G.X.env.scope x := by first | exact Or.inl rfl | exact Or.inr (Or.inl rfl) | exact Or.inr (Or.inr rfl)) (hd : (x == ("__debug__" : Str)) = false := by decide)
    (hcd : (x == ("__classdict__" : Str)) = false := by decide) {pc : Pos} (hs : PlainIx (Expr.Constant (.int 0) z pc) := by exact fun _ _ => rfl) : DR G (.Subscript (.Name x p) (.Constant (.int 0) z pc) pos) (fun ρ i P => rdRaw ρ n fun v => v = .ref ra ∧ P (.int (π i)) i) := by
  refine ⟨⟨_, pe_ix ix_list (pe_var hN hv hd hcd) pe_int hs, fun S σ H ρ i P Q g h q => ?_⟩⟩
  obtain ⟨v, e, rfl, h⟩ := rdRaw_inv h
  have m : H ra = some (.lst [.int (π i)]) := gs.get i H g.wld
  exact ⟨.ref ra, g.slot_raw e, ra, [.int (π i)], 0, .int (π i), rfl, rfl, .inl (.inl m), rfl, q (.int (π i)) (.int (π i)) H i (.refl g.wld) rfl h⟩
/-- room[0] = e -/
theorem dsr_roomSet {π : ι → Int} {u : ι → Int → ι} {x : Str} {np sp pc : Pos} {z} {ra : Addr} (gs : GS G (roomSta ra) π u) (n : Nat) (he : DR G e Fa) (hN : G.X.N[n]? = some x := by rfl) (hv : Vis G.X.env.scope x := by first | exact Or.inl rfl | exact Or.inr (Or.inl rfl) | exact Or.inr (Or.inr rfl)) (hd : (x == ("__debug__" : Str)) = false := by decide)
    (hcd : (x == ("__classdict__" : Str)) = false := by decide) (hs : swapsWithSole [.Subscript (.Name x np) (.Constant (.int 0) z pc) sp] e pos.line G.X.env = pure false := by rfl) (hw : swappedStores [.Subscript (.Name x np) (.Constant (.int 0) z pc) sp] e G.X.env = pure none := by rfl)
    (h1 : (assignEach [.Subscript (.Name x np) (.Constant (.int 0) z pc) sp] G.X.env).map (·.2) = [assign (.Subscript (.Name x np) (.Constant (.int 0) z pc) sp) G.X.env] := by rfl)
    (hw2 : ∀ y, assign (.Subscript (.Name x np) (.Constant (.int 0) z pc) sp) G.X.env y = (do let u ← holding [y] (eval (.Name x np) G.X.env); let k ← holding [y, u] (eval (.Constant (.int 0) z pc) G.X.env); standAt sp; holding [y, u, k] (setItem u k y); release [y, u, k] []) := by intro _; rfl) :
    DSR G (.Assign [.Subscript (.Name x np) (.Constant (.int 0) z pc) sp] e pos) (fun D ρ i => Fa ρ i fun d j => isI d fun r => rdRaw ρ n fun v => v = .ref ra ∧ D.nx ρ (u j r)) := by
  obtain ⟨t, h, l⟩ := he.ex
  refine ⟨⟨_, ps_asg h (pg_sub (pe_var hN hv hd hcd) pe_int set_list hw2) hs hw h1, fun S σ H ρ i D Dh g hf q => ?_⟩⟩
  refine l S σ H ρ i _ _ g hf fun v d H1 j s1 hv' hp => ?_
  obtain ⟨r, rfl, hp⟩ := isI_inv hp
  cases dv_int hv'
  obtain ⟨v, e, rfl, hp⟩ := rdRaw_inv hp
  have g1 := g.stepI s1
  have m : H1 ra = some (.lst [.int (π j)]) := gs.get j H1 g1.wld
  have s2 : StpI G (u j r) H1 (upd H1 ra (.lst [.int r])) := gs.stp g1.wld (fun a o n q => by rw [upd_ne (show a ≠ ra from n)]; exact q) (show upd H1 ra (.lst [.int r]) ra = _ from upd_same)
  exact ⟨.ref ra, g1.slot_raw e, ra, [.int (π j)], 0, 0, rfl, rfl, m, rfl, q.nx S σ _ ρ (u j r) (g1.stepI s2) (Fr.trans (s1.fr g) (s2.fr g1)) hp⟩
/-! ### arguments of which the last one is a new list of one number, a state that the callee changes -/
def LiftSlF {ι : Type} (G : Fam ι) (t : TA) (F : List Slot → ι → (List Slot → Int → ι → Prop) → Prop) : Prop := ∀ S σ H ρ i P (Q : List V → Hp → Prop), Gd (G.at i) S σ H ρ → F ρ i P →
  (∀ vs sl Hb j p r, StpI G j H Hb → Hb p = none → SlL G.X.K (fun a => S a ∨ a = p) (upd Hb p (.lst [.int r])) sl vs → P sl r j → Q (vs ++ [.ref p]) (upd Hb p (.lst [.int r]))) → t σ H Q
structure DSlF {ι : Type} (G : Fam ι) (es : List Expr) (F : List Slot → ι → (List Slot → Int → ι → Prop) → Prop) : Prop where
  ex : ∃ t, PA G.X es t ∧ LiftSlF G t F
theorem dslF_last {lp : Pos} (ha : DR G e Fa) (hs : starEach [.List [e] lp] G.X.env = (false, eval (.List [e] lp) G.X.env) :: starEach [] G.X.env := by rfl) (hs2 : starEach [e] G.X.env = (false, eval e G.X.env) :: starEach [] G.X.env := by rfl) : DSlF G [.List [e] lp] (fun ρ i P => Fa ρ i fun d j => isI d fun r => P [] r j) := by
  obtain ⟨t, h1, l1⟩ := ha.ex
  refine ⟨⟨_, pa_cons (pe_lst (pa_cons h1 pa_nil hs2)) pa_nil hs, fun S σ H ρ i P Q g h q => ?_⟩⟩
  refine l1 S σ H ρ i _ _ g h fun v d H1 j s1 hv hp => ⟨(show (1 : Nat) ≤ sizeLine by decide), fun p np => ?_⟩
  obtain ⟨r, rfl, hp⟩ := isI_inv hp
  cases dv_int hv
  exact q [] [] H1 j p r s1 np rfl hp
theorem fr_new {p : Addr} {o : HO} {Hb : Hp} (s : StpI G j H Hb) (g : Gd (G.at i) S σ H ρ) (np : Hb p = none) : Fr S H (fun a => S a ∨ a = p) (upd Hb p o) := fun a u n e => by
  have e2 := (s.fr g a u n e).2
  exact ⟨fun z => z.elim n (ne_of_none e2 np), by rw [upd_ne (ne_of_none e2 np)]; exact e2⟩
theorem dslF_d {Fs : List Slot → ι → (List Slot → Int → ι → Prop) → Prop} (ha : DR G e Fa) (hr : DSlF G es Fs) (hs : starEach (e :: es) G.X.env = (false, eval e G.X.env) :: starEach es G.X.env := by rfl) :
    DSlF G (e :: es) (fun ρ i P => Fa ρ i fun x j => Fs ρ j fun xs r k => P (.d x :: xs) r k) := by
  obtain ⟨t, h1, l1⟩ := ha.ex
  obtain ⟨u, h2, l2⟩ := hr.ex
  refine ⟨⟨_, pa_cons h1 h2 hs, fun S σ H ρ i P Q g h q => ?_⟩⟩
  refine l1 S σ H ρ i _ _ g h fun v d H1 j s1 hv h' => ?_
  have g1 := g.stepI s1
  refine l2 S σ H1 ρ j _ _ g1 h' fun vs sl Hb k p r s2 np hvs hp => ?_
  exact q (v :: vs) (.d d :: sl) Hb k p r (s1.trans s2) np ⟨v, vs, rfl, Dv.move (fr_new s2 g1 np) d v hv, hvs⟩ hp
theorem dslF_raw {x : Str} {p : Pos} {Fs : List Slot → ι → (List Slot → Int → ι → Prop) → Prop} (n : Nat) (hr : DSlF G es Fs) (hN : G.X.N[n]? = some x := by rfl) (hv : Vis G.X.env.scope x := by first | exact Or.inl rfl | exact Or.inr (Or.inl rfl) | exact Or.inr (Or.inr rfl)) (hd : (x == ("__debug__" : Str)) = false := by decide)
    (hcd : (x == ("__classdict__" : Str)) = false := by decide) (hs : starEach (Expr.Name x p :: es) G.X.env = (false, eval (.Name x p) G.X.env) :: starEach es G.X.env := by rfl) :
    DSlF G (.Name x p :: es) (fun ρ i P => rdRaw ρ n fun w => Fs ρ i fun xs r k => P (.raw w :: xs) r k) := by
  obtain ⟨u, h2, l2⟩ := hr.ex
  refine ⟨⟨_, pa_cons (pe_var hN hv hd hcd) h2 hs, fun S σ H ρ i P Q g h q => ?_⟩⟩
  obtain ⟨w, e, h⟩ := rdRaw_inv h
  exact ⟨w, g.slot_raw e, l2 S σ H ρ i _ _ g h fun vs sl Hb k p r s2 np hvs hp => q (w :: vs) (.raw w :: sl) Hb k p r s2 np ⟨w, vs, rfl, rfl, hvs⟩ hp⟩
theorem SlL.snoc {K : PySem.W.Frag} {s : Slot} {v : V} (h : ArgOk K S H s v) : ∀ {sl : List Slot} {vs : List V}, SlL K S H sl vs → SlL K S H (sl ++ [s]) (vs ++ [v])
  | [], _, e => by cases (e : _ = []); exact ⟨v, [], rfl, h, rfl⟩
  | s :: sl, vs, e => by
    obtain ⟨v0, r, rfl, h1, h2⟩ := (e : ∃ v r, vs = v :: r ∧ ArgOk K S H s v ∧ SlL K S H sl r)
    exact ⟨v0, r ++ [v], rfl, h1, h2.snoc h⟩
theorem dr_fnSF {st : Sta κ} {π : ι → κ} {u : ι → κ → ι} {x : Str} {k m : Nat} {ps : List Str} {C : ConS (κ × Int)} {p : Pos} {Fs : List Slot → ι → (List Slot → Int → ι → Prop) → Prop} (gs : GS G st π u) (h : CalleeS G.X.prog G.X.w G.X.K G.X.mg G.X.base x k ps C) (hr : Room m G.X.A) (ha : DSlF G (e :: es) Fs) (hk : k ≤ m := by decide) (hg : Gl G.X x := by rfl) (hdb : (x == ("__debug__" : Str)) = false := by decide)
    (he : starEach (e :: es) G.X.env = (false, eval e G.X.env) :: starEach es G.X.env := by rfl) (hpl : (backTo pos (starEach es G.X.env)).any (·.1) = false := by rfl) :
    DR G (.Call (.Name x p) (e :: es) [] pos) (fun ρ i P => Fs ρ i fun sl r j => ∀ ra, ¬ st.fp ra → C.C (staAnd st (roomSta ra)) (π j, r) (sl ++ [.raw (.ref ra)]) fun d j' => P d (u j j'.1)) := by
  obtain ⟨f, fd, F, hm, hkp, hb⟩ := h.ex
  obtain ⟨t, h, l⟩ := ha.ex
  refine ⟨⟨_, pe_call F (hr.mono hk) hg hm hkp hb .nil pass0 h hdb he hpl, fun S σ H ρ i P Q g h q => ?_⟩⟩
  refine l S σ H ρ i _ _ g h fun vs sl Hb j p r s1 np hv hp => ?_
  rw [List.append_nil]
  have g1 := g.stepI s1
  have nfp : ¬ st.fp p := fun z => by
    obtain ⟨o, e⟩ := st.dom (π j) Hb (gs.get j Hb g1.wld) p z
    rw [np] at e; cases e
  have m1 : st.M (π j) (upd Hb p (.lst [.int r])) := st.loc _ Hb _ (gs.get j Hb g1.wld) (fun a o z e => by rw [upd_ne (fun y => nfp (by rw [← y]; exact z))]; exact e) (keepX_upd fun φ z => by rw [np] at z; cases z)
  refine ⟨fun a => S a ∨ a = p, staAnd st (roomSta p), (π j, r), sl ++ [.raw (.ref p)], fun a z => ?_, fun a z => ?_, ⟨m1, upd_same⟩, hv.snoc (s := .raw (.ref p)) rfl, C.mono _ _ _ _ _ (hp p nfp) fun d j' hp v H2 e m hd => ?_⟩
  · by_cases y : a = p
    · exact ⟨_, by rw [y]; exact upd_same⟩
    · obtain ⟨o, e⟩ := g1.all a (z.resolve_right y)
      exact ⟨o, by rw [upd_ne y]; exact e⟩
  · exact z.imp (fun z => g1.sub a (gs.sub a z)) id
  · have ex : ExF st.fp Hb H2 := fun a o n q => e a o (fun z => z.elim n (ne_of_none q np)) (by rw [upd_ne (ne_of_none q np)]; exact q)
    exact q v d H2 (u j j'.1) (s1.trans (gs.stp g1.wld ex m.1)) (hd.move fun a o n e => ⟨fun z => n (.inl z), e⟩) hp
end
end DL
namespace K01
open PySem PySem.Spec PyProof.Rows L2 DL
def intOr (d : Dat) : Int := match d with
  | .int i => i
  | _ => 0
def cellOk (x : Int) : Prop := 0 ≤ x ∧ x < 2147483648
def conFold : ConL := ⟨fun sl P => ∃ ns : List Int, sl = [.scr ns] ∧ ns.length ≤ 63 ∧ ∀ cells : List Int, cells.length = 64 → (∀ x ∈ cells, cellOk x) → P (.lst (cells.map Dat.int)),
  fun _ _ _ ⟨ns, e, hl, h⟩ m => ⟨ns, e, hl, fun c h1 h2 => m _ (h c h1 h2)⟩⟩
def conBegun : ConL := ⟨fun sl P => ∃ ns : List Int, sl = [.scr ns] ∧ ns.length ≤ 63 ∧ ∀ cells left : List Int, cells.length = 64 → (∀ x ∈ cells, cellOk x) → left.length = ns.length → P (.dic [.inr "cells", .inr "left", .inr "spot"] [.lst (cells.map Dat.int), .lst (left.map Dat.int), .int 0]),
  fun _ _ _ ⟨ns, e, hl, h⟩ m => ⟨ns, e, hl, fun c l h1 h2 h3 => m _ (h c l h1 h2 h3)⟩⟩
theorem atI_map {cells : List Int} {i : Int} (h0 : 0 ≤ i) (h1 : i < cells.length) : ∃ x, cells[i.toNat]? = some x ∧ atI (cells.map Dat.int) i = some (.int x) ∧ ixN (cells.map Dat.int).length i = some i.toNat := by
  have hl : i.toNat < cells.length := by omega
  refine ⟨cells[i.toNat], List.getElem?_eq_getElem hl, ?_, by unfold ixN; rw [if_pos h0, if_pos (by rw [List.length_map]; exact h1)]⟩
  have e : atI (cells.map Dat.int) ((i.toNat : Nat) : Int) = some (.int cells[i.toNat]) := atI_nat (by simp [List.getElem?_map, List.getElem?_eq_getElem hl])
  rw [Int.toNat_of_nonneg h0] at e
  exact e
theorem cells_set {cells : List Int} {n : Nat} {x : Int} (h : ∀ y ∈ cells, cellOk y) (hx : cellOk x) : ∀ y ∈ cells.set n x, cellOk y := fun y hy => by
  rcases List.mem_or_eq_of_mem_set hy with hy | rfl
  · exact h y hy
  · exact hx
theorem mod_cell (z : Int) : cellOk (z % 2147483647) := ⟨Int.emod_nonneg _ (by decide), Int.lt_trans (Int.emod_lt_of_pos _ (by decide)) (by decide)⟩
section
variable {P : Program} {w : World} {K : PySem.W.Frag} {mg : Str → Option Value} {base : Heap} {f f2 : Addr} {fd fd2 : FuncData} {k : Nat}
abbrev s__law_folded : Stmt := topS 24
theorem sc__law_folded : FnScope ["script", "found", "k", "cell"] ["script"] (defScope s__law_folded) := ⟨rfl, rfl, rfl, by decide +kernel, rfl, by decide +kernel, by decide +kernel⟩
-- calls [] consts []
theorem ok_law_folded (B : Bt mg) (F : Fun K "_law_folded" "_law_folded" s__law_folded f fd) : FnOk P w K mg base CX0 (k + 1) f fd ["script"] (spL K conFold) := by
  refine fn_pureL F sc__law_folded (fun sl P ⟨ns, e, _⟩ => by rw [e]; rfl) fun cdv A outer s H S hS hr => ?_
  have nd := sc__law_folded.nd
  refine ⟨_, (db_cons (ds_setLcOwn 1 2 (x := "k") rfl nd (sw_true rfl rfl rfl (by decide +kernel)) (di_range1 B.range (da_cons de_int da_nil)) (blkOk_by (own := [("k", 2)]) (N := ["script", "found", "k", "cell"]) (sc := defScope s__law_folded) (by decide +kernel)) (fun _ _ _ _ _ => pg_name (i := 2) nd rfl (Or.inl rfl)) (fun _ _ _ _ _ => dts_nil) (fun _ _ _ _ _ => (de_add de_int (de_var 2)))) (db_cons (ds_forI PassesOwn.never rfl (di_enumScr 0 B.enumerate) (dg_tup 2 rfl (dgs_cons (dg_name 2 nd) (dgs_cons (dg_name 3 nd) dgs_nil))) (db_one (ds_putOwn 1 (de_mod (de_add (de_mulI (de_ixOwn 1 (de_mod (de_var 2) de_int)) de_int) (de_var 3)) de_int) (de_mod (de_var 2) de_int)))) (db_cons (ds_forI PassesOwn.never rfl (di_range2 B.range (da_cons de_int (da_cons de_int da_nil))) (dg_name 2 nd) (db_one (ds_putOwn 1 (de_mod (de_add (de_ixOwn 1 (de_var 2)) (de_mulI (de_ixOwn 1 (de_sub (de_var 2) de_int)) de_int)) de_int) (de_var 2)))) (db_one (ds_freeze (ds_ret (de_var 1))))))), ?_⟩
  rintro sl R ⟨ns, rfl, hl, h⟩
  refine ⟨by decide, ?_⟩
  refine compF_map (f := fun d => .int (17 + intOr d)) (fun d hd Q hQ => ?_) (by decide) ?_
  · simp only [rints, List.mem_map] at hd
    obtain ⟨n, _, rfl⟩ := hd
    exact hQ
  refine ⟨fun items ρ => ∃ (cells : List Int) (a b : DL.Slot), ρ = [.scr ns, .own (cells.map Dat.int), a, b] ∧ cells.length = 64 ∧ (∀ x ∈ cells, cellOk x) ∧ ∀ d ∈ items, ∃ (j : Nat) (n : Int), d = .tup [.int (j : Nat), .int n], ?_, ?_, ?_⟩
  · refine ⟨(List.range 64).map fun (i : Nat) => 17 + (i : Int), .un, .un, rfl, by decide +kernel, ?_, fun d hd => ?_⟩
    · intro x hx
      simp only [List.mem_map, List.mem_range] at hx
      obtain ⟨a, ha, rfl⟩ := hx
      constructor <;> omega
    · obtain ⟨i, hi⟩ := List.getElem?_of_mem hd
      obtain ⟨n, _, e⟩ := enumL_get hi
      exact ⟨_, n, e⟩
  · rintro ρ ⟨cells, a, b, rfl, hl64, hok, _⟩
    refine ⟨fun items ρ => ∃ (cells : List Int) (a b : DL.Slot), ρ = [.scr ns, .own (cells.map Dat.int), a, b] ∧ cells.length = 64 ∧ (∀ x ∈ cells, cellOk x) ∧ ∀ d ∈ items, ∃ (j : Nat), d = .int (j : Nat) ∧ 1 ≤ j ∧ j < 64, ?_, ?_, ?_⟩
    · refine ⟨by decide, cells, a, b, rfl, hl64, hok, fun d hd => ?_⟩
      simp only [rints, List.mem_map, List.mem_range] at hd
      obtain ⟨n, hn, rfl⟩ := hd
      have hn' : n < 63 := hn
      exact ⟨n + 1, by congr 1; omega, by omega, by omega⟩
    · rintro ρ ⟨cells, a, b, rfl, hl64, hok, _⟩
      exact h cells hl64 hok
    · rintro d ds ρ ⟨cells, a, b, rfl, hl64, hok, hall⟩
      obtain ⟨j, rfl, h1, h2⟩ := hall d List.mem_cons_self
      refine ownL_here rfl ?_
      ((try dsimp only); refine rd_here rfl ?_; (try dsimp only))
      obtain ⟨x, ex, eat, eix⟩ := atI_map (cells := cells) (i := (j : Int)) (by omega) (by rw [hl64]; omega)
      rw [isI_int, eat, someD_some]
      refine ownL_here rfl ?_
      ((try dsimp only); refine rd_here rfl ?_; (try dsimp only))
      obtain ⟨y, ey, eaty, _⟩ := atI_map (cells := cells) (i := (j : Int) - 1) (by omega) (by rw [hl64]; omega)
      rw [int0_int, isI_int, eaty, someD_some]
      refine ⟨.inr (by decide), ?_⟩
      refine ⟨(show (0 : Int) < 2147483647 by decide), ?_⟩
      refine ownL_here rfl ?_
      ((try dsimp only); refine rd_here rfl ?_; (try dsimp only))
      rw [isI_int, eix, someD_some]
      refine ⟨cells.set j _, .d (.int j), b, by rw [List.map_set]; rfl, by rw [List.length_set]; exact hl64, cells_set hok (mod_cell _), fun d hd => hall d (List.mem_cons_of_mem _ hd)⟩
  · rintro d ds ρ ⟨cells, a, b, rfl, hl64, hok, hall⟩
    obtain ⟨j, n, rfl⟩ := hall d List.mem_cons_self
    refine ⟨rfl, rfl, ?_⟩
    have m0 : 0 ≤ (j : Int) % 64 := Int.emod_nonneg _ (by decide)
    have m1 : (j : Int) % 64 < 64 := Int.emod_lt_of_pos _ (by decide)
    obtain ⟨x, ex, eat, eix⟩ := atI_map (cells := cells) (i := (j : Int) % 64) m0 (by rw [hl64]; exact m1)
    refine ownL_here rfl ?_
    ((try dsimp only); refine rd_here rfl ?_; (try dsimp only))
    refine ⟨(show (0 : Int) < 64 by decide), ?_⟩
    dsimp only
    rw [isI_int, eat, someD_some]
    refine ⟨.inr (by decide), ?_⟩
    repeat (first | refine rd_here rfl ?_ | refine ownL_here rfl ?_ | rw [isI_int] | rw [addD_int] | rw [int0_int] | rw [someD_some] | dsimp only)
    refine ⟨(show (0 : Int) < 2147483647 by decide), ?_⟩
    repeat (first | refine rd_here rfl ?_ | refine ownL_here rfl ?_ | rw [isI_int] | rw [addD_int] | rw [int0_int] | rw [someD_some] | dsimp only)
    refine ⟨(show (0 : Int) < 64 by decide), ?_⟩
    dsimp only
    rw [isI_int, eix, someD_some]
    exact ⟨cells.set ((j : Int) % 64).toNat _, .d (.int j), .d (.int n), by rw [List.map_set]; rfl, by rw [List.length_set]; exact hl64, cells_set hok (mod_cell _), fun d hd => hall d (List.mem_cons_of_mem _ hd)⟩
abbrev s__law_begun : Stmt := topS 26
theorem sc__law_begun : FnScope ["script", "m", "cell"] ["script"] (defScope s__law_begun) := ⟨rfl, rfl, rfl, by decide +kernel, rfl, by decide +kernel, by decide +kernel⟩
-- calls ['_law_folded'] consts []
theorem ok_law_begun (F__law_folded : CalleeL P w K mg base "_law_folded" k ["script"] conFold) (F : Fun K "_law_begun" "_law_begun" s__law_begun f fd) : FnOk P w K mg base CX0 (k + 1) f fd ["script"] (spL K conBegun) := by
  refine fn_pureL F sc__law_begun (fun sl P ⟨ns, e, _⟩ => by rw [e]; rfl) fun cdv A outer s H S hS hr => ?_
  have nd := sc__law_begun.nd
  refine ⟨_, (db_cons (ds_setDisp 1 (dps_cons de_str (de_fnL F__law_folded hr (dl_scr 0 dl_nil) (by omega)) (dps_cons de_str (de_lst da_nil) (dps_cons de_str de_int dps_nil))) nd) (db_cons (ds_dput 1 (hu_of hr) de_str (de_lc 2 (x := "cell") rfl nd (di_scr 0) (blkOk_by (own := [("cell", 2)]) (N := ["script", "m", "cell"]) (sc := defScope s__law_begun) (by decide +kernel)) (fun _ _ _ _ _ => pg_name (i := 2) nd rfl (Or.inl rfl)) (fun _ _ _ _ _ => dts_nil) (fun _ _ _ _ _ => (de_if (dt_ge (de_var 2) (de_pow de_int de_int)) (de_var 2) de_int)))) (db_one (ds_freeze (ds_ret (de_var 1)))))), ?_⟩
  rintro sl R ⟨ns, rfl, hl, h⟩
  repeat (first | refine rd_here rfl ?_ | refine ownL_here rfl ?_ | rw [isI_int] | rw [addD_int] | rw [int0_int] | rw [someD_some] | dsimp only)
  refine ⟨ns, rfl, hl, fun cells h64 hc => ?_⟩
  refine ⟨Nat.zero_le _, (show 3 ≤ 15 by decide), ?_⟩
  refine rdScr_here rfl ?_
  refine compF_map (f := fun d => if (10 : Int) ^ 18 ≤ intOr d then d else .int 0) (fun d hd Q hQ => ?_) ?_ ?_
  · simp only [List.mem_map] at hd
    obtain ⟨n, _, rfl⟩ := hd
    repeat (first | refine rd_here rfl ?_ | refine ownL_here rfl ?_ | rw [isI_int] | rw [addD_int] | rw [int0_int] | rw [someD_some] | dsimp only)
    refine ⟨⟨by decide, by decide⟩, ?_⟩
    repeat (first | refine rd_here rfl ?_ | refine ownL_here rfl ?_ | rw [isI_int] | rw [addD_int] | rw [int0_int] | rw [someD_some] | dsimp only)
    show if decide ((10 : Int) ^ 18 ≤ n) = true then _ else _
    have hQ' : Q (if (10 : Int) ^ 18 ≤ n then Dat.int n else .int 0) := hQ
    by_cases hn : (10 : Int) ^ 18 ≤ n
    · rw [if_pos hn] at hQ'
      rw [if_pos (decide_eq_true hn)]
      exact rd_here rfl hQ'
    · rw [if_neg hn] at hQ'
      rw [if_neg (fun z => hn (of_decide_eq_true z))]
      exact hQ'
  · rw [List.length_map]
    exact Nat.le_trans (by simp; omega) (show 63 ≤ sizeLine by decide)
  have el : (ns.map Dat.int).map (fun d => if (10 : Int) ^ 18 ≤ intOr d then d else .int 0) = (ns.map fun n => if (10 : Int) ^ 18 ≤ n then n else 0).map Dat.int := by
    rw [List.map_map, List.map_map]
    refine List.map_congr_left fun n _ => ?_
    show (if (10 : Int) ^ 18 ≤ n then Dat.int n else .int 0) = Dat.int (if (10 : Int) ^ 18 ≤ n then n else 0)
    split <;> rfl
  rw [List.nil_append, el]
  have em : ∀ x y z : Dat, mergeP [] [((.inr "cells" : Key), x), (.inr "left", y), (.inr "spot", z)] = [(.inr "cells", x), (.inr "left", y), (.inr "spot", z)] := fun x y z => rfl
  have ep : ∀ x y z u : Dat, putP [((.inr "cells" : Key), x), (.inr "left", y), (.inr "spot", z)] (.inr "left") u = [(.inr "cells", x), (.inr "left", u), (.inr "spot", z)] := fun x y z u => rfl
  refine owndL_here rfl ?_
  rw [em]
  refine ⟨(show 3 < sizeLine by decide), ?_⟩
  rw [ep]
  refine rd_here rfl ?_
  exact h cells _ h64 hc (List.length_map _)
end
end K01
namespace DL
open PySem PySem.Spec PyProof.Rows L2
section
variable {G : Ctx} {S S' : Addr → Prop} {σ : L2.St} {H H' : Hp} {ρ : List Slot} {pos : Pos} {a b e : Expr} {Fa Fb F : FE}
/-- l.index(text) of a list of texts -/
def indexD (ds : List Dat) (y : Dat) (P : Dat → Prop) : Prop := isS y fun z => someD (strsOf ds) fun zs => ∃ j : Nat, zs[j]? = some z ∧ (∀ m : Nat, m < j → zs[m]? ≠ some z) ∧ P (.int (j : Nat))
theorem flat_strs' : ∀ (zs : List Str), (zs.map V.str).all flatV = true
  | [] => rfl
  | z :: zs => by rw [List.map_cons, List.all_cons, flat_strs' zs]; rfl
theorem de_index {apos cpos : Pos} (ha : DE G a Fa) (hb : DE G b Fb) (hst : starEach [b] G.X.env = (false, eval b G.X.env) :: starEach [] G.X.env := by rfl)
    (hbase : attributeBase a "index" G.X.env (eval a G.X.env) = eval a G.X.env := by rfl)
    (hfew : ((backTo cpos (starEach [b] G.X.env)).all (fun x => !x.1) && (backToKw cpos (keywordEach [] G.X.env)).all (fun x => x.1.isSome) && decide ([b].length + ([] : List Keyword).length + (if ([] : List Keyword).isEmpty then 0 else 1) < 30)) = true := by rfl)
    (hline : (apos.endLine == cpos.line) = true := by rfl) (hplain : (backTo cpos (starEach [] G.X.env)).any (·.1) = false := by rfl) :
    DE G (.Call (.Attribute a "index" apos) [b] [] cpos) (fun ρ P => Fa ρ fun x => lstD x fun ds => Fb ρ fun y => indexD ds y P) := by
  obtain ⟨ta, h1, l1⟩ := ha.ex
  obtain ⟨tb, h2, l2⟩ := hb.ex
  refine ⟨⟨_, pe_bm PySem.F.plainAttrs_list PySem.F.slot_list_index PySem.F.type_list_index mt_index h1 (pa_cons h2 pa_nil hst) hbase hfew hline hst hplain, fun S σ H ρ P Q g h q => ?_⟩⟩
  refine l1 S σ H ρ _ _ g h fun v d H1 st hv hp => ?_
  have g1 := g.step st
  cases d with
  | lst ds =>
    obtain ⟨p, xs, rfl, n, e1, hl⟩ := dv_lst hv
    refine ⟨.inl ⟨rfl, xs, .inl (.inl e1)⟩, l2 S σ H1 ρ _ _ g1 hp fun v2 d2 H2 st2 hv2 hp => ?_⟩
    obtain ⟨z, rfl, hp⟩ := isS_inv hp
    cases dv_str hv2
    obtain ⟨zs, ez, j, h1, h2, hp⟩ := someD_inv hp
    have e2 : H2 p = some (.lst xs) := st2.keep p _ (fun y => n (g1.sub p y)) e1
    have hx : xs = zs.map V.str := by
      have q := hl
      rw [strsOf_eq ez] at q
      exact q.strs
    refine ⟨p, xs, .str z, j, .str z, rfl, rfl, .inl (.inl e2), rfl, by rw [hx]; exact flat_strs' zs, by rw [hx, List.getElem?_map, h1]; rfl, (show (z == z) = true from beq_self_eq_true z), fun m z' hm hz' => ?_, q (.int (j : Nat)) (.int (j : Nat)) H2 (st.trans st2) rfl hp⟩
    rw [hx, List.getElem?_map] at hz'
    cases ey : zs[m]? with
    | none => rw [ey] at hz'; cases hz'
    | some y =>
      rw [ey] at hz'
      cases hz'
      show (y == z) = false
      refine beq_eq_false_iff_ne.mpr fun e => h2 m hm ?_
      rw [ey, e]
  | _ => exact hp.elim
end
end DL
namespace DL
open PySem PySem.Spec PyProof.Rows L2 HT
section
variable {prog : Program} {w : World} {A : Around} {E : Value → Shared → Prop} {s : Shared}
theorem rev_places (n : Nat) : Builtin.Slice.slicePlaces ((n : Int) - 1) (-1) (-1) = n := by
  unfold Builtin.Slice.slicePlaces
  rw [if_neg (show ¬ (-1 : Int) > 0 by decide)]
  by_cases h : n = 0
  · subst h; decide
  · rw [if_pos (show (n : Int) - 1 > -1 by omega), show (-(-1) : Int) = 1 by decide, Int.ediv_one]
    omega
theorem rev_adjust (n : Nat) : Builtin.Slice.sliceAdjust none none (-1) (n : Int) = ((n : Int) - 1, -1) := by
  rfl
theorem rev_applied {sl : Addr} {vk : Value} {n : Nat} {Q : Int × Int × Nat → Shared → Prop} (hs : s.heap.IsSliceOf sl .none .none vk) (pk : IsPart vk (some (-1))) (h : Q ((n : Int) - 1, -1, n) s) : wpAny (model prog w) A (Builtin.Slice.sliceApplied (.ref sl) (pure (n : Int))) Q E s := by
  obtain ⟨ob, hob, hcb, hdb⟩ := id hs
  unfold Builtin.Slice.sliceApplied Builtin.Slice.sliceFields
  refine wpAny_bind (wpAny_bind (wpAny_field hob hdb (x := .none) rfl (wpAny_bind (wpAny_field hob hdb (x := .none) rfl (wpAny_bind (wpAny_field hob hdb (x := vk) rfl (wpAny_pure ?_)))))))
  refine wpAny_bind (slicePart_ pk ?_)
  show wpAny _ _ (if ((-1 : Int) == 0) = true then _ else _) Q E s
  rw [if_neg (show ¬ ((-1 : Int) == 0) = true by decide)]
  refine wpAny_bind (slicePart_none (wpAny_bind (slicePart_none (wpAny_bind (wpAny_pure ?_)))))
  show wpAny _ _ (match Builtin.Slice.sliceAdjust none none (-1) (n : Int) with | (lo, hi) => pure (lo, (-1 : Int), Builtin.Slice.slicePlaces lo hi (-1))) Q E s
  rw [rev_adjust n]
  show wpAny _ _ (pure ((n : Int) - 1, (-1 : Int), Builtin.Slice.slicePlaces ((n : Int) - 1) (-1) (-1))) Q E s
  rw [rev_places]
  exact wpAny_pure h
theorem fm_congr {α β : Type} {f g : α → Option β} : ∀ {l : List α}, (∀ k ∈ l, f k = g k) → l.filterMap f = l.filterMap g
  | [], _ => rfl
  | a :: l, h => by
    rw [List.filterMap_cons, List.filterMap_cons, h a List.mem_cons_self, fm_congr fun k hk => h k (List.mem_cons_of_mem _ hk)]
theorem rev_pick (items : Array Value) : (List.range items.size).filterMap (fun (k : Nat) => items[((items.size : Int) - 1 + (k : Int) * -1).toNat]?) = items.toList.reverse := by
  have h1 : (List.range items.size).filterMap (fun (k : Nat) => items[((items.size : Int) - 1 + (k : Int) * -1).toNat]?) = ((List.range items.size).map fun k => items.size - 1 - k).filterMap (items[·]?) := by
    rw [List.filterMap_map]
    refine fm_congr fun k hk => ?_
    have hk' := List.mem_range.mp hk
    have e : ((items.size : Int) - 1 + (k : Int) * -1).toNat = items.size - 1 - k := by omega
    show items[_]? = items[items.size - 1 - k]?
    rw [e]
  rw [h1, PySem.W.krv_range, List.filterMap_reverse, PySem.W.krv_all]
/-- t[::-1] of a tuple -/
theorem getItem_rev {t sl : Addr} {items : Array Value} {vk : Value} {Q : Value → Shared → Prop} (hT : IsTup s.heap t items) (hS : s.heap.IsSliceOf sl .none .none vk) (pk : IsPart vk (some (-1)))
    (h : Q (.ref s.heap.objs.size) { s with heap := s.heap.push { cls := .type "tuple", data := .seq items.toList.reverse.toArray } }) (hz : items.size ≤ sizeLine) : wpAny (model prog w) A (getItem (.ref t) (.ref sl)) Q E s := by
  have okR : sizeOk (.seq items.toList.reverse.toArray) := by
    show items.toList.reverse.toArray.size ≤ sizeLine
    simpa using hz
  obtain ⟨ob, hob, hcb, hdb⟩ := id hS
  have isS : s.TypeIs (.ref sl) "slice" := ⟨ob, hob, hcb⟩
  unfold getItem
  try with_reducible refine wpAny_holding ?_
  first | refine wpAny_bind (wpAny_pure ?_) | skip
  refine wpAny_bind (wpAny_sequenceKey hT.typeIs (show _ from by decide) ?_)
  refine wpAny_bind (wpAny_callSpecial?_slot (name := Str.ofString "__getitem__") hT.typeIs PyProof.Rows.slot_tuple_getitem (wpAny_call_entry PyProof.Rows.slot_tuple_getitem hT.typeIs entry_tuple_getitem ?_ (args_tuple_getitem _ _)))
  refine (show wpAny _ _ (Builtin.Tuple.tupleItemsOf (.ref t) >>= _) _ _ s from wpAny_bind (tupleItemsOf_ hT ?_))
  refine wpAny_bind (wpAny_typeOf isS ?_)
  rw [if_pos (by decide)]
  refine wpAny_bind (rev_applied (n := items.size) hS pk ?_)
  refine (show wpAny _ _ (if (((items.size : Int) - 1 == 0) && ((-1 : Int) == 1) && (items.size == items.size)) = true then _ else _) _ _ s from ?_)
  rw [if_neg (by simp), rev_pick]
  exact wpAny_bind (m := Builtin.Tuple.tupleExact _) (wpAny_newObj_type (wpAny_pure ⟨_, rfl, wpAny_pure h⟩) okR)
end
section
variable {X : Cx} {e : Expr} {te : TE} {p1 p2 p3 pos : Pos} {z : Nat}
theorem pe_revT (he : PE X e te) : PE X (.Subscript e (.Slice none none (some (.UnaryOp .USub (.Constant (.int 1) z p1) p2)) p3) pos) (fun σ H Q => te σ H fun x H1 => ∃ a xs, x = .ref a ∧ SqT X.K H1 a xs ∧ ∀ p, H1 p = none → Q (.ref p) (upd H1 p (.tup xs.reverse))) := by
  refine ⟨fun pins s σ H Q I h => ?_⟩
  refine Subscript_ (thn (he.run pins s σ H _ I h) fun v s1 ⟨x, H1, I1, r1, q1⟩ => ?_)
  obtain ⟨a, xs, rfl, hx, q⟩ := q1
  cases r1
  obtain ⟨its, rv, hT, hz⟩ := I1.tuple hx
  refine wpAny_Slice ?_
  rw [evalPart_none]
  refine wpAny_pure ?_
  refine wpAny_pure ?_
  rw [evalPart_some]
  refine thn ((pe_un un_neg pe_int).run pins s1 σ H1 (fun v H2 => v = .int (-1) ∧ H2 = H1) I1 ⟨1, rfl, rfl, rfl⟩) fun u s2 ⟨y, H2, I2, r2, q2⟩ => ?_
  obtain ⟨rfl, rfl⟩ := q2
  obtain ⟨t, rfl⟩ := r2
  have I3 : Inv X pins σ H2 { s2 with heap := s2.heap.push { cls := .type "slice", data := .fields #[.none, .none, .int (-1) t] } } := I2.kept (t' := s2.toks) fun b ob q => Heap.get?_push_of_some _ q
  obtain ⟨its, rv, hT, hz⟩ := I3.tuple hx
  refine (show wpAny (model X.prog X.w) X.A (subscriptTail e (.Slice none none (some (.UnaryOp .USub (.Constant (.int 1) z p1) p2)) p3) (.ref a) (.ref s2.heap.objs.size)) (EP X pins σ Q) X.xe { s2 with heap := s2.heap.push { cls := .type "slice", data := .fields #[.none, .none, .int (-1) t] } } from ?_)
  refine tail_any (ops := [.ref a, .ref s2.heap.objs.size]) hT.typeIs PyProof.Rows.slot_tuple_getitem.lookup (getItem_rev hT (Heap.IsSliceOf.new ..) (.int (-1) t) ?_ (by rw [List.size_toArray, ← rv.length]; exact hz)) (by with_unfolding_all rfl)
  have hl : its.length ≤ sizeLine := by rw [← rv.length]; exact hz
  refine ⟨.ref (s2.heap.push { cls := .type "slice", data := .fields #[.none, .none, .int (-1) t] }).objs.size, _, I3.laid (t' := s2.toks) (o := .tup xs.reverse) (fun b ob q => Heap.get?_push_of_some _ q) (Nat.le_refl _) ?_, rfl, q _ (I3.hok.fresh (Nat.le_refl _))⟩
  exact ⟨by rw [List.length_reverse, rv.length]; exact hl, _, rv.reverse, IsTup.new _ _⟩
end
def tupD1 (d : Dat) (P : List Dat → Prop) : Prop := match d with
  | .tup ds => P ds
  | _ => False
section
variable {G : Ctx} {S : Addr → Prop} {σ : L2.St} {H : Hp} {ρ : List Slot} {a : Expr} {Fa : FE} {p1 p2 p3 pos : Pos} {z : Nat}
theorem DvL.rev {K : PySem.W.Frag} : ∀ {ds : List Dat} {vs : List V}, DvL K S H ds vs → DvL K S H ds.reverse vs.reverse
  | [], _, e => by cases (e : _ = []); rfl
  | d :: ds, vs, e => by
    obtain ⟨v, r, rfl, h1, h2⟩ := (e : ∃ v r, vs = v :: r ∧ Dv K S H d v ∧ DvL K S H ds r)
    rw [List.reverse_cons, List.reverse_cons]
    exact h2.rev.append ⟨v, [], rfl, h1, rfl⟩
theorem de_revT (ha : DE G a Fa) : DE G (.Subscript a (.Slice none none (some (.UnaryOp .USub (.Constant (.int 1) z p1) p2)) p3) pos) (fun ρ P => Fa ρ fun x => tupD1 x fun ds => P (.tup ds.reverse)) := by
  obtain ⟨t, h, l⟩ := ha.ex
  refine ⟨⟨_, pe_revT h, fun S σ H ρ P Q g h q => ?_⟩⟩
  refine l S σ H ρ _ _ g h fun v d H1 st hv hp => ?_
  cases d with
  | tup ds =>
    obtain ⟨p, xs, rfl, e1, hl⟩ := dv_tup hv
    exact ⟨p, xs, rfl, sqT_of e1, new_tup (g.step st) hl.rev hp fun v d H2 s2 => q v d H2 (st.trans s2)⟩
  | _ => exact hp.elim
end
end DL
namespace DL
open PySem PySem.Spec PyProof.Rows L2
/-! ### a def that is handed a dict, which it fills and hands back -/
structure ConO where
  C : Dat → List (Key × Dat) → (List (Key × Dat) → Prop) → Prop
  mono : ∀ d l P P', C d l P → (∀ l', P l' → P' l') → C d l P'
def spO (K : PySem.W.Frag) (C : ConO) : Sp := fun vs H Q E => ∃ (S : Addr → Prop) (p : Addr) (kvs : List (Key × V)) (l : List (Key × Dat)) (d : Dat) (v : V), (∀ a, S a → ∃ o, H a = some o) ∧ S p ∧ vs = [v, .ref p] ∧ Dv K S H d v ∧ H p = some (.dK kvs) ∧ RelP K S H kvs l ∧
  C.C d l fun l' => ∀ (kvs' : List (Key × V)) (H' : Hp), (∀ a o, a ≠ p → H a = some o → H' a = some o) → H' p = some (.dK kvs') → RelP K S H' kvs' l' → Q (.ref p) H'
structure CalleeO (P : Program) (w : World) (K : PySem.W.Frag) (mg : Str → Option Value) (base : Heap) (x : Str) (k : Nat) (ps : List Str) (C : ConO) : Prop where
  ex : ∃ f fd, FnOk P w K mg base CX0 k f fd ps (spO K C) ∧ mg x = some (.ref f) ∧ PySem.W.keepIn K (.ref f) = true ∧ Binds K fd ps []
end DL
namespace DL
open PySem PySem.Spec PyProof.Rows L2
/-! ### lists that are new, by the callee's promise over any scratch -/
mutual
def noLst : Dat → Bool
  | .lst _ => false
  | .dic _ _ => false
  | .anl => false
  | .tup ds => noLsts ds
  | _ => true
def noLsts : List Dat → Bool
  | [] => true
  | d :: ds => noLst d && noLsts ds
end
section
variable {K : PySem.W.Frag} {S S' : Addr → Prop} {H : Hp}
mutual
theorem noLst_dv (h : ∀ a xs, ¬ S a → H a = some (.tup xs) → ¬ S' a) : ∀ (d : Dat) (v : V), noLst d = true → Dv K S H d v → Dv K S' H d v
  | .non, _, _, e => e
  | .bl _, _, _, e => e
  | .int _, _, _, e => e
  | .str _, _, _, e => e
  | .tup ds, v, n, e => by
    obtain ⟨a, xs, rfl, h1, h2⟩ := (e : ∃ a xs, v = .ref a ∧ ((¬ S a ∧ H a = some (.tup xs)) ∨ WrT K a xs) ∧ DvL K S H ds xs)
    rw [noLst] at n
    exact ⟨a, xs, rfl, h1.imp (fun z => ⟨h a xs z.1 z.2, z.2⟩) id, noLst_dvl h ds xs n h2⟩
  | .lst ds, v, n, e => by rw [noLst] at n; cases n
  | .dic ks ds, v, n, e => by rw [noLst] at n; cases n
  | .anl, v, n, e => by rw [noLst] at n; cases n
theorem noLst_dvl (h : ∀ a xs, ¬ S a → H a = some (.tup xs) → ¬ S' a) : ∀ (ds : List Dat) (vs : List V), noLsts ds = true → DvL K S H ds vs → DvL K S' H ds vs
  | [], _, _, e => e
  | d :: ds, vs, n, e => by
    obtain ⟨v, r, rfl, h1, h2⟩ := (e : ∃ v r, vs = v :: r ∧ Dv K S H d v ∧ DvL K S H ds r)
    rw [noLsts, Bool.and_eq_true] at n
    exact ⟨v, r, rfl, noLst_dv h d v n.1 h1, noLst_dvl h ds r n.2 h2⟩
end
end
section
variable {G : Ctx} {S : Addr → Prop} {σ : L2.St} {H H' : Hp} {ρ : List Slot} {pos : Pos} {a e : Expr} {Fa F : FE}
/-- an expression that tells a new list -/
structure DN (G : Ctx) (e : Expr) (F : List Slot → (List Dat → Prop) → Prop) : Prop where
  ex : ∃ t, PE G.X e t ∧ ∀ S σ H ρ P (Q : VK), Gd G S σ H ρ → F ρ P → (∀ p xs ds H', Stp G H H' → H p = none → H' p = some (.lst xs) → DvL G.X.K S H' ds xs → P ds → Q (.ref p) H') → t σ H Q
theorem dn_fnX0 {x : Str} {k m : Nat} {ps : List Str} {C : Con} {p : Pos} (h : CalleeX G.X.prog G.X.w G.X.K G.X.mg G.X.base x k ps C) (hr : Room m G.X.A) (ha : DE G a Fa) (hk : k ≤ m := by decide) (hg : Gl G.X x := by rfl) (hdb : (x == ("__debug__" : Str)) = false := by decide)
    (he : starEach [a] G.X.env = (false, eval a G.X.env) :: starEach [] G.X.env := by rfl) (hpl : (backTo pos (starEach [] G.X.env)).any (·.1) = false := by rfl) :
    DN G (.Call (.Name x p) [a] [] pos) (fun ρ P => Fa ρ fun d => noLst d = true ∧ C.C [d] (fun r => ∃ ds, r = .lst ds ∧ P ds) (fun _ => False)) := by
  obtain ⟨f, fd, F, hm, hkp, hb⟩ := h.ex
  obtain ⟨t, h, l⟩ := ha.ex
  refine ⟨⟨_, pe_call F (hr.mono hk) hg hm hkp hb .nil passL (pa_cons h pa_nil he) hdb he hpl, fun S σ H ρ P Q g h q => ?_⟩⟩
  refine l S σ H ρ _ _ g h fun v d H1 st hv ⟨hn, hp⟩ => ?_
  show spD G.X.K C ([v] ++ []) H1 Q E0
  have g1 := g.step st
  refine ⟨fun b => S b ∨ ∃ o, H1 b = some o ∧ ∀ xs, o ≠ .tup xs, [d], fun b hb => ?_, ⟨v, [], rfl, noLst_dv (fun b xs n e z => ?_) d v hn hv, rfl⟩, C.mono _ _ _ _ _ hp (fun r ⟨ds, er, hp⟩ v' H2 ex hd => ?_) fun _ z => z.elim⟩
  · rcases hb with hb | ⟨o, e, _⟩
    · exact g1.all b hb
    · exact ⟨o, e⟩
  · rcases z with z | ⟨o, e2, n2⟩
    · exact n z
    · rw [e] at e2; cases e2; exact n2 xs rfl
  · subst er
    obtain ⟨b, xs, rfl, nb, eb, hl⟩ := dv_lst hd
    have fresh : H1 b = none := by
      cases e : H1 b with
      | none => rfl
      | some o =>
        by_cases z : ∃ ys, o = .tup ys
        · obtain ⟨ys, rfl⟩ := z
          have e2 := ex b _ e
          rw [eb] at e2; cases e2
        · exact (nb (.inr ⟨o, e, fun ys ey => z ⟨ys, ey⟩⟩)).elim
    have fresh0 : H b = none := by
      cases e : H b with
      | none => rfl
      | some o =>
        obtain ⟨o', e'⟩ := st.has b o e
        rw [fresh] at e'; cases e'
    exact q b xs ds H2 (st.trans (Stp.ex g1.wld ex)) fresh0 eb (hl.move fun c o n e => ⟨fun z => n (.inl z), e⟩) hp
/-- a def that fills a dict and hands it back, of a new one -/
theorem de_fnO {x : Str} {k m : Nat} {ps : List Str} {C : ConO} {p dp : Pos} (h : CalleeO G.X.prog G.X.w G.X.K G.X.mg G.X.base x k ps C) (hr : Room m G.X.A) (ha : DE G a Fa) (hk : k ≤ m := by decide) (hg : Gl G.X x := by rfl) (hdb : (x == ("__debug__" : Str)) = false := by decide)
    (he : starEach [a, .Dict [] [] dp] G.X.env = (false, eval a G.X.env) :: starEach [.Dict [] [] dp] G.X.env := by rfl) (he2 : starEach [Expr.Dict [] [] dp] G.X.env = (false, eval (.Dict [] [] dp) G.X.env) :: starEach [] G.X.env := by rfl) (hpl : (backTo pos (starEach [.Dict [] [] dp] G.X.env)).any (·.1) = false := by rfl) :
    DE G (.Call (.Name x p) [a, .Dict [] [] dp] [] pos) (fun ρ P => Fa ρ fun d => C.C d [] fun l => P (dicP l)) := by
  obtain ⟨f, fd, F, hm, hkp, hb⟩ := h.ex
  obtain ⟨t, h, l⟩ := ha.ex
  refine ⟨⟨_, pe_call F (hr.mono hk) hg hm hkp hb .nil pass0 (pa_cons h (pa_cons pe_dnewK pa_nil he2) he) hdb he hpl, fun S σ H ρ P Q g h q => ?_⟩⟩
  refine l S σ H ρ _ _ g h fun v d H1 st hv hp => fun b nb => ?_
  have g1 := g.step st
  have mv : ∀ c o, ¬ S c → H1 c = some o → ¬ (S c ∨ c = b) ∧ upd H1 b (.dK []) c = some o := fun c o n e => ⟨fun z => z.elim n (ne_of_none e nb), by rw [upd_ne (ne_of_none e nb)]; exact e⟩
  refine ⟨fun c => S c ∨ c = b, b, [], [], d, v, fun c hc => ?_, .inr rfl, rfl, hv.move mv, upd_same, ⟨rfl, rfl⟩, C.mono _ _ _ _ hp fun l hp kvs' H2 keep hb' rel => ?_⟩
  · by_cases z : c = b
    · exact ⟨_, by rw [z]; exact upd_same⟩
    · obtain ⟨o, e⟩ := g1.all c (hc.resolve_right z)
      exact ⟨o, by rw [upd_ne z]; exact e⟩
  · have ex : Evl.Ex H1 H2 := fun c o e => keep c o (ne_of_none e nb) (by rw [upd_ne (ne_of_none e nb)]; exact e)
    exact q _ (dicP l) H2 (st.trans (Stp.ex g1.wld ex)) ⟨b, kvs', rfl, g1.fresh nb, hb', rel.1, rel.2.move fun c o n e => ⟨fun z => n (.inl z), e⟩⟩ hp
/-- name = [new list, new list]; if test: ..; name[0].append(text); name[1].append(text); the rest goes on without the name -/
theorem db_two {x : Str} {np : Pos} {e1 e2 c : Expr} {sa rest : List Stmt} {F1 F2 : List Slot → (List Dat → Prop) → Prop} {Fc : FT} {Fs Fr' : FS} {lp ap0 cp0 ap1 cp1 ip0 ip1 nq0 nq1 ep0 ep1 ipos zp0 zp1 tp0 tp1 : Pos} {z0 z1 w0 w1} {m0 m1 : Str} (i : Nat)
    (h1 : DN G e1 F1) (h2 : DN G e2 F2) (hc : DT G c Fc) (hs : DB G sa Fs) (hr : DB G rest Fr') (hN : G.X.N.Nodup) (hi : G.X.N[i]? = some x := by rfl) (hx : Loc G.X.env.scope x := by first | exact Or.inl rfl | exact Or.inr rfl) (hv : Vis G.X.env.scope x := by first | exact Or.inl rfl | exact Or.inr (Or.inl rfl) | exact Or.inr (Or.inr rfl)) (hd : (x == ("__debug__" : Str)) = false := by decide)
    (hcd : (x == ("__classdict__" : Str)) = false := by decide) (hsw : swapsWith (.List [e1, e2] lp) (some (.Name x np)) pos.line G.X.env = pure false := by rfl) (hf : G.X.fn x = true ∨ G.X.env.scope.names.lookup x = some .local := by first | exact .inl rfl | exact .inr rfl)
    (hst : starEach [e1, e2] G.X.env = (false, eval e1 G.X.env) :: starEach [e2] G.X.env := by rfl) (hst2 : starEach [e2] G.X.env = (false, eval e2 G.X.env) :: starEach [] G.X.env := by rfl)
    (hpx0 : PlainIx (Expr.Constant (.int 0) z0 zp0) := by exact fun _ _ => rfl) (hpx1 : PlainIx (Expr.Constant (.int 1) z1 zp1) := by exact fun _ _ => rfl)
    (hb0 : attributeBase (.Subscript (.Name x nq0) (.Constant (.int 0) z0 zp0) ip0) "append" G.X.env (eval (.Subscript (.Name x nq0) (.Constant (.int 0) z0 zp0) ip0) G.X.env) = eval (.Subscript (.Name x nq0) (.Constant (.int 0) z0 zp0) ip0) G.X.env := by rfl)
    (hb1 : attributeBase (.Subscript (.Name x nq1) (.Constant (.int 1) z1 zp1) ip1) "append" G.X.env (eval (.Subscript (.Name x nq1) (.Constant (.int 1) z1 zp1) ip1) G.X.env) = eval (.Subscript (.Name x nq1) (.Constant (.int 1) z1 zp1) ip1) G.X.env := by rfl)
    (hfew0 : ((backTo cp0 (starEach [Expr.Constant (.str m0) w0 tp0] G.X.env)).all (fun x => !x.1) && (backToKw cp0 (keywordEach [] G.X.env)).all (fun x => x.1.isSome) && decide ([Expr.Constant (.str m0) w0 tp0].length + ([] : List Keyword).length + (if ([] : List Keyword).isEmpty then 0 else 1) < 30)) = true := by rfl)
    (hfew1 : ((backTo cp1 (starEach [Expr.Constant (.str m1) w1 tp1] G.X.env)).all (fun x => !x.1) && (backToKw cp1 (keywordEach [] G.X.env)).all (fun x => x.1.isSome) && decide ([Expr.Constant (.str m1) w1 tp1].length + ([] : List Keyword).length + (if ([] : List Keyword).isEmpty then 0 else 1) < 30)) = true := by rfl)
    (hl0 : (ap0.endLine == cp0.line) = true := by rfl) (hl1 : (ap1.endLine == cp1.line) = true := by rfl) (hp0 : (backTo cp0 (starEach [] G.X.env)).any (·.1) = false := by rfl) (hp1 : (backTo cp1 (starEach [] G.X.env)).any (·.1) = false := by rfl)
    (hes0 : starEach [Expr.Constant (.str m0) w0 tp0] G.X.env = (false, eval (.Constant (.str m0) w0 tp0) G.X.env) :: starEach [] G.X.env := by rfl) (hes1 : starEach [Expr.Constant (.str m1) w1 tp1] G.X.env = (false, eval (.Constant (.str m1) w1 tp1) G.X.env) :: starEach [] G.X.env := by rfl)
    (hsx0 : swapsWith (.Call (.Attribute (.Subscript (.Name x nq0) (.Constant (.int 0) z0 zp0) ip0) "append" ap0) [.Constant (.str m0) w0 tp0] [] cp0) none ep0.line G.X.env = pure false := by rfl)
    (hsx1 : swapsWith (.Call (.Attribute (.Subscript (.Name x nq1) (.Constant (.int 1) z1 zp1) ip1) "append" ap1) [.Constant (.str m1) w1 tp1] [] cp1) none ep1.line G.X.env = pure false := by rfl) :
    DB G (.Assign [.Name x np] (.List [e1, e2] lp) pos :: .If c sa [] ipos :: .Expr (.Call (.Attribute (.Subscript (.Name x nq0) (.Constant (.int 0) z0 zp0) ip0) "append" ap0) [.Constant (.str m0) w0 tp0] [] cp0) ep0 ::
        .Expr (.Call (.Attribute (.Subscript (.Name x nq1) (.Constant (.int 1) z1 zp1) ip1) "append" ap1) [.Constant (.str m1) w1 tp1] [] cp1) ep1 :: rest)
      (fun D ρ => F1 ρ fun xs => F2 ρ fun ys => xs.length < sizeLine ∧ ys.length < sizeLine ∧ i < ρ.length ∧ ∃ Pc : Bool → Prop, Fc (ρ.set i (.d (.lst [.lst xs, .lst ys]))) Pc ∧ (Pc true → Fs { D with nx := fun _ => False } (ρ.set i (.d (.lst [.lst xs, .lst ys])))) ∧ (Pc false → Fr' D (ρ.set i .un))) := by
  obtain ⟨t1, p1, l1⟩ := h1.ex
  obtain ⟨t2, p2, l2⟩ := h2.ex
  obtain ⟨tc, pc, lc⟩ := hc.ex
  obtain ⟨ts, pss, ls⟩ := hs.ex
  obtain ⟨tr, pr, lr⟩ := hr.ex
  refine ⟨⟨_, pss_cons (ps_set (i := i) hN hi hx (pe_lst (pa_cons p1 (pa_cons p2 pa_nil hst2) hst)) hsw hf) (pss_cons (ps_if pc pss pss_nil)
    (pss_cons (ps_expr (pe_bm PySem.F.plainAttrs_list PySem.F.slot_list_append PySem.F.type_list_append mt_append (pe_ix ix_list (pe_var hi hv hd hcd) pe_int hpx0) (pa_cons pe_str pa_nil hes0) hb0 hfew0 hl0 hes0 hp0) hsx0)
    (pss_cons (ps_expr (pe_bm PySem.F.plainAttrs_list PySem.F.slot_list_append PySem.F.type_list_append mt_append (pe_ix ix_list (pe_var hi hv hd hcd) pe_int hpx1) (pa_cons pe_str pa_nil hes1) hb1 hfew1 hl1 hes1 hp1) hsx1) pr))), fun S σ H ρ D Dh g h q => ?_⟩⟩
  refine l1 S σ H ρ _ _ g h fun a0 us xs H1 s1 n0 e0 d0 h => ?_
  have g1 := g.step s1
  refine l2 S σ H1 ρ _ _ g1 h fun a1 ws ys H2 s2 n1 e1 d1 ⟨hlx, hly, hil, Pc, h, hyes, hno⟩ => ?_
  have g2 := g1.step s2
  have ns0 : ¬ S a0 := g.fresh n0
  have ns1 : ¬ S a1 := g1.fresh n1
  have n1' : H a1 = none := by
    cases f : H a1 with
    | none => rfl
    | some o =>
      obtain ⟨o', f'⟩ := s1.has a1 o f
      rw [n1] at f'; cases f'
  have ne01 : a1 ≠ a0 := fun z => by rw [z, e0] at n1; cases n1
  have e0' : H2 a0 = some (.lst us) := s2.keep a0 _ (fun z => ns0 (g.sub a0 z)) e0
  have d0' := s2.dvl g1 d0
  refine ⟨show 2 ≤ sizeLine by decide, fun a na => ?_⟩
  have st3 : Stp G H2 (upd H2 a (.lst [.ref a0, .ref a1])) := Stp.new g2.wld na
  have g3 := g2.step st3
  have na0 : a0 ≠ a := ne_of_none e0' na
  have na1 : a1 ≠ a := ne_of_none e1 na
  have e0b : upd H2 a (.lst [.ref a0, .ref a1]) a0 = some (.lst us) := by rw [upd_ne na0]; exact e0'
  have e1b : upd H2 a (.lst [.ref a0, .ref a1]) a1 = some (.lst ws) := by rw [upd_ne na1]; exact e1
  have dv : Dv G.X.K S (upd H2 a (.lst [.ref a0, .ref a1])) (.lst [.lst xs, .lst ys]) (.ref a) :=
    ⟨a, _, rfl, g2.fresh na, upd_same, _, _, rfl, ⟨a0, us, rfl, ns0, e0b, st3.dvl g2 d0'⟩, _, _, rfl, ⟨a1, ws, rfl, ns1, e1b, st3.dvl g2 d1⟩, rfl⟩
  have g4 := g3.set (i := i) dv
  have s0123 := (s1.trans s2).trans st3
  refine lc S _ _ _ _ _ g4 h fun b H4 s4 hp => ?_
  have g5 := g4.step s4
  have s5 := s0123.trans s4
  cases b with
  | true => exact ls S _ H4 _ _ _ g5 (hyes hp) ⟨fun _ _ _ _ _ _ z => z.elim, q.rt, fun S' σ' H' ρ' g' f => q.bk S' σ' H' ρ' g' (Fr.trans (s5.fr g) f), fun S' σ' H' ρ' g' f => q.ct S' σ' H' ρ' g' (Fr.trans (s5.fr g) f)⟩
  | false =>
    have k4 : ∀ b o, ¬ S b → upd H2 a (.lst [.ref a0, .ref a1]) b = some o → H4 b = some o := fun b o n e => s4.keep b o (fun z => n (g.sub b z)) e
    have ea : H4 a = some (.lst [.ref a0, .ref a1]) := k4 a _ (g2.fresh na) upd_same
    have ea0 : H4 a0 = some (.lst us) := k4 a0 _ ns0 e0b
    have ea1 : H4 a1 = some (.lst ws) := k4 a1 _ ns1 e1b
    have hl := g.len
    have ev : (σ.set i (some (.ref a)))[i]? = some (some (V.ref a)) := by rw [List.getElem?_set_self (by omega)]
    refine ⟨.ref a, ev, a, [.ref a0, .ref a1], 0, .ref a0, rfl, rfl, .inl (.inl ea), rfl, .inl ⟨rfl, us, .inl (.inl ea0)⟩, a0, us, .str m0, rfl, rfl, ea0, by rw [d0.len]; exact hlx, ?_⟩
    have n0a : a ≠ a0 := fun z => na0 z.symm
    have n1a : a ≠ a1 := fun z => na1 z.symm
    refine ⟨.ref a, ev, a, [.ref a0, .ref a1], 1, .ref a1, rfl, rfl, .inl (.inl (by rw [upd_ne n0a]; exact ea)), rfl, .inl ⟨rfl, ws, .inl (.inl (by rw [upd_ne ne01]; exact ea1))⟩, a1, ws, .str m1, rfl, rfl, by rw [upd_ne ne01]; exact ea1, by rw [d1.len]; exact hly, ?_⟩
    have s6 : Stp G H (upd (upd H4 a0 (.lst (us ++ [.str m0]))) a1 (.lst (ws ++ [.str m1]))) := by
      refine ⟨G.clo H4 _ s5.wld (fun b u u0 f f' => ?_) (fun b φ f => by rw [upd_ne (fun z => by rw [z, ea1] at f; cases f), upd_ne (fun z => by rw [z, ea0] at f; cases f)]; exact f), fun b u n f => ?_, fun b u f => ?_⟩
      · obtain ⟨o, fo⟩ := G.top H g.wld b u0 f
        rw [upd_ne (fun z => by rw [z] at fo; rw [n1'] at fo; cases fo), upd_ne (ne_of_none fo n0)]; exact f'
      · rw [upd_ne (ne_of_none f n1'), upd_ne (ne_of_none f n0)]; exact s5.keep b u n f
      · rw [upd_ne (ne_of_none f n1'), upd_ne (ne_of_none f n0)]; exact s5.has b u f
    exact lr S _ _ _ D Dh (g.step s6 |>.wipe) (hno hp) (q.from (s6.fr g))
end
end DL
namespace DL
open PySem PySem.Spec PyProof.Rows L2
/-! ### defs that are handed a state, called where no repr is under way -/
theorem fn_pureSG {κ : Type} {P : Program} {w : World} {K : PySem.W.Frag} {mg : Str → Option Value} {base : Heap} {x qual : Str} {stm : Stmt} {f : Addr} {fd : FuncData} {N ps : List Str} {k : Nat} {C : ConS κ} (F : Fun K x qual stm f fd) (Sc : FnScope N ps (defScope stm)) (len : ∀ st i sl P, C.C st i sl P → sl.length = ps.length)
    (hbody : ∀ (cdv : Value) (A : Around) (outer : List Env) (s : Shared) (H : Hp) (S : Addr → Prop) (hS : ∀ a, S a → ∃ o, H a = some o) (st : Sta κ) (i0 : κ) (h0 : st.M i0 H), A.guards = some [] → (∀ a, st.fp a → S a) → Room k (A.deeper (envOfC qual (defScope stm) s.heap.objs.size f cdv)) → ∀ sl R, C.C st i0 sl R →
      ∃ T, DBR (famS P w K mg base N qual (defScope stm) f cdv A outer s H S hS st i0 h0) (defBody stm) T ∧ T { nx := fun _ => R .non, rt := R } (startS N.length sl) i0) : FnG P w K mg base CX0 (k + 1) f fd ps (spS K C) := by
  have hpl : ps.length ≤ N.length := by have := congrArg List.length Sc.pre; rw [List.length_take] at this; omega
  obtain ⟨oc, od, kV, doc, pm, an, cdv, ct, osl, rfl, lk, hcd⟩ := F.ex
  refine fnG_of lk hcd Sc (fun vs H Q E ⟨S, st, i, sl, _, _, _, hv, hc⟩ => by rw [hv.len]; exact len _ _ _ _ hc) fun A outer s H vs Q E hgd hr h => ?_
  obtain ⟨S, st, i, sl, hS, hf, h0, hv, hc⟩ := h
  obtain ⟨T, ⟨t, hp, l⟩, hT⟩ := hbody cdv A outer s H S hS st i h0 hgd hf hr sl _ hc
  refine ⟨t, hp.nox, ?_⟩
  refine l S _ H (startS N.length sl) i _ _ (gd_startS (G := (famS P w K mg base N qual (defScope stm) f cdv A outer s H S hS st i h0).at i) ⟨ExF.refl _ _, h0⟩ hS hv (by rw [len _ _ _ _ hc]; exact hpl)) hT ?_
  exact ⟨fun S' σ' H' ρ' j g fr q => q .non H' g.wld.1 g.wld.2 rfl, fun v d H' j hw hv q => q v H' hw.1 hw.2 hv, fun _ _ _ _ _ _ _ z => z.elim, fun _ _ _ _ _ _ _ z => z.elim⟩
structure CalleeSG {κ : Type} (P : Program) (w : World) (K : PySem.W.Frag) (mg : Str → Option Value) (base : Heap) (x : Str) (k : Nat) (ps : List Str) (C : ConS κ) : Prop where
  ex : ∃ f fd, FnG P w K mg base CX0 k f fd ps (spS K C) ∧ mg x = some (.ref f) ∧ PySem.W.keepIn K (.ref f) = true ∧ Binds K fd ps []
section
variable {ι κ : Type} {G : Fam ι} {S S' : Addr → Prop} {σ : L2.St} {H H' H2 : Hp} {ρ : List Slot} {pos : Pos} {a b c e : Expr} {es rest : List Expr} {Fa Fb : FR ι} {st : Stmt} {sts : List Stmt}
theorem dr_fnSG {st : Sta κ} {π : ι → κ} {u : ι → κ → ι} {x : Str} {k m : Nat} {ps : List Str} {C : ConS κ} {p : Pos} {Fs : FSR' ι} (gs : GS G st π u) (h : CalleeSG G.X.prog G.X.w G.X.K G.X.mg G.X.base x k ps C) (hr : Room m G.X.A) (hgd : G.X.A.guards = some []) (ha : DSl G (e :: es) Fs) (hk : k ≤ m := by decide) (hg : Gl G.X x := by rfl) (hdb : (x == ("__debug__" : Str)) = false := by decide)
    (he : starEach (e :: es) G.X.env = (false, eval e G.X.env) :: starEach es G.X.env := by rfl) (hpl : (backTo pos (starEach es G.X.env)).any (·.1) = false := by rfl) :
    DR G (.Call (.Name x p) (e :: es) [] pos) (fun ρ i P => Fs ρ i fun sl j => C.C st (π j) sl fun d j' => P d (u j j')) := by
  obtain ⟨f, fd, F, hm, hkp, hb⟩ := h.ex
  obtain ⟨t, h, l⟩ := ha.ex
  refine ⟨⟨_, pe_callG F (hr.mono hk) hgd hg hm hkp hb pass0 h hdb he hpl, fun S σ H ρ i P Q g h q => ?_⟩⟩
  refine l S σ H ρ i _ _ g h fun vs sl H1 j s1 hv hp => ?_
  rw [List.append_nil]
  have g1 := g.stepI s1
  refine ⟨S, st, π j, sl, g1.all, fun a z => g1.sub a (gs.sub a z), gs.get j H1 g1.wld, hv, C.mono _ _ _ _ _ hp fun d j' hp v H' e m hd => ?_⟩
  exact q v d H' (u j j') (s1.trans (gs.stp g1.wld e m)) hd hp
/-- statements that ask nothing of the state -/
theorem dbr_of {F : ι → FS} (h : ∀ i, DB (G.at i) sts (F i)) : DBR G sts (fun D ρ i => F i { nx := fun ρ => D.nx ρ i, rt := fun d => D.rt d i, bk := fun ρ => D.bk ρ i, ct := fun ρ => D.ct ρ i } ρ) := by
  have h' : ∀ i, ∃ t, PSs G.X sts t ∧ LiftS (G.at i) t (F i) := fun i => (h i).ex
  refine ⟨⟨fun D σ H => ∃ t : TS, PSs G.X sts t ∧ t D σ H, ⟨fun pins s σ H D I ⟨t, hp, hq⟩ => hp.run pins s σ H D I hq⟩, fun S σ H ρ i D Dh g h q => ?_⟩⟩
  obtain ⟨t, hp, l⟩ := h' i
  exact ⟨t, hp, l S σ H ρ _ _ g h ⟨fun S' σ' H' ρ' g' fr hn => q.nx S' σ' H' ρ' i g' fr hn, fun v d H' hw hd hn => q.rt v d H' i hw hd hn, fun S' σ' H' ρ' g' fr hn => q.bk S' σ' H' ρ' i g' fr hn, fun S' σ' H' ρ' g' fr hn => q.ct S' σ' H' ρ' i g' fr hn⟩⟩
end
section
variable {G : Ctx} {S : Addr → Prop} {H : Hp} {pos : Pos} {a : Expr}
/-- len of a dict -/
def lenDD : RCD
  | [.dic ks _], P => P (.int (ks.length : Nat))
  | _, _ => False
theorem serves_lenDD : ServesC G (fun xs H Q => ∃ a kvs, xs = [V.ref a] ∧ H a = some (.dK kvs) ∧ Q (.int kvs.length) H) lenDD := by
  intro S σ ρ H vs ds P Q g hv h q
  unfold lenDD at h
  split at h
  · obtain ⟨v, rfl, h1⟩ := dvl1 hv
    obtain ⟨p, kvs, rfl, n, e1, ek, hl⟩ := dv_dic h1
    have hk : kvs.length = _ := (List.length_map (f := Prod.fst) (as := kvs)).symm.trans (congrArg List.length ek)
    exact ⟨p, kvs, rfl, e1, q _ (.int _) H (Stp.refl g.wld) (by rw [hk]; rfl) h⟩
  · exact h.elim
theorem de_lenDD {p : Pos} {Fs : FA} (hm : G.X.mg "len" = none) (ha : DA G [a] Fs) (hg : Gl G.X "len" := by rfl) (he : starEach [a] G.X.env = (false, eval a G.X.env) :: starEach [] G.X.env := by rfl) : DE G (.Call (.Name "len" p) [a] [] pos) (fun ρ P => Fs ρ fun ds => lenDD ds P) := de_cb call_lenD serves_lenDD hm PySem.boot_len ha hg (he := he)
end
end DL
namespace K01
open PySem PySem.Spec PyProof.Rows L2 DL
theorem depths_le {m : Nat} : ∀ {ds : List Dat}, (∀ d ∈ ds, (toP d).depth ≤ m) → PyData.depthAll (toPs ds) ≤ m
  | [], _ => by rw [toPs, PyData.depthAll]; omega
  | d :: ds, h => by
    have h1 := h d List.mem_cons_self
    have h2 := depths_le fun x hx => h x (List.mem_cons_of_mem _ hx)
    rw [toPs, PyData.depthAll]
    omega
theorem depth_lst {m : Nat} {ds : List Dat} (h : ∀ d ∈ ds, (toP d).depth ≤ m) : (toP (.lst ds)).depth ≤ m + 1 := by
  have q := depths_le h
  rw [toP, PyData.depth]
  omega
theorem shaped_of {d : Dat} (h : Lay d) (hd : (toP d).depth ≤ 64) : SeqAt.shaped (toP d) = true := by
  unfold SeqAt.shaped
  rw [show (toP d).canLay0 = true from h, decide_eq_true hd]
  rfl
theorem eq_same {d : Dat} {P : Dat → Prop} (h : Lay d) : PyData.eqv (toP d) (toP d) = true := PySem.SeqAt.eqv_refl _ h
theorem neD_same {ds : List Dat} {P : Dat → Prop} (h : Lay (.lst ds)) (hd : (toP (.lst ds)).depth ≤ 64) (q : P (.bl false)) : neD (.lst ds) (.lst ds) P := ⟨shaped_of h hd, shaped_of h hd, by rw [PySem.SeqAt.eqv_refl _ h]; exact q⟩
theorem eqD_same {ds : List Dat} {P : Dat → Prop} (h : Lay (.lst ds)) (hd : (toP (.lst ds)).depth ≤ 64) (q : P (.bl true)) : eqD (.lst ds) (.lst ds) P := ⟨shaped_of h hd, shaped_of h hd, by rw [PySem.SeqAt.eqv_refl _ h]; exact q⟩
def badX (CB : Addr) (w : Str) : Exc := (CB, [("what", .str w)])
def noX (CN : Addr) (w z : Str) : Exc := (CN, [("name", .str z), ("what", .str w)])
theorem conE_use {α : Type} {args : α → List Dat} {pre : α → Prop} {out : α → Dat} {P : Dat → Prop} {X : Exc → Prop} (a : α) (h : pre a) (q : P (out a)) : (conE args pre out).C (args a) P X := ⟨a, rfl, h, q⟩
theorem cut_from {α : Type} (xs : List α) (j : Nat) : cutG xs (some (j : Int)) none = xs.drop j := by
  unfold cutG
  rw [HT.sIx_nat xs.length 0 j, HT.sIx_none]
  by_cases h : j ≤ xs.length
  · rw [Nat.min_eq_left h, List.take_of_length_le (by rw [List.length_drop]; exact Nat.le_refl _)]
  · rw [Nat.min_eq_right (by omega), List.drop_length, List.drop_eq_nil_of_le (by omega), List.take_nil]
theorem cut_mem {α : Type} {xs : List α} {lo hi : Option Int} {x : α} (h : x ∈ cutG xs lo hi) : x ∈ xs := List.mem_of_mem_drop (List.mem_of_mem_take h)
theorem cut_len {α : Type} {xs : List α} {lo hi : Option Int} : (cutG xs lo hi).length ≤ xs.length := by
  unfold cutG
  rw [List.length_take, List.length_drop]
  omega
theorem cut_to {α : Type} (xs : List α) (n : Nat) (h : n ≤ xs.length) : cutG xs none (some ((n : Nat) : Int)) = xs.take n := by
  unfold cutG
  rw [HT.sIx_none, HT.sIx_nat, Nat.min_eq_left h, List.drop_zero, Nat.sub_zero]
theorem hu65 {A : Around} {k : Nat} (hr : Room k A) : A.units + 65 < cLine := by have := hr.un; omega
end K01
namespace DL
open PySem PySem.Spec PyProof.Rows L2
/-! ### an error that a name keeps behind its clause -/
def errO (a : Addr) (cls : Value) (d : Option Addr) : HO := .ext fun h => ∃ (oe : Obj) (vs : Array Value), h.get? a = some oe ∧ oe.cls = cls ∧ oe.dict = d ∧ oe.data = .fields vs
section
variable {X : Cx} {pins : List (Addr × Obj)} {σ : L2.St} {H : Hp} {s : Shared}
theorem inv_known {a : Addr} {oe : Obj} {vs : Array Value} {cls : Value} {d : Option Addr} (I : Inv X pins σ H s) (ha : s.heap.get? a = some oe) (hz : Zc cls d oe) (hd : oe.data = .fields vs) (na : H a = none) (nL : a ≠ X.env.locals) (h0 : X.s_0.heap.get? a = none) (hp : ∀ p ∈ X.pn ++ pins, p.1 ≠ a) :
    Inv X pins σ (upd H a (errO a cls d)) s := by
  have other : ∀ {b o}, H b = some o → upd H a (errO a cls d) b = some o := fun {b o} e => by rw [upd_ne (ne_of_none e na)]; exact e
  have none' : ∀ {b}, b ≠ a → H b = none → upd H a (errO a cls d) b = none := fun {b} ne e => by rw [upd_ne ne]; exact e
  have B := I.base
  refine ⟨I.ok, I.os, I.bare, ⟨B.keep, B.slot, fun b o e n hx => none' (fun z => by rw [z, h0] at e; cases e) (B.free b o e n hx), B.there, fun b xs e => other (B.tups b xs e), fun b o u e => other (B.frzs b o u e), fun b ps e => (B.tbls b ps e).imp fun _ q => other q⟩, I.loc, I.cell, none' (fun z => nL z.symm) I.free,
    fun y c e => none' (fun z => ?_) (I.freeC y c e), fun p h => ?_, fun b u e => ?_, I.len⟩
  · obtain ⟨v, o, ho, hc⟩ := I.cell y c e
    rw [z, ha] at ho
    cases ho
    rw [hd] at hc
    cases hc
  · obtain ⟨p1, p2, p3⟩ := I.pin p h
    exact ⟨p1, none' (hp p h) p2, p3⟩
  · by_cases hb : b = a
    · subst hb
      rw [upd_same] at e
      cases e
      exact ⟨⟨oe, vs, ha, hz.1, hz.2, hd⟩, ⟨oe, ha⟩, fun h1 h2 ⟨o, ws, e1, e2, e3, e4⟩ k => ⟨o, ws, k _ e1, e2, e3, e4⟩⟩
    · rw [upd_ne hb] at e
      exact (I.hok b u e).stay (fun _ _ _ q => q) (fun _ q => other q) fun _ _ q => other q
/-- what 'except (A, B) as n' wishes of an error, where it is caught and kept -/
def wKeep (K : PySem.W.Frag) (c1 c2 : Value) (i n : Nat) (ts : Addr → Value → Option Addr → TS) (D : Ends) : WX := fun cls d σ H => PySem.W.exmAny K cls [c1, c2] = some true ∧
  (σ.length = n → ∀ a, H a = none → ts a cls d { nx := fun σ' H' => D.nx (σ'.set i none) (upd H' a (errO a cls d)), rt := fun _ _ => False, bk := fun _ _ => False, ct := fun _ _ => False } (σ.set i (some (.ref a))) H)
theorem fly_kept {base h h' : Heap} {l : List Env} {e : Addr} {Z : Obj → Prop} (x : HandSPX.FlyingZ base l e Z h) (k : ∀ b o, h.get? b = some o → h'.get? b = some o) : HandSPX.FlyingZ base l e Z h' := by
  obtain ⟨f1, f2, f3, oe, vs, T, oT, ts, t1, t2, t3, t4, t5, t6, t7, t8⟩ := x
  exact ⟨fun b o e => k b o (f1 b o e), f2, Heap.FunFrames.of_keeps (fun b o e _ => ⟨o, k b o e, rfl⟩) f3, oe, vs, T, oT, ts, k _ _ t1, t2, t3, t4, t5, t6, k _ _ t7, t8⟩
theorem ps_try_keep {x1 x2 n : Str} {c1 c2 : Value} {i kk : Nat} {body suite : List Stmt} {b₀ : Stmt} {q1 q2 tpos pos pos' : Pos} {tb : WX → TS} {ts : Addr → Value → Option Addr → TS} (hs : X.stack = X.env :: X.outer) (hex : X.ex = []) (hf : X.env.frame = some X.env.locals) (hN : X.N.Nodup) (hi : X.N[i]? = some n) (hln : X.env.kindOf n = some .local) (n1 : Names X x1 c1) (n2 : Names X x2 c2)
    (hb : ∀ (W : WX) (pn : List (Addr × Obj)) (xe : Value → Shared → Prop), Takes (X.tr pn xe) W → PassesOwn (model X.prog X.w) X.A X.env xe → PSs (X.tr pn xe) body (tb W)) (hsu : ∀ (a : Addr) (oe : Obj) (cls : Value) (d : Option Addr) (pn : List (Addr × Obj)), Zc cls d oe → (∃ vs, oe.data = .fields vs) → PSs (X.suite a ((a, oe) :: pn)) (b₀ :: suite) (ts a cls d)) :
    PS X (.Try body [.ExceptHandler (some (.Tuple [.Name x1 q1, .Name x2 q2] kk tpos)) (some n) (b₀ :: suite) pos'] [] [] pos) (fun D σ H => tb (wKeep X.K c1 c2 i X.N.length ts D) D σ H) := by
  refine ⟨fun pins s σ H D I h => wpAny_Try_except ?_⟩
  have okX := I.ok
  have frm : X.A.frames = some (X.env :: X.outer) := by rw [okX.frames, hs]
  refine wpAny_mono ((hb (wKeep X.K c1 c2 i X.N.length ts D) (X.pn ++ pins) (fun e s₁ => wpAny (model X.prog X.w) X.A (noteFrame e X.env) (fun _ s₂ => wpAny (model X.prog X.w) X.A (setFlight e none) (fun _ s₃ => wpAny (model X.prog X.w) X.A (handleBy e X.env [.ExceptHandler (some (.Tuple [.Name x1 q1, .Name x2 q2] kk tpos)) (some n) (b₀ :: suite) pos']) (SP X pins D) X.xe s₃) X.xe s₂) X.xe s₁) (fun u s' xx => ?_) PassesOwn.looking).run [] s σ H D (I.toTry _) h) (fun fl s1 hsp => ?_) (fun e s1 he => he)
  · obtain ⟨a, B, sI, pins', σ', H', cls, d, rfl, J', nb, up, sky, na, os, ag, hm, hyes⟩ := xx
    have J : Inv X pins σ' H' sI := J'.ofTry okX
    rw [hs] at sky
    show wpAny (model X.prog X.w) X.A (noteFrame (.ref a) X.env) _ _ _
    refine Sky.land Zc.steady frm hf sky fun h3 fl3 up3 => ?_
    have upT := up.trans up3
    have J3 : Inv X pins σ' H' { s' with heap := h3 } := J.landed nb fl3.1 upT os ag
    obtain ⟨oe3, vs3, he3, hz3, hd3⟩ := fl3.there
    have gone : ∀ {b o}, sI.heap.get? b = some o → b ∉ frs X.stack → b ≠ a := fun {b o} e nf z => by
      have q := nb b o e nf
      rw [z, fl3.2.1] at q
      cases q
    have apart : a ∉ frs (X.env :: X.outer) := fun hm => by
      obtain ⟨_, o', e', hnf⟩ := fl3.2.2.1.mem hm
      rw [he3] at e'
      cases e'
      exact hnf _ hd3
    have nL : a ≠ X.env.locals := fun z => apart (List.mem_filterMap.mpr ⟨X.env, List.mem_cons_self, hf.trans (by rw [z])⟩)
    have nF : a ∉ X.fs := fun hm => by
      obtain ⟨e, he, q⟩ := List.mem_filterMap.mp hm
      exact apart (List.mem_filterMap.mpr ⟨e, List.mem_cons_of_mem _ he, q⟩)
    have S3 := J3.suite he3 hd3 na nL nF
    refine wpAny_handleBy_cons (codeAny_handlers_test ?_) (by intro q; cases q)
    have nm : ∀ {x c p} {Q E : Value → Shared → Prop}, Names X x c → Q c { s' with heap := h3 } → wpAny (model X.prog X.w) (X.A.mark (some (.ref a))) (eval (.Name x p) X.env) Q E { s' with heap := h3 } := fun {x c p Q E} hc q => by
      obtain ⟨hg, hdb, hm | ⟨hm, hv, hnn⟩⟩ := hc
      · exact ld_glob (X := X.suite a ((a, oe3) :: (X.pn ++ pins))) S3 hg hm q hdb
      · exact ld_blt (X := X.suite a ((a, oe3) :: (X.pn ++ pins))) S3 hg hm hv q hnn hdb
    refine wpAny_Tuple (wpAny_items_cons (nm n1 (wpAny_items_cons (nm n2 (wpAny_items_nil ⟨by size_fits, ?_⟩)))))
    let hp : Heap := h3.push { cls := .type "tuple", data := .seq [c1, c2].toArray }
    have kp : ∀ q o, h3.get? q = some o → hp.get? q = some o := fun _ _ z => Heap.get?_push_of_some _ z
    have LT : PySem.W.Looks (model X.prog X.w) hp (typeOf (.ref a)) cls := fun A Q E s k q => wpAny_typeOf_ref (k _ _ (kp _ _ he3)) (by rw [hz3.1]; exact q)
    refine (PySem.W.exm_tup2 (M := model X.prog X.w) (J3.kIn.keeps kp) LT (Heap.get?_push_size h3 rfl) hm).here ?_
    refine codeAny_handlers_suite_as ?_
    refine HandSPX.lands_againZ (s := { s' with heap := hp }) (fly_kept fl3 kp) fun h4 fl4 up4 => ?_
    have up34 : h3.UpToSlots h4 := fun b o e hd => up4 b o (kp b o e) hd
    have J4 : Inv X pins σ' H' { s' with heap := h4 } := J.landed nb fl4.1 (upT.trans up34) os ag
    obtain ⟨oe4, vs4, he4, hz4, hd4⟩ := fl4.there
    have S4 := J4.suite he4 hd4 na nL nF
    refine store_ok (X := X.suite a ((a, oe4) :: (X.pn ++ pins))) (v := .ref a) S4 hN hi (.inl hln) rfl (fun s5 S5 => ?_) (.inr hln)
    refine wpAny_mono ((hsu a oe4 cls d (X.pn ++ pins) hz4 ⟨_, hd4⟩).run [] s5 _ H' _ S5 (hyes J.len a na)) (fun fl s6 hsp => ?_) (fun _ _ z => False.elim z)
    match fl, hsp with
    | .next, ⟨σ6, H6, S6, q6⟩ =>
      obtain ⟨g1, g2, _⟩ := S6.pin (a, oe4) (List.mem_append_left _ List.mem_cons_self)
      have J6 : Inv X pins σ6 H6 s6 := S6.unsuite okX
      have h00 : X.s_0.heap.get? a = none := by
        cases e : X.s_0.heap.get? a with
        | none => rfl
        | some o =>
          have nst : a ∉ frs X.stack := by rw [hs]; exact apart
          obtain ⟨o', e'⟩ := J.base.there a o e (by rw [hex]; exact List.not_mem_nil)
          exact (gone e' nst rfl).elim
      have hpin : ∀ p ∈ X.pn ++ pins, p.1 ≠ a := fun p hp => by
        obtain ⟨e1, _, e3, e4, _⟩ := J.pin p hp
        refine gone e1 fun z => ?_
        rw [hs] at z
        obtain ⟨en, hen, q⟩ := List.mem_filterMap.mp z
        rcases List.mem_cons.mp hen with rfl | hen
        · rw [hf] at q; exact e3 (Option.some.inj q).symm
        · exact e4 (List.mem_filterMap.mpr ⟨en, hen, q⟩)
      exact gone_ok (inv_known J6 g1 hz4 hd4 g2 nL h00 hpin) hN hi hln fun s7 J7 => ⟨_, _, J7, q6⟩
    | .brk, ⟨_, _, _, z⟩ => exact False.elim z
    | .cont, ⟨_, _, _, z⟩ => exact False.elim z
    | .ret u, ⟨_, _, _, _, _, z⟩ => exact False.elim z
  · match fl, hsp with
    | .next, ⟨σ', H', J', q⟩ => exact wpAny_execs_nil ⟨σ', H', J'.ofTry okX, q⟩
    | .brk, ⟨σ', H', J', q⟩ => exact ⟨σ', H', J'.ofTry okX, q⟩
    | .cont, ⟨σ', H', J', q⟩ => exact ⟨σ', H', J'.ofTry okX, q⟩
    | .ret u, ⟨v, σ', H', J', r, q⟩ => exact ⟨v, σ', H', J'.ofTry okX, r, q⟩
end
end DL
namespace DL
open PySem PySem.Spec PyProof.Rows L2
section
variable {X : Cx} {pins : List (Addr × Obj)} {σ : L2.St} {H : Hp} {s : Shared}
theorem err_at {a D : Addr} {d : Option Addr} (I : Inv X pins σ H s) (e : H a = some (errO a (.ref D) d)) : ∃ oe : Obj, s.heap.get? a = some oe ∧ oe.cls = .ref D ∧ oe.dict = d ∧ ∃ vs, oe.data = .fields vs := by
  obtain ⟨⟨oe, vs, h1, h2, h3, h4⟩, _⟩ := I.hok a _ e
  exact ⟨oe, h1, h2, h3, vs, h4⟩
/-- isinstance of an error that is kept -/
def rIsK (K : PySem.W.Frag) : List V → Hp → VK → Prop := fun xs H Q => ∃ (a D dd : Addr) (fs : List (Str × V)) (c : V) (cv : Value) (b : Bool), xs = [.ref a, c] ∧ H a = some (errO a (.ref D) (some dd)) ∧ H dd = some (.xd fs) ∧ ExcC K D ∧ (∀ u, RelV c u → u = cv) ∧ PySem.W.kitOne K (.ref D) cv = some b ∧ Q (.bl b) H
theorem call_isK : CallR X (.builtin "isinstance") (rIsK X.K) := by
  rintro pins s σ H xs us Q I r ⟨a, D, dd, fs, c, cv, b, rfl, ea, ed, C, hcv, e, q⟩
  obtain ⟨u, w, rfl, ru, rw'⟩ := vals2 r
  obtain rfl : u = Value.ref a := ru
  obtain rfl := hcv _ rw'
  obtain ⟨oe, e1, e2, e3, vs, e4⟩ := err_at I ea
  obtain ⟨mA, hns, hr⟩ := (I.hok dd _ ed : ObjOk X.prog X.w H s.heap dd (.xd fs))
  obtain ⟨od, ho, hl⟩ := lookIn_ns hns
  have J : PySem.W.InstAt s.heap a oe D (some od) := ⟨e1, e2, by unfold PySem.W.notCls; rw [e4] <;> rfl, by rw [e3]; exact ho⟩
  have hcl : (PySem.W.clsIn X.K D).isSome = true := by
    obtain ⟨cd, hc, _⟩ := PySem.W.any_some C.hd
    rw [hc]; rfl
  exact PySem.W.kia_one (PySem.W.kitx_exc hcl C.hg C.hk C.hs C.ha C.hn C.ht C.hm) I.kIn J e (fun z => nomatch z) fun tk => ⟨.bl b, H, I.kept (t' := tk) fun _ _ z => z, rfl, q⟩
/-- a field of an error that is kept -/
def tXk (K : PySem.W.Frag) (f : Str) (te : TE) : TE := fun σ H Q => te σ H fun x H1 => ∃ (a C dd : Addr) (fs : List (Str × V)) (v : V), x = .ref a ∧ H1 a = some (errO a (.ref C) (some dd)) ∧ XfC K C ∧ PySem.W.findIn K (.ref C) f = some none ∧ H1 dd = some (.xd fs) ∧ fs.lookup f = some v ∧ Q v H1
theorem pe_xk {e : Expr} {te : TE} {pos : Pos} {n : Str} (he : PE X e te) (hb : attributeBase e n X.env (eval e X.env) = eval e X.env := by rfl) : PE X (.Attribute e n pos) (tXk X.K n te) := by
  refine ⟨fun pins s σ H Q I h => attr_of hb (thn (he.run pins s σ H _ I h) fun u s1 hh => ?_)⟩
  obtain ⟨x, H1, I1, rx, a, C, dd, fs, v, rfl, ea, T, hno, ed, l, q⟩ := hh
  obtain rfl : u = Value.ref a := rx
  obtain ⟨oe, e1, e2, e3, vs, e4⟩ := err_at I1 ea
  obtain ⟨mA, hns, hr⟩ := (I1.hok dd _ ed : ObjOk X.prog X.w H1 s1.heap dd (.xd fs))
  obtain ⟨od, ho, hl⟩ := lookIn_ns hns
  obtain ⟨w, hu, ru⟩ := RelO.some_of (v := v) (o := mA n) (by rw [← l]; exact hr n)
  have J : PySem.W.InstAt s1.heap a oe C (some od) := ⟨e1, e2, by unfold PySem.W.notCls; rw [e4] <;> rfl, by rw [e3]; exact ho⟩
  exact HandSPX.exc_get I1.kIn J T.ga T.gg T.exC (PySem.W.findObj_own T.hdC hno rfl (by rw [hl, hu])) (handed_of ru) ⟨v, H1, I1.tok _, ru, q⟩
theorem pe_never {e : Expr} : PE X e (fun _ _ _ => False) := ⟨fun _ _ _ _ _ _ h => h.elim⟩
end
end DL
namespace DL
open PySem PySem.Spec PyProof.Rows L2 LamX
/-! ### a lambda handed on: of what stood, nothing but the maker's table is written -/
/-- all but the one at P stay -/
def ExP (P : Addr) (H H' : Hp) : Prop := ∀ b o, b ≠ P → H b = some o → H' b = some o
theorem tabS_ext {H H' : Hp} {P : Addr} {q : Str} (t : TabS H P q) (e : ∀ b o, H b = some o → H' b = some o) : TabS H' P q := t.ext e
section
variable {X : Cx} {pins : List (Addr × Obj)} {σ : L2.St} {H : Hp} {s : Shared}
theorem lam_new {c P : Addr} {q : Str} {params : Arguments} {body : Expr} {scope : Scope} {pos : Pos} {Q E : Value → Shared → Prop} (I : Inv X pins σ H s) (TB : TabB X.base X.mg c P) (hcode : X.env.code = .ref c) (hq : X.env.qual ++ "<lambda>" = q) (hT : TabS H P q) (hdef : defaultsOf params X.env = ([], []))
    (hfree : ∀ y ∈ scope.names, y.2 = .free → ∃ c, X.env.cells.lookup y.1 = some c)
    (h : ∀ (f c' : Addr) (pm ctv : Value) (H1 : Hp) (s' : Shared), Inv X pins σ H1 s' → ExP P H H1 → TabS H1 P q → s'.heap.get? f = some (PySem.W.kla_obj "<lambda>" (X.env.qual ++ "<lambda>") params body scope (cloFrom X.env.cells scope.names []) pm c' ctv) → H1 f = none → f ∉ frs X.stack → H1 c' = some (CodeO c' q) → Q (.ref f) s') :
    wpAny (model X.prog X.w) X.A (eval (.Lambda params body scope pos) X.env) Q E s := by
  obtain ⟨ps, tP, tr, am⟩ := hT
  have heapP : s.heap.get? P = some { cls := .none, data := .fields ps } := I.hok P _ tP
  have bP : s.heap.BuiltinsAt X.mg P := TB.bm.keeps I.bk
  have far : ∀ f, s.heap.objs.size ≤ f → f ∉ frs X.stack := fun f hf z => (List.mem_cons.mp (I.stkSub _ z)).elim (fun e => Nat.lt_irrefl _ (Nat.lt_of_lt_of_le (e ▸ I.lt) hf)) (I.nofs hf)
  refine PySem.W.kla_eval hdef ?_
  cases found : codeAmong pos ps.toList with
  | some cv =>
    obtain ⟨c', rfl, hc'⟩ := am pos cv found
    refine PySem.W.kla_makeFunctionHit (mg := X.mg) (c := c) (P := P) (ps := ps) (closure_ok hfree) I.ok.glob (I.mod.glob.keeps I.bk) hcode (TB.code.keeps I.bk) heapP tr found bP fun ctv h' tk hx hsz => ?_
    exact h h'.objs.size c' ((X.mg "__name__").getD .none) ctv H _ (I.kept fun b o e => Heap.get?_push_of_some _ (hx b o e)) (fun _ _ _ e => e) ⟨ps, tP, tr, am⟩ (Heap.get?_push_size _ rfl) (I.hok.fresh hsz) (far _ hsz) hc'
  | none =>
    refine PySem.W.kla_makeFunction (mg := X.mg) (c := c) (P := P) (ps := ps) (closure_ok hfree) I.ok.glob (I.mod.glob.keeps I.bk) hcode (TB.code.keeps I.bk) heapP tr found TB.gP bP fun c' ctv h' tk hx hge hlt hrec htb => ?_
    obtain ⟨c2, oc, vs, t, e2, hoc, hd, hv⟩ := hrec
    cases e2
    have big : s.heap.objs.size ≤ h'.objs.size := Nat.le_trans hge (Nat.le_of_lt hlt)
    have fresh : H c' = none := I.hok.fresh hge
    subst hq
    have J := inv_table (t' := tk) (more := #[rawInt pos.line, rawInt pos.col, .ref c']) (h' := h'.push (PySem.W.kla_obj "<lambda>" (X.env.qual ++ "<lambda>") params body scope (cloFrom X.env.cells scope.names []) ((X.mg "__name__").getD .none) c' ctv)) (q := X.env.qual ++ "<lambda>") I tP (fun b o hb e => Heap.get?_push_of_some _ (hx b o hb e)) (Heap.get?_push_of_some _ htb) hge ⟨oc, vs, t, Heap.get?_push_of_some _ hoc, hd, hv⟩
    have kp : ExP P H (upd (upd H P (.tbl (ps ++ #[rawInt pos.line, rawInt pos.col, .ref c']))) c' (CodeO c' (X.env.qual ++ "<lambda>"))) := fun b o nb e => by rw [upd_ne (ne_of_none e fresh), upd_ne nb]; exact e
    have nl : (ps ++ #[rawInt pos.line, rawInt pos.col, .ref c']).toList = ps.toList ++ [rawInt pos.line, rawInt pos.col, .ref c'] := by simp
    have gone : ∀ n, n ≠ c' → n ≠ P → H n = none → upd (upd H P (.tbl (ps ++ #[rawInt pos.line, rawInt pos.col, .ref c']))) c' (CodeO c' (X.env.qual ++ "<lambda>")) n = none := fun n a b e => by rw [upd_ne a, upd_ne b]; exact e
    refine h h'.objs.size c' ((X.mg "__name__").getD .none) ctv _ _ J kp ⟨_, by rw [upd_ne (ne_of_none tP fresh), upd_same], by rw [nl]; exact PySem.TriplesOk_snoc _ _ _ _ tr, fun p' cv hcv => ?_⟩ (Heap.get?_push_size _ rfl) (gone _ (Nat.ne_of_gt hlt) (Nat.ne_of_gt (Nat.lt_of_lt_of_le (Heap.lt_size heapP) big)) (I.hok.fresh big)) (far _ big) upd_same
    rw [nl] at hcv
    rcases among_app _ tr hcv with z | z
    · obtain ⟨c0, e1, e2⟩ := am p' cv z
      refine ⟨c0, e1, kp c0 _ (fun y => ?_) e2⟩
      rw [y, tP] at e2
      exact codeO_ne ps (Option.some.inj e2).symm
    · exact ⟨c', z, upd_same⟩
/-- told of the very state that the lambda is handed on in -/
def tLamP (P : Addr) (q : Str) (TT : (XK → Hp → VK → Prop) → Hp → VK → Prop) (t : XK → TE) : TE := fun σ H Q => TabS H P q ∧ ∀ H1, ExP P H H1 → TabS H1 P q → TT (fun E H' Q' => t E σ H' Q') H1 Q
theorem pe_lamP {TT : (XK → Hp → VK → Prop) → Hp → VK → Prop} {x a q : Str} {g c P : Addr} {k : Nat} {pg : Arguments} {bg : List Stmt} {sg : Scope} {dV kV doc pm cdv ct oc : Value} {an od : Option Addr} {osl : Array (Option Value)} {Ng : List Str} {params : Arguments} {body : Expr} {scope : Scope} {t : XK → TE} {p lpos pos : Pos}
    (hg : Gl X x) (hm : X.mg x = some (.ref g)) (hk : PySem.W.keepIn X.K (.ref g) = true) (lk : X.K.lookup g = some ⟨oc, od, .func (PySem.W.fnOf x x pg bg sg dV kV doc pm an cdv ct), osl⟩) (hcg : PySem.W.codeIn X.K cdv x = true) (hb : L2.Binds X.K (PySem.W.fnOf x x pg bg sg dV kV doc pm an cdv ct) [a] []) (Sg : FnScope Ng [a] sg) (hNg : Ng[0]? = some a) (hva : Vis sg a)
    (hG : GivesTo X Ng x sg g cdv bg a q TT) (TB : TabB X.base X.mg c P) (hcode : X.env.code = .ref c) (hq : X.env.qual ++ "<lambda>" = q) (hr : Room (k + 2) X.A) (L : LamS X.env.scope scope) (hdef : defaultsOf params X.env = ([], [])) (hbind : ∀ (q : Str) (cl : List (Str × Addr)) (pm cv ctv : Value), bindArgs (PySem.W.kla_fn "<lambda>" q params body scope cl pm cv ctv) ⟨[], []⟩ = pure [])
    (hbody : ∀ (A : Around) (outer : List Env) (s : Shared) (H : Hp) (E : XK) (f c' : Addr), Room k (A.deeper (lamEnv X scope s.heap.objs.size f c')) → PE (lamCx X A outer s H E scope f c') body (t E))
    (hdb : (x == ("__debug__" : Str)) = false := by decide) (hd : (a == ("__debug__" : Str)) = false := by decide) (hcd : (a == ("__classdict__" : Str)) = false := by decide) :
    PE X (.Call (.Name x p) [.Lambda params body scope lpos] [] pos) (tLamP P q TT t) := by
  subst hq
  refine ⟨fun pins s σ H Q I ⟨hT, h⟩ => wpAny_Call_Name_kw (ld_glob I hg hm (PySem.W.callWith_K (h₀ := X.base) I.ok.mod.kin hk ?_ (by rfl) (by rfl)) hdb)⟩
  show wpAny _ _ (spliced ((false, eval (.Lambda params body scope lpos) X.env) :: backTo pos (starEach [] X.env))) _ _ s
  refine Calls.spliced_cons (lam_new I TB hcode rfl hT hdef (L.has I.ok) fun f c' pm' ctv H1 s' I1 eP T1 hf hfn hfr hco => Calls.spliced_nil ⟨I1.kIn, wpAny_call (codeAny_mono (R := CR C8.CX0 X.stack X.prog X.w H1 s' Q C8.E0) ?_ fun r s2 hq => ?_)⟩)
  · refine run_ofS (N := Ng) (ps := [a]) (us := [.ref f]) (vs := [.ref f]) lk hcg Sg hr I1.env0 (hb s' [.ref f] I1.kIn rfl) (.cons rfl .nil) rfl fun hr' => ?_
    obtain ⟨t', ht', hq'⟩ := hG f c' s' H1 Q (fun E H' Q' => t E σ H' Q') (fun W pn xe E p1 p2 tk hW => pe_act (i := 0) I1 L hf hfn hfr (hbind _ _ _ _ _) tk hW hr' (fun A outer s H hr2 => hbody A outer s H E f c' hr2) hNg hva hd hcd) hco (h H1 eP T1)
    exact ⟨t', ht'.nox, hq'⟩
  · match r, hq with
    | .error e, hq => exact (show False from hq).elim
    | .ok (.ret u), hq => exact I1.after hq
    | .ok .next, hq => exact False.elim hq
    | .ok .brk, hq => exact False.elim hq
    | .ok .cont, hq => exact False.elim hq
end
end DL
namespace DL
open PySem PySem.Spec PyProof.Rows L2 LamX
/-! ### a maker's table of lambdas as a state -/
theorem TabS.to {H H' : Hp} {P : Addr} {q : Str} (t : TabS H P q) (h : ∀ o, H P = some o → H' P = some o) (x : KeepX H H') : TabS H' P q := by
  obtain ⟨ps, h1, h2, h3⟩ := t
  refine ⟨ps, h _ h1, h2, fun pos cv hc => ?_⟩
  obtain ⟨c, e1, e2⟩ := h3 pos cv hc
  exact ⟨c, e1, x c _ e2⟩
def tabSta (P : Addr) (q : Str) : Sta Unit where
  fp := fun a => a = P
  M := fun _ H => TabS H P q
  loc := fun _ H H' h k x => TabS.to h (k P · rfl) x
  noc := fun _ H h a φ e z => by
    obtain ⟨ps, h1, _⟩ := h
    rw [e, h1] at z
    cases z
  dom := fun _ H h a e => by
    obtain ⟨ps, h1, _⟩ := h
    rw [e]
    exact ⟨_, h1⟩
/-- the rule for a def that is handed a state, whose code object is known -/
theorem fn_pureSC {κ : Type} {P : Program} {w : World} {K : PySem.W.Frag} {mg : Str → Option Value} {base : Heap} {x qual : Str} {stm : Stmt} {f : Addr} {fd : FuncData} {N ps : List Str} {k : Nat} {C : ConS κ} {cdc : Value} (F : Fun K x qual stm f fd) (Sc : FnScope N ps (defScope stm)) (len : ∀ st i sl P, C.C st i sl P → sl.length = ps.length)
    (hcode : ∀ kV doc pm an cdv ct, fd = PySem.W.fnOf x qual (defArgs stm) (defBody stm) (defScope stm) .none kV doc pm an cdv ct → cdv = cdc)
    (hbody : ∀ (A : Around) (outer : List Env) (s : Shared) (H : Hp) (S : Addr → Prop) (hS : ∀ a, S a → ∃ o, H a = some o) (st : Sta κ) (i0 : κ) (h0 : st.M i0 H), (∀ a, st.fp a → S a) → Room k (A.deeper (envOfC qual (defScope stm) s.heap.objs.size f cdc)) → ∀ sl R, C.C st i0 sl R →
      ∃ T, DBR (famS P w K mg base N qual (defScope stm) f cdc A outer s H S hS st i0 h0) (defBody stm) T ∧ T { nx := fun _ => R .non, rt := R } (startS N.length sl) i0) : FnOk P w K mg base CX0 (k + 1) f fd ps (spS K C) := by
  have hpl : ps.length ≤ N.length := by have := congrArg List.length Sc.pre; rw [List.length_take] at this; omega
  obtain ⟨oc, od, kV, doc, pm, an, cdv, ct, osl, rfl, lk, hcd⟩ := F.ex
  obtain rfl := hcode kV doc pm an cdv ct rfl
  refine fn_of lk hcd Sc (fun vs H Q E ⟨S, st, i, sl, _, _, _, hv, hc⟩ => by rw [hv.len]; exact len _ _ _ _ hc) fun A outer s H vs Q E hr h => ?_
  obtain ⟨S, st, i, sl, hS, hf, h0, hv, hc⟩ := h
  obtain ⟨T, ⟨t, hp, l⟩, hT⟩ := hbody A outer s H S hS st i h0 hf hr sl _ hc
  refine ⟨t, hp.nox, ?_⟩
  refine l S _ H (startS N.length sl) i _ _ (gd_startS (G := (famS P w K mg base N qual (defScope stm) f cdv A outer s H S hS st i h0).at i) ⟨ExF.refl _ _, h0⟩ hS hv (by rw [len _ _ _ _ hc]; exact hpl)) hT ?_
  exact ⟨fun S' σ' H' ρ' j g fr q => q .non H' g.wld.1 g.wld.2 rfl, fun v d H' j hw hv q => q v H' hw.1 hw.2 hv, fun _ _ _ _ _ _ _ z => z.elim, fun _ _ _ _ _ _ _ z => z.elim⟩
section
variable {ι : Type} {G : Fam ι} {Fa : FR ι} {e : Expr} {pos : Pos}
/-- name.append(e), the list one's own, e of the state -/
theorem dsr_append {x : Str} {np apos cpos : Pos} (i : Nat) (he : DR G e Fa) (hi : G.X.N[i]? = some x := by rfl) (hv : Vis G.X.env.scope x := by first | exact Or.inl rfl | exact Or.inr (Or.inl rfl) | exact Or.inr (Or.inr rfl)) (hd : (x == ("__debug__" : Str)) = false := by decide)
    (hcd : (x == ("__classdict__" : Str)) = false := by decide) (hst : starEach [e] G.X.env = (false, eval e G.X.env) :: starEach [] G.X.env := by rfl)
    (hbase : attributeBase (.Name x np) "append" G.X.env (eval (.Name x np) G.X.env) = eval (.Name x np) G.X.env := by rfl)
    (hfew : ((backTo cpos (starEach [e] G.X.env)).all (fun x => !x.1) && (backToKw cpos (keywordEach [] G.X.env)).all (fun x => x.1.isSome) && decide ([e].length + ([] : List Keyword).length + (if ([] : List Keyword).isEmpty then 0 else 1) < 30)) = true := by rfl)
    (hline : (apos.endLine == cpos.line) = true := by rfl) (hplain : (backTo cpos (starEach [] G.X.env)).any (·.1) = false := by rfl) (hs : swapsWith (.Call (.Attribute (.Name x np) "append" apos) [e] [] cpos) none pos.line G.X.env = pure false := by rfl) :
    DSR G (.Expr (.Call (.Attribute (.Name x np) "append" apos) [e] [] cpos) pos) (fun D ρ j => ownL ρ i fun ds => Fa ρ j fun y j' => ds.length < sizeLine ∧ D.nx (ρ.set i (.own (ds ++ [y]))) j') := by
  obtain ⟨t, h, l⟩ := he.ex
  refine ⟨⟨_, ps_expr (pe_bm PySem.F.plainAttrs_list PySem.F.slot_list_append PySem.F.type_list_append mt_append (pe_var hi hv hd hcd) (pa_cons h pa_nil hst) hbase hfew hline hst hplain) hs, fun S σ H ρ j D Dh g h q => ?_⟩⟩
  obtain ⟨ds, es, hf⟩ := ownL_inv h
  obtain ⟨p, xs, e1, sp, e0, eh, hl⟩ := g.slot_own es
  refine ⟨.ref p, e1, .inl ⟨rfl, xs, .inl (.inl eh)⟩, l S σ H ρ j _ _ g hf fun v d H1 j' st hv ⟨hz, hp⟩ => ?_⟩
  have g1 := g.stepI st
  obtain ⟨p', xs', e1', sp', e0', eh', hl'⟩ := g1.slot_own es
  cases e1.symm.trans e1'
  obtain ⟨g2, fr⟩ := own_append (es := [d]) (ys := [v]) g1 es e1 sp e0 hl' ⟨v, [], rfl, hv, rfl⟩
  exact ⟨p, xs', v, rfl, rfl, eh', by rw [hl'.len]; exact hz, q.nx _ _ _ _ _ g2 (Fr.trans (st.fr g) fr) hp⟩
end
end DL
/-! an own error over LookupError, of two fields -/
namespace DLE
open PySem PySem.W PySem.Calls PyProof.Rows PySem.HandSPX
open Builtin Builtin.ObjectAttr
abbrev leTail : List Value := [.type "LookupError", .type "Exception", .type "BaseException", .type "object"]
section
variable {prog : Program} {w : World} {A : Around} {R : Result → Shared → Prop} {hp : Heap} {g : Array GenState} {d : Drawn} {t : Nat} {os : OsState} {K : PySem.W.Frag}
/-- the first field of such an error -/
theorem le_first {nme : Str} {tok : Tok} {val : Value} {x C : Addr} {fv : Array Value} (kin : K.In hp) (hx : hp.get? x = some { cls := .ref C, data := .fields fv }) (ov : excOver K C leTail = true) (hh : hasDictIn K C = true) (tk : takerIn K C nme = some none)
    (hq : ∀ h2 tk2 dx, (∀ b o, b ≠ x → hp.get? b = some o → h2.get? b = some o) → hp.objs.size ≤ dx → dx ≠ x → h2.get? x = some { cls := .ref C, dict := some dx, data := .fields fv } → h2.Ns1 dx (fun y => if y = nme then some val else none) → R (.ok (.ret .none)) ⟨h2, g, d, tk2, os⟩) :
    codeAny (model prog w) A (.call (.builtin "object.__setattr__") ⟨[.ref x, .str nme tok, val], []⟩) R ⟨hp, g, d, t, os⟩ := by
  have at0 : InstAt hp x { cls := .ref C, data := .fields fv } C none := ⟨hx, rfl, rfl, trivial⟩
  refine osa_openX (SF := PySem.F.store_LookupError) kin at0 ov tk fun b => ?_
  obtain ⟨cd, hcd, hd⟩ := any_some (show (clsIn K C).any (fun cd => cd.hasDict) = true from hh)
  have look : Looks (model prog w) hp (classData C) cd := looks_clsIn kin hcd
  have xs : x ≠ hp.objs.size := Nat.ne_of_lt (Heap.lt_size hx)
  show wpAny _ _ (storeInOwnDict (.ref x) (.ref C) (.str nme tok) nme val b) _ _ _
  obtain ⟨c1, c2, c3, c4, c5, c6, c7, c8, c9, c10, c11⟩ := cd
  try dsimp only at hd
  subst hd
  unfold storeInOwnDict ownDictForStores
  repeat (first | with_reducible refine store_in_new ?_ ?_ | with_reducible refine wpAny_loadPart_at hx ?_ | with_reducible refine look.at ?_ | wp_step)
  · exact ⟨_, #[], _, (Heap.get?_update_ne _ _ _ _ xs.symm).trans (Heap.get?_push_at rfl rfl), rfl, fun e he => absurd he (by simp), fun _ => rfl⟩
  · intro h2 tk2 n1 same
    have x1 : (hp.push { cls := .type "dict", data := .dict #[] }).get? x = some { cls := .ref C, data := .fields fv } := Heap.get?_push_of_some _ hx
    exact hq h2 tk2 hp.objs.size (fun b o hb ho => (same.2 b (Nat.ne_of_lt (Heap.lt_size ho))).trans ((Heap.get?_update_ne _ _ _ _ hb).trans (Heap.get?_push_of_some _ ho))) (Nat.le_refl _) xs.symm ((same.2 x xs).trans (Heap.get?_update_self _ x1 rfl)) n1
/-- a further one -/
theorem le_next {nme : Str} {tok : Tok} {val : Value} {x C dx : Addr} {fv : Array Value} {m0 : Str → Option Value} {nl : List Str} (kin : K.In hp) (hx : hp.get? x = some { cls := .ref C, dict := some dx, data := .fields fv }) (n0 : hp.Ns1 dx m0) (hw : Within m0 nl) (hz : nl.length ≤ 1000) (ov : excOver K C leTail = true) (hh : hasDictIn K C = true) (tk : takerIn K C nme = some none)
    (hq : ∀ h2 tk2, (∀ b o, b ≠ dx → hp.get? b = some o → h2.get? b = some o) → h2.Ns1 dx (fun y => if y = nme then some val else m0 y) → R (.ok (.ret .none)) ⟨h2, g, d, tk2, os⟩) :
    codeAny (model prog w) A (.call (.builtin "object.__setattr__") ⟨[.ref x, .str nme tok, val], []⟩) R ⟨hp, g, d, t, os⟩ := by
  obtain ⟨oD, e1, e2, hoD, _, _⟩ := n0.count hw
  have at0 : InstAt hp x { cls := .ref C, dict := some dx, data := .fields fv } C (some oD) := ⟨hx, rfl, rfl, hoD⟩
  refine osa_openX (SF := PySem.F.store_LookupError) kin at0 ov tk fun b => ?_
  obtain ⟨cd, hcd, hd⟩ := any_some (show (clsIn K C).any (fun cd => cd.hasDict) = true from hh)
  have look : Looks (model prog w) hp (classData C) cd := looks_clsIn kin hcd
  show wpAny _ _ (storeInOwnDict (.ref x) (.ref C) (.str nme tok) nme val b) _ _ _
  obtain ⟨c1, c2, c3, c4, c5, c6, c7, c8, c9, c10, c11⟩ := cd
  try dsimp only at hd
  subst hd
  unfold storeInOwnDict ownDictForStores
  repeat (first | with_reducible refine PySem.OEX.store_in_old n0 hw hz ?_ | with_reducible refine wpAny_loadPart_at hx ?_ | with_reducible refine look.at ?_ | wp_step)
  intro h2 tk2 n1 same
  exact hq h2 tk2 (fun b o hb ho => (same.2 b hb).trans ho) n1
end
theorem typ_LE : typeOf (.type "LookupError") = pure (.type "type") := by kernel_rfl
end DLE
namespace DL
open PySem PySem.Spec PyProof.Rows L2
/-- what the written part says of the class -/
structure LexC (K : PySem.W.Frag) (C : Addr) : Prop where
  cls : ∃ (n1 n2 : Str) (n3 : Addr) (n4 n5 n6 : List Value) (n7 : List Str) (n8 : Bool) (n9 : Option Bool) (n10 : Option Addr) (n11 n12 n13 n14 n15 : Option Value), K.lookup C = some (excClassObj n1 n2 C n3 n4 n5 true n7 n6 n8 n9 n10 n11 n12 n13 n14 n15 "LookupError.__new__") ∧ n5 = DLE.leTail
  ov : PySem.W.excOver K C DLE.leTail = true
  hd : PySem.W.hasDictIn K C = true
  sa : PySem.W.findIn K (.ref C) "__setattr__" = some (some (.builtin "object.__setattr__"))
  exC : PySem.W.subIn K (.ref C) (.type "BaseException") = some true
  tyC : PySem.W.typeIn K (.ref C) = some (.type "type")
  kC : PySem.W.keepIn K (.ref C) = true
section
variable {X : Cx} {pins : List (Addr × Obj)} {σ : L2.St} {H : Hp} {s : Shared} {a C dx : Addr} {f : Str} {y : V} {u : Value} {fs : List (Str × V)} {A : Around} {Er : Value → Shared → Prop}
/-- self.f = y, the first one -/
theorem lst_new {Q : Unit → Shared → Prop} (T : LexC X.K C) (I : Inv X pins σ H s) (e : H a = some (exo a C none)) (tkr : PySem.W.takerIn X.K C f = some none) (ry : RelV y u)
    (h : ∀ dx s2, H dx = none → dx ≠ a → Inv X pins σ (upd (upd H dx (exd dx [(f, y)])) a (exo a C (some dx))) s2 → Q () s2) : wpAny (model X.prog X.w) A (setAttr (.ref a) f u) Q Er s := by
  obtain ⟨t0, ho⟩ := exo_at I.hok e
  obtain ⟨hp, g, dr, t, os⟩ := s
  refine PySem.W.set_plain I.kIn (ox := { cls := .ref C, dict := none, data := .fields #[.ref t0, .none, .none, .none, .bool false, .none] }) (od := none) ⟨ho, rfl, rfl, trivial⟩ T.sa ?_
  refine DLE.le_first I.kIn ho T.ov T.hd tkr fun h2 tk2 dx k big ne hx hn => ?_
  have n0 : H dx = none := I.hok.fresh big
  have nda : ∀ {b : Addr} {o : Obj}, hp.get? b = some o → b ≠ dx := fun {b o} q => Nat.ne_of_lt (Nat.lt_of_lt_of_le (Heap.lt_size q) big)
  have nna : ∀ {b : Addr}, H b = none → b ≠ a := fun {b} n z => by rw [z, e] at n; cases n
  have un : Un X.fs [] H (upd (upd H dx (exd dx [(f, y)])) a (exo a C (some dx))) hp h2 :=
    ⟨fun b o q n _ _ => k b o (nna n) q, fun b o q n _ _ => ⟨o.slots, k b o (nna n) q⟩, fun b o q n _ => by rw [upd_ne (nna n), upd_ne (nda q)]; exact n,
      fun b o q _ => by
        by_cases c : b = a
        · exact ⟨_, by rw [c]; exact hx⟩
        · exact ⟨o, k b o c q⟩,
      fun b xs q => by rw [upd_ne (at_ne e q exo_tup), upd_ne (ne_of_none q n0)]; exact q, fun b o v q => by rw [upd_ne (at_ne e q exo_frz), upd_ne (ne_of_none q n0)]; exact q,
      fun b ps q => ⟨#[], by rw [upd_ne (at_ne e q exo_tbl), upd_ne (ne_of_none q n0), q]; simp⟩⟩
  refine h dx _ n0 ne (I.un (t' := tk2) un fun b o q => ?_)
  by_cases c : b = a
  · rw [c, upd_same] at q
    cases q
    rw [c]; exact exo_ok hx
  · rw [upd_ne c] at q
    by_cases c2 : b = dx
    · rw [c2, upd_same] at q
      cases q
      rw [c2]; exact exd_ok hn (relO_put (fs := []) ry fun g => True.intro)
    · rw [upd_ne c2] at q
      refine (I.hok b o q).stay (fun x v hc z => k x v ?_ z) (fun x hc => by rw [upd_ne (at_ne e hc exo_own), upd_ne (ne_of_none hc n0)]; exact hc) (fun x xs hc => by rw [upd_ne (at_ne e hc exo_tup), upd_ne (ne_of_none hc n0)]; exact hc)
      rcases hc with hc | hc
      · rw [hc]; exact c
      · exact at_ne e hc exo_own
/-- self.f = y, a further one -/
theorem lst_next {Q : Unit → Shared → Prop} (T : LexC X.K C) (I : Inv X pins σ H s) (e : H a = some (exo a C (some dx))) (ed : H dx = some (exd dx fs)) (hl : fs.length ≤ 900) (tkr : PySem.W.takerIn X.K C f = some none) (ry : RelV y u)
    (h : ∀ s2, Inv X pins σ (upd H dx (exd dx ((f, y) :: fs))) s2 → Q () s2) : wpAny (model X.prog X.w) A (setAttr (.ref a) f u) Q Er s := by
  obtain ⟨t0, ho⟩ := exo_at I.hok e
  obtain ⟨m1, n1, rel⟩ := exd_at I.hok ed
  have hw := within_of rel
  obtain ⟨hp, g, dr, t, os⟩ := s
  obtain ⟨oD, _, _, hoD, _, _⟩ := n1.count hw
  refine PySem.W.set_plain I.kIn (ox := { cls := .ref C, dict := some dx, data := .fields #[.ref t0, .none, .none, .none, .bool false, .none] }) (od := some oD) ⟨ho, rfl, rfl, hoD⟩ T.sa ?_
  refine DLE.le_next I.kIn ho n1 hw (by rw [List.length_map]; omega) T.ov T.hd tkr fun h2 tk2 k hn => ?_
  have there : ∃ o, h2.get? dx = some o := by
    obtain ⟨o, _, _, q, _⟩ := hn
    exact ⟨o, q⟩
  exact h _ (I.write (t' := tk2) (x := dx) (e := dx) (o := exd dx ((f, y) :: fs)) (by rw [ed]; exact True.intro) (.inl rfl) k there (exd_ok hn (relO_put ry rel)))
/-- LookupError.__init__(self, ..) -/
theorem linit_ok {us : List Value} {Q : Value → Shared → Prop} (T : LexC X.K C) (I : Inv X pins σ H s) (e : H a = some (exo a C none)) (hl : us.length ≤ sizeLine) (h : ∀ s2, Inv X pins σ H s2 → Q .none s2) :
    wpAny (model X.prog X.w) A (call (.builtin "LookupError.__init__") (.ref a :: us)) Q Er s := by
  obtain ⟨n1, n2, n3, n4, n5, n6, n7, n8, n9, n10, n11, n12, n13, n14, n15, hC, rfl⟩ := T.cls
  obtain ⟨t0, ho⟩ := exo_at I.hok e
  obtain ⟨hp, g, dr, t, os⟩ := s
  refine wpAny_call (PySem.HandSPX.init_base F.excBase_LookupError (fun Y => rfl) (I.kIn _ _ hC) ho hl fun h2 t2 k hx => ?_)
  have J := I.write (t' := t) (x := a) (e := a) (o := exo a C none) (by rw [e]; exact True.intro) (.inl rfl) k ⟨_, hx⟩ (exo_ok hx)
  have same : upd H a (exo a C none) = H := by
    funext b
    by_cases c : b = a
    · rw [c, upd_same, e]
    · rw [upd_ne c]
  rw [same] at J
  exact h _ J
end
/-- LookupError.__init__(self, ..), read -/
def tLeI (K : PySem.W.Frag) (ta : TA) : TE := fun σ H Q => ta σ H fun vs H1 => ∃ (a C : Addr) (ws : List V), vs = .ref a :: ws ∧ ws.length ≤ 1000 ∧ LexC K C ∧ H1 a = some (exo a C none) ∧ Q .non H1
/-- self.f = e, read -/
def tLst (K : PySem.W.Frag) (f : Str) (to te : TE) : TS := fun D σ H => te σ H fun y H1 => to σ H1 fun x H2 => ∃ a C : Addr, x = .ref a ∧ LexC K C ∧ PySem.W.takerIn K C f = some none ∧
  ((H2 a = some (exo a C none) ∧ ∀ dx, H2 dx = none → dx ≠ a → D.nx σ (upd (upd H2 dx (exd dx [(f, y)])) a (exo a C (some dx)))) ∨
    ∃ (dx : Addr) (fs : List (Str × V)), H2 a = some (exo a C (some dx)) ∧ H2 dx = some (exd dx fs) ∧ fs.length ≤ 900 ∧ D.nx σ (upd H2 dx (exd dx ((f, y) :: fs))))
section
variable {X : Cx} {o e : Expr} {es : List Expr} {to te : TE} {ta : TA} {f : Str} {p p' p1 p2 pos : Pos}
theorem pe_leinit {pl : Sem Bool} (hg : Gl X "LookupError") (hm : X.mg "LookupError" = none) (vV : PySem.W.findCls X.K (.type "LookupError") (.type "type") "__init__" = some (.val (.builtin "LookupError.__init__"))) (ha : PA X (e :: es) ta)
    (hc : eval (.Call (.Attribute (.Name "LookupError" p1) "__init__" p2) (e :: es) [] pos) X.env = (do
      let fn0 ← eval (.Name "LookupError" p1) X.env
      standAt p2.atName
      let (f, first) ← holding [fn0] (getMethod fn0 "__init__" pl)
      callWith pos f first (backTo pos (starEach (e :: es) X.env)) (backToKw pos (keywordEach [] X.env))) := by rfl)
    (hst : starEach (e :: es) X.env = (false, eval e X.env) :: starEach es X.env := by rfl) (hpl : (backTo pos (starEach es X.env)).any (·.1) = false := by rfl) :
    PE X (.Call (.Attribute (.Name "LookupError" p1) "__init__" p2) (e :: es) [] pos) (tLeI X.K ta) := by
  refine ⟨fun pins s σ H Q I h => ?_⟩
  refine PySem.W.methodCall_KW (ld_blt I hg hm PyProof.Rows.Boot.«LookupError» ?_ (by decide) (by decide)) hc
  obtain ⟨m0, fr0⟩ := I.fr
  refine PySem.W.method_type fr0 I.ok.mod.kin DLE.typ_LE (by decide +kernel) vV (by decide +kernel) ?_
  show wpAny _ _ (callWith pos (Value.builtin "LookupError.__init__") [] (backTo pos (starEach (e :: es) X.env)) []) _ _ _
  refine PyProof.Rows.callWith_method1 (thn (ha.run pos pins _ σ H _ (I.tok _) h) fun us s1 ⟨vs, H1, I1, r1, a, C, ws, ev, hl, T, ea, q⟩ => ?_) hst hpl
  subst ev
  cases r1 with
  | @cons _ u0 _ ur ra rb =>
    obtain rfl : u0 = Value.ref a := ra
    exact linit_ok T I1 ea (by rw [← Paired.length rb, sizeLine_eq]; omega) fun s2 J => ⟨.non, H1, J, rfl, q⟩
theorem ps_lst (ho : PE X o to) (he : PE X e te) (hs : swapsWith e (some (.Attribute o f p')) pos.line X.env = pure false := by rfl) : PS X (.Assign [.Attribute o f p'] e pos) (tLst X.K f to te) := by
  refine ⟨fun pins s σ H D I h => ?_⟩
  refine plainObj_wpAny_Assign_Attribute (thn (he.run pins s σ H _ I h) fun v s1 ⟨y, H1, I1, r1, q1⟩ => thn (ho.run pins s1 σ H1 _ I1 q1) fun u s2 ⟨x, H2, I2, r2, a, C, ex, T, tkr, q⟩ => ?_) hs
  subst ex
  obtain rfl : u = Value.ref a := r2
  rcases q with ⟨ea, q⟩ | ⟨dx, fs, ea, ed, hl, q⟩
  · exact lst_new T I2 ea tkr r1 fun dx s3 n ne J => ⟨σ, _, J, q dx n ne⟩
  · exact lst_next T I2 ea ed hl tkr r1 fun s3 J => ⟨σ, _, J, q⟩
/-- C(e, ..), made -/
theorem pmk_lex {CX : CXT} {x : Str} {C fI : Addr} {k : Nat} {fd : FuncData} {ps : List Str} {sp : Sp} {ds : List Value} {dvs : List V} (T : LexC X.K C) (iC : PySem.W.findIn X.K (.ref C) "__init__" = some (some (.ref fI))) (tI : PySem.W.typeIn X.K (.ref fI) = some (.type "function"))
    (F1 : FnOk X.prog X.w X.K X.mg X.base CX k fI fd ps sp) (hr : Room (k + 1) X.A) (hb : Binds X.K fd ps ds) (hd : Vals dvs ds) (hx : Passes CX X (fun _ _ _ => False)) (hg : Gl X x) (hm : X.mg x = some (.ref C)) (ha : PA X (e :: es) ta)
    (hdb : (x == ("__debug__" : Str)) = false := by decide) (hst : starEach (e :: es) X.env = (false, eval e X.env) :: starEach es X.env := by rfl) (hpl : (backTo pos (starEach es X.env)).any (·.1) = false := by rfl) :
    PMk X (.Call (.Name x p) (e :: es) [] pos) (tMkO C sp dvs ta) := by
  intro pins s σ H Q I h
  obtain ⟨n1, n2, n3, n4, n5, n6, n7, n8, n9, n10, n11, n12, n13, n14, n15, hC, rfl⟩ := T.cls
  refine wpAny_Call_Name_kw (ld_glob I hg hm ?_ hdb)
  refine PySem.W.callWith_K (h₀ := X.base) I.ok.mod.kin T.kC (thn (ha.run pos pins s σ H _ I h) fun us s1 ⟨vs, H1, I1, r1, hz, q1⟩ => ⟨I1.kIn, ?_⟩) hst hpl
  show wpAny _ _ (call (.ref C) us) _ _ _
  obtain ⟨hp, g, dr, tk, os⟩ := s1
  have more : hp.objs.size ≤ hp.objs.size + 1 := Nat.le_succ _
  have q2 := q1 (hp.objs.size + 1) (I1.hok.fresh more)
  have kk : ∀ b o, hp.get? b = some o → ((hp.push (PySem.W.kdv_tup us)).push (PySem.HandSPX.excO C hp.objs.size)).get? b = some o := fun b o z => Heap.get?_push_of_some _ (Heap.get?_push_of_some _ z)
  have got : ((hp.push (PySem.W.kdv_tup us)).push (PySem.HandSPX.excO C hp.objs.size)).get? (hp.objs.size + 1) = some (PySem.HandSPX.excO C hp.objs.size) := by heap_get
  have I2 := I1.laid (t' := tk) (a := hp.objs.size + 1) (o := exo (hp.objs.size + 1) C none) (h' := (hp.push (PySem.W.kdv_tup us)).push (PySem.HandSPX.excO C hp.objs.size)) kk more (exo_ok got)
  have r2 : Vals (V.ref (hp.objs.size + 1) :: (vs ++ dvs)) (Value.ref (hp.objs.size + 1) :: (us ++ ds)) := .cons rfl (r1.append hd)
  have len : (Value.ref (hp.objs.size + 1) :: us ++ ds).length = ps.length := by
    have z := r2.length
    rw [F1.len _ _ _ _ q2] at z
    exact z.symm
  refine wpAny_call (PySem.HandSPX.call_own F.excBase_LookupError (fun Y => rfl) (I1.kIn _ _ hC) (PySem.W.looks_findIn I1.kIn iC) (fun self => PySem.W.bind_fn I1.kIn self tI) (by rw [← Paired.length r1, sizeLine_eq]; omega)
    (codeAny_mono (F1.run _ X.stack _ _ ⟨Value.ref (hp.objs.size + 1) :: us, []⟩ (Value.ref (hp.objs.size + 1) :: (us ++ ds)) _ _ (fun _ _ _ => False) (hr.make C us []) (I2.env0.make C us []) (hb _ (Value.ref (hp.objs.size + 1) :: us) I2.kIn len) r2 q2) fun r s2 got2 => ?_))
  cases r with
  | error er => exact hx pins σ _ _ er s2 I2 got2
  | ok fl =>
    cases fl with
    | ret u =>
      obtain ⟨v, H2, os2, bare2, un2, hok2, rv, ev, d, fs, ea, ed, hd1, q3⟩ := got2
      subst ev
      obtain ⟨h2, g2, d2, t2, os3⟩ := s2
      exact ⟨rv, mk_end (raises_own T.exC T.tyC) I1 more kk un2 hok2 os2 bare2 ea ed hd1 q3⟩
    | next => exact got2.elim
    | brk => exact got2.elim
    | cont => exact got2.elim
end
end DL
namespace DL
open PySem PySem.Spec PyProof.Rows L2
/-! ### an own error over LookupError, of two fields: raised -/
/-- what its __init__ keeps -/
def spInit2 (K : PySem.W.Frag) (f1 f2 : Str) : Sp := fun vs H Q E => ∃ (a C : Addr) (y z : V), vs = [.ref a, y, z] ∧ LexC K C ∧ PySem.W.takerIn K C f1 = some none ∧ PySem.W.takerIn K C f2 = some none ∧ H a = some (exo a C none) ∧
  ∀ dx, H dx = none → dx ≠ a → Q .non (upd (upd (upd H dx (exd dx [(f1, y)])) a (exo a C (some dx))) dx (exd dx [(f2, z), (f1, y)]))
/-- what the written part says of it -/
structure OwnX2 (P : Program) (w : World) (K : PySem.W.Frag) (mg : Str → Option Value) (base : Heap) (x : Str) (C : Addr) (f1 f2 : Str) (k : Nat) : Prop where
  T : LexC K C
  m : mg x = some (.ref C)
  t1 : PySem.W.takerIn K C f1 = some none
  t2 : PySem.W.takerIn K C f2 = some none
  ex : ∃ fI fd ps, PySem.W.findIn K (.ref C) "__init__" = some (some (.ref fI)) ∧ PySem.W.typeIn K (.ref fI) = some (.type "function") ∧ FnOk P w K mg base CX0 k fI fd ps (spInit2 K f1 f2) ∧ Binds K fd ps []
section
variable {G : Ctx} {S : Addr → Prop} {σ : L2.St} {H H' : Hp} {ρ : List Slot} {pos : Pos}
theorem ds_raise2 {x f1 f2 : Str} {C : Addr} {k m : Nat} {a b : Expr} {Fa Fb : FE} {p pos pos' : Pos} (O : OwnX2 G.X.prog G.X.w G.X.K G.X.mg G.X.base x C f1 f2 k) (hr : Room m G.X.A) (ha : DE G a Fa) (hb : DE G b Fb) (hk : k + 1 ≤ m := by decide) (hc : G.X.calm = true := by rfl) (tk : TkG G := by exact takes_of rfl rfl rfl rfl) (hg : Gl G.X x := by rfl) (hdb : (x == ("__debug__" : Str)) = false := by decide)
    (hs : starEach [a, b] G.X.env = (false, eval a G.X.env) :: starEach [b] G.X.env := by rfl) (hs2 : starEach [b] G.X.env = (false, eval b G.X.env) :: starEach [] G.X.env := by rfl) (hpl : (backTo pos (starEach [b] G.X.env)).any (·.1) = false := by rfl) :
    DS G (.Raise (some (.Call (.Name x p) [a, b] [] pos)) none pos') (fun _ ρ => Fa ρ fun d => Fb ρ fun e => G.EX (C, [(f2, e), (f1, d)])) := by
  obtain ⟨fI, fd, ps, i1, i2, F1, hbd⟩ := O.ex
  obtain ⟨t, h1, l1⟩ := ha.ex
  obtain ⟨t', h2, l2⟩ := hb.ex
  have hx : Passes CX0 G.X (fun _ _ _ => False) := pass0
  refine ⟨⟨_, ps_raise hc tk (pmk_lex O.T i1 i2 F1 (hr.mono hk) hbd .nil hx hg O.m (pa_cons h1 (pa_cons h2 pa_nil hs2) hs) hdb hs hpl), fun S σ H ρ D Dh g h q => ?_⟩⟩
  refine l1 S σ H ρ _ _ g h fun v d H1 st hv hp => ?_
  refine l2 S σ H1 ρ _ _ (g.step st) hp fun v2 d2 H2 st2 hv2 hp => ?_
  refine ⟨show 2 ≤ 1000 by decide, fun a na => ?_⟩
  have g2 := (g.step st).step st2
  refine ⟨a, C, v, v2, rfl, O.T, O.t1, O.t2, upd_same, fun dx ndx dne => ⟨rfl, dx, [(f2, v2), (f1, v)], ?_, upd_same, ?_, ?_⟩⟩
  · rw [upd_ne (fun z => dne z.symm), upd_same]
  · rw [upd_ne dne] at ndx; exact ndx
  · rw [upd_ne dne] at ndx
    refine elink' (x := (C, [(f2, d2), (f1, d)])) (fs := [(f2, v2), (f1, v)]) g2 hp (H' := _) ?_ ndx upd_same rfl ?_
    · intro b o e
      have h1 : b ≠ dx := fun z => by rw [z, ndx] at e; cases e
      have h2 : b ≠ a := fun z => by rw [z, na] at e; cases e
      rw [upd_ne h1, del_ne h2, upd_ne h1, upd_ne h2, upd_ne h1, upd_ne h2]
      exact e
    · have ex : Evl.Ex H2 (upd (del (upd (upd (upd (upd H2 a (exo a C none)) dx (exd dx [(f1, v)])) a (exo a C (some dx))) dx (exd dx [(f2, v2), (f1, v)])) a) dx (.xd [(f2, v2), (f1, v)])) := fun b o e => by
        have h1 : b ≠ dx := fun z => by rw [z, ndx] at e; cases e
        have h2 : b ≠ a := fun z => by rw [z, na] at e; cases e
        rw [upd_ne h1, del_ne h2, upd_ne h1, upd_ne h2, upd_ne h1, upd_ne h2]
        exact e
      exact ⟨v2, [v], rfl, (Stp.ex g2.wld ex).dv g2 hv2, v, [], rfl, (Stp.ex g2.wld ex).dv g2 (st2.dv (g.step st) hv), rfl⟩
end
end DL
namespace K01
open PySem PySem.Spec PyProof.Rows L2 DL LamX
abbrev s__law_class : Stmt := topS 27
theorem sc__law_class : FnScope ["error"] ["error"] (defScope s__law_class) := ⟨rfl, rfl, rfl, by decide +kernel, rfl, by decide +kernel, by decide +kernel⟩
abbrev s__law_told : Stmt := topS 28
theorem sc__law_told : FnScope ["deed", "error", "found", "e"] ["deed"] (defScope s__law_told) := ⟨rfl, rfl, rfl, by decide +kernel, rfl, by decide +kernel, by decide +kernel⟩
/-! ### an error told by its class: any of the three -/
/-- what the written part says of the errors' classes -/
structure ErrA (K : PySem.W.Frag) (mg : Str → Option Value) (CB CT CN : Addr) : Prop where
  isi : mg "isinstance" = none
  ve : mg "ValueError" = none
  le : mg "LookupError" = none
  mB : mg "BadValue" = some (.ref CB)
  mT : mg "BadText" = some (.ref CT)
  mN : mg "NoFit" = some (.ref CN)
  eB : ExcC K CB
  eN : ExcC K CN
  xB : XfC K CB
  xN : XfC K CN
  noB : PySem.W.findIn K (.ref CB) "what" = some none
  noN : PySem.W.findIn K (.ref CN) "what" = some none
  noM : PySem.W.findIn K (.ref CN) "name" = some none
  bT : PySem.W.kitOne K (.ref CB) (.ref CT) = some false
  bV : PySem.W.kitOne K (.ref CB) (.type "ValueError") = some true
  nT : PySem.W.kitOne K (.ref CN) (.ref CT) = some false
  nB : PySem.W.kitOne K (.ref CN) (.ref CB) = some false
  nL : PySem.W.kitOne K (.ref CN) (.type "LookupError") = some true
  anyB : PySem.W.exmAny K (.ref CB) [.ref CB, .ref CN] = some true
  anyN : PySem.W.exmAny K (.ref CN) [.ref CB, .ref CN] = some true
/-- how an error is told -/
def ToldV (CB CN C : Addr) (fs : List (Str × V)) (ws : List V) : Prop :=
  (C = CB ∧ ∃ v, fs.lookup ("what" : Str) = some v ∧ ws = [.str "value", v]) ∨ (C = CN ∧ ∃ v u, fs.lookup ("what" : Str) = some v ∧ fs.lookup ("name" : Str) = some u ∧ ws = [.str "no fit", v, u])
def spClassA (CB CN : Addr) : Sp := fun vs H Q E => ∃ (a dd C : Addr) (fs : List (Str × V)) (ws : List V), vs = [.ref a] ∧ H a = some (errO a (.ref C) (some dd)) ∧ H dd = some (.xd fs) ∧ ToldV CB CN C fs ws ∧ ∀ p, H p = none → Q (.ref p) (upd H p (.tup ws))
section
variable {P : Program} {w : World} {K : PySem.W.Frag} {mg : Str → Option Value} {base : Heap} {f f2 : Addr} {fd fd2 : FuncData} {k : Nat}
theorem ok_law_classA {CB CT CN : Addr} (C : ErrA K mg CB CT CN) (F : Fun K "_law_class" "_law_class" s__law_class f fd) : FnOk P w K mg base CX0 (k + 1) f fd ["error"] (spClassA CB CN) := by
  refine F.ok sc__law_class (fun vs H Q E ⟨a, dd, C, fs, ws, e, _⟩ => by rw [e]; rfl) fun cdv A outer s H vs Q E hr h => ?_
  obtain ⟨a, dd, D, fs, ws, rfl, ea, ed, tv, q⟩ := h
  refine ⟨_, pss_cons (ps_if (pt_val (pe_callB call_isK (by rfl) C.isi (by decide +kernel) (pa_cons (pv 0) (pa_cons (pe_glob (v := .ref CT) (by rfl) C.mT rfl) pa_nil)))) pss_never pss_nil)
    (pss_cons (ps_if (pt_val (pe_callB call_isK (by rfl) C.isi (by decide +kernel) (pa_cons (pv 0) (pa_cons (pe_glob (v := .ref CB) (by rfl) C.mB rfl) pa_nil))))
      (pss_one (ps_ret (pe_ifExp (pt_val (pe_callB call_isK (by rfl) C.isi (by decide +kernel) (pa_cons (pv 0) (pa_cons (pe_bltn (v := .ty "ValueError") (by rfl) C.ve (by decide +kernel) rfl) pa_nil)))) (pe_tup (pa_cons pe_str (pa_cons (pe_xk (pv 0)) pa_nil))) pe_never))) pss_nil)
      (pss_one (ps_ret (pe_ifExp (pt_val (pe_callB call_isK (by rfl) C.isi (by decide +kernel) (pa_cons (pv 0) (pa_cons (pe_bltn (v := .ty "LookupError") (by rfl) C.le (by decide +kernel) rfl) pa_nil)))) (pe_tup (pa_cons pe_str (pa_cons (pe_xk (pv 0)) (pa_cons (pe_xk (pv 0)) pa_nil)))) pe_never)))), ?_⟩
  rcases tv with ⟨rfl, v, el, rfl⟩ | ⟨rfl, v, u, el, em, rfl⟩
  · refine ⟨_, rfl, a, D, dd, fs, .ref CT, .ref CT, false, rfl, ea, ed, C.eB, fun u r => r, C.bT, ?_⟩
    refine ⟨false, rfl, ?_⟩
    refine ⟨_, rfl, a, D, dd, fs, .ref D, .ref D, true, rfl, ea, ed, C.eB, fun u r => r, by simp [PySem.W.kitOne], true, rfl, ?_⟩
    refine ⟨_, rfl, a, D, dd, fs, .ty "ValueError", .type "ValueError", true, rfl, ea, ed, C.eB, fun u r => r, C.bV, true, rfl, ?_⟩
    refine ⟨_, rfl, a, D, dd, fs, v, rfl, ea, C.xB, C.noB, ed, el, show 2 ≤ sizeLine by decide, fun p np => q p np⟩
  · refine ⟨_, rfl, a, D, dd, fs, .ref CT, .ref CT, false, rfl, ea, ed, C.eN, fun u r => r, C.nT, ?_⟩
    refine ⟨false, rfl, ?_⟩
    refine ⟨_, rfl, a, D, dd, fs, .ref CB, .ref CB, false, rfl, ea, ed, C.eN, fun u r => r, C.nB, false, rfl, ?_⟩
    refine ⟨_, rfl, a, D, dd, fs, .ty "LookupError", .type "LookupError", true, rfl, ea, ed, C.eN, fun u r => r, C.nL, true, rfl, ?_⟩
    refine ⟨_, rfl, a, D, dd, fs, v, rfl, ea, C.xN, C.noN, ed, el, _, rfl, a, D, dd, fs, u, rfl, ea, C.xN, C.noM, ed, em, show 3 ≤ sizeLine by decide, fun p np => q p np⟩
end
/-! ### a deed told -/
/-- what is wished of an error that a deed raises: told by its class -/
def eToldA (CB CN : Addr) (Q : VK) : XK := fun cls d H' => ∃ (C dd : Addr) (fs : List (Str × V)) (ws : List V), cls = .ref C ∧ d = some dd ∧ H' dd = some (.xd fs) ∧ ToldV CB CN C fs ws ∧
  ∀ a p, H' a = none → upd H' a (errO a (.ref C) (some dd)) p = none → Q (.ref p) (upd (upd H' a (errO a (.ref C) (some dd))) p (.tup ws))
def TTA (CB CN : Addr) : (XK → Hp → VK → Prop) → Hp → VK → Prop := fun tl H Q => ∀ l, H l = none → ∀ R : VK, (∀ v H1, (∀ p, H1 p = none → Q (.ref p) (upd H1 p (.lst [v]))) → R v H1) → tl (eToldA CB CN Q) (upd H l (.lst [])) R
theorem told_readsA {X : Cx} {CB CT CN g fC : Addr} {cdg : Value} {fdC : FuncData} {q : Str} {k : Nat} (N : ErrA X.K X.mg CB CT CN) (FC : FnOk X.prog X.w X.K X.mg X.base CX0 k fC fdC ["error"] (spClassA CB CN)) (mC : X.mg "_law_class" = some (.ref fC)) (kC : PySem.W.keepIn X.K (.ref fC) = true) (bC : L2.Binds X.K fdC ["error"] [])
    (hr : ∀ s : Shared, Room k (X.A.deeper (envOfC "_law_told" (defScope s__law_told) s.heap.objs.size g cdg))) : GivesTo X ["deed", "error", "found", "e"] "_law_told" (defScope s__law_told) g cdg (defBody s__law_told) "deed" q (TTA CB CN) := by
  intro f c' s H Q tl act hc h
  have nd := sc__law_told.nd
  refine ⟨_, pss_cons (ps_set (i := 1) nd rfl (Or.inl rfl) pe_non rfl (.inr rfl)) (pss_cons (ps_set (i := 2) nd rfl (Or.inl rfl) (pe_lst pa_nil) rfl (.inr rfl))
    (pss_cons (ps_try_keep (c1 := .ref CB) (c2 := .ref CN) (i := 3) (tb := fun W D σ H => ∃ Ech : XK, (∀ cls d σ' H', Ech cls d H' → W cls d σ' H') ∧ σ[0]? = some (some (.ref f)) ∧ H c' = some (CodeO c' q) ∧ tl Ech H (fun v H1 => [v].length ≤ sizeLine ∧ ∀ p, H1 p = none → D.nx (σ.set 2 (some (.ref p))) (upd H1 p (.lst [v])))) rfl rfl rfl nd rfl rfl ⟨rfl, by decide, .inl N.mB⟩ ⟨rfl, by decide, .inl N.mN⟩
        (fun W pn xe tk _ => ⟨fun pins s' σ H' D I h' => ?_⟩) (fun a oe cls d pn _ _ => pss_one (ps_set (i := 1) nd rfl (Or.inl rfl) (pv 3) rfl (.inr rfl))))
      (pss_one (ps_ret (pe_ifExp (pt_cmp (pc_isN (pv 1))) (pv 2) (pe_call FC (hr s) (by rfl) mC kC bC .nil pass0 (pa_cons (pv 1) pa_nil))))))), ?_⟩
  · obtain ⟨Ech, hW, h1, h2, h3⟩ := h'
    exact (pss_one (ps_set (i := 2) nd rfl (Or.inl rfl) (pe_lst (pa_cons (act W pn xe Ech _ _ tk hW) pa_nil)) rfl (.inr rfl))).run pins s' σ H' D I ⟨h1, h2, h3⟩
  · refine ⟨show 0 ≤ sizeLine by decide, fun l hl => ?_⟩
    have hcl : upd H l (.lst []) c' = some (CodeO c' q) := by rw [upd_ne (ne_of_none hc hl)]; exact hc
    refine ⟨eToldA CB CN Q, ?_, rfl, hcl, ?_⟩
    · rintro cls d σ' H' ⟨C, dd, fs, ws, rfl, rfl, ed, tv, hq⟩
      refine ⟨?_, fun hlen a na => ?_⟩
      · rcases tv with ⟨rfl, _⟩ | ⟨rfl, _⟩
        · exact N.anyB
        · exact N.anyN
      have h4 : σ'.length = 4 := hlen
      refine ⟨.ref a, by rw [List.getElem?_set_self (by omega)], ?_⟩
      have e1 : (((σ'.set 3 (some (V.ref a))).set 1 (some (V.ref a))).set 3 none)[1]? = some (some (V.ref a)) := by
        rw [List.getElem?_set_ne (by decide), List.getElem?_set_self (by simp; omega)]
      have ne : dd ≠ a := ne_of_none ed na
      refine ⟨.ref a, e1, false, rfl, .ref a, e1, a, dd, C, fs, ws, rfl, upd_same, by rw [upd_ne ne]; exact ed, tv, fun p np => hq a p na np⟩
    · exact h l hl _ fun v H1 hv => ⟨show 1 ≤ sizeLine by decide, fun p np => ⟨.non, rfl, true, rfl, .ref p, rfl, hv p np⟩⟩
/-! ### a lambda of whatever expression, told -/
def noOwnS : DL.Slot → DL.Slot
  | .own _ => .un
  | .ownd _ _ => .un
  | .ownt _ _ => .un
  | .ownp _ _ => .un
  | s => s
/-- how an error is told, by what its fields stand for -/
def ToldD (CB CN : Addr) (x : Exc) (ds : List Dat) : Prop :=
  (x.1 = CB ∧ ∃ d, x.2.lookup ("what" : Str) = some d ∧ ds = [.str "value", d]) ∨ (x.1 = CN ∧ ∃ d e, x.2.lookup ("what" : Str) = some d ∧ x.2.lookup ("name" : Str) = some e ∧ ds = [.str "no fit", d, e])
theorem toldD_bad {CB CN : Addr} {w : Str} : ToldD CB CN (badX CB w) [.str "value", .str w] := .inl ⟨rfl, _, rfl, rfl⟩
theorem toldD_no {CB CN : Addr} {w z : Str} : ToldD CB CN (noX CN w z) [.str "no fit", .str w, .str z] := .inr ⟨rfl, _, _, rfl, rfl, rfl⟩
theorem lookup_dv {K : PySem.W.Frag} {S : Addr → Prop} {H : Hp} {n : Str} : ∀ {xs : List (Str × Dat)} {fs : List (Str × V)} {d : Dat}, fs.map (·.1) = xs.map (·.1) → DvL K S H (xs.map (·.2)) (fs.map (·.2)) → xs.lookup n = some d → ∃ v, fs.lookup n = some v ∧ Dv K S H d v
  | [], _, _, _, _, h => by cases h
  | (m, e) :: xs, [], _, h, _, _ => by cases h
  | (m, e) :: xs, (m', v') :: fs, d, h, hv, hl => by
    obtain ⟨v, r, e1, h1, h2⟩ := (hv : ∃ v r, v' :: fs.map (·.2) = v :: r ∧ Dv K S H e v ∧ DvL K S H (xs.map (·.2)) r)
    injection e1 with e1 e2
    subst e1
    subst e2
    injection h with h3 h4
    obtain rfl : m' = m := h3
    rw [List.lookup_cons] at hl ⊢
    cases c : n == m' with
    | true =>
      rw [c] at hl
      cases hl
      exact ⟨_, rfl, h1⟩
    | false =>
      rw [c] at hl
      exact lookup_dv h4 h2 hl
theorem toldV_of {K : PySem.W.Frag} {S : Addr → Prop} {H : Hp} {CB CN C : Addr} {xs : List (Str × Dat)} {fs : List (Str × V)} {ds : List Dat} (h : ToldD CB CN (C, xs) ds) (hn : fs.map (·.1) = xs.map (·.1)) (hv : DvL K S H (xs.map (·.2)) (fs.map (·.2))) : ∃ ws, ToldV CB CN C fs ws ∧ DvL K S H ds ws := by
  rcases h with ⟨e, d, hl, rfl⟩ | ⟨e, d, d2, hl, hl2, rfl⟩
  · obtain ⟨v, h1, h2⟩ := lookup_dv hn hv hl
    exact ⟨_, .inl ⟨e, v, h1, rfl⟩, _, _, rfl, rfl, v, [], rfl, h2, rfl⟩
  · obtain ⟨v, h1, h2⟩ := lookup_dv hn hv hl
    obtain ⟨u, h3, h4⟩ := lookup_dv hn hv hl2
    exact ⟨_, .inr ⟨e, v, u, h1, h3, rfl⟩, _, _, rfl, rfl, v, _, rfl, h2, u, [], rfl, h4, rfl⟩
abbrev ElT (K : PySem.W.Frag) (H : Hp) (S : Addr → Prop) (E : XK) (EX : Exc → Prop) : Prop := ∀ (C d : Addr) (fs : List (Str × V)) (ds : List (Str × Dat)) (H' : Hp), EX (C, ds) → Evl.Ex H H' → H' d = some (.xd fs) → fs.map (·.1) = ds.map (·.1) → DvL K S H' (ds.map (·.2)) (fs.map (·.2)) → H d = none → E (.ref C) (some d) H'
/-- where a lambda's body is walked -/
abbrev lamG (X : Cx) (A : Around) (outer : List Env) (s : Shared) (HL : Hp) (scope : Scope) (f c' : Addr) (H : Hp) (S : Addr → Prop) (hS : ∀ a, S a → ∃ o, H a = some o) (E : XK) (EX : Exc → Prop)
    (el : ElT X.K H S E EX) : DL.Ctx where
  X := lamCx X A outer s HL E scope f c'
  H0 := H
  S0 := S
  W := Evl.Ex H
  clo := fun H1 H2 h k _ a o e => k a o o e (h a o e)
  top := fun H1 h a o e => ⟨o, h a o e⟩
  s0 := hS
  E := E
  EX := EX
  elink := el
/-- what the caller of _law_told must know -/
structure ToldA (P : Program) (w : World) (K : PySem.W.Frag) (mg : Str → Option Value) (base : Heap) (CB CT CN : Addr) (k : Nat) : Prop where
  N : ErrA K mg CB CT CN
  cls : ∃ f fd, FnOk P w K mg base CX0 k f fd ["error"] (spClassA CB CN) ∧ mg "_law_class" = some (.ref f) ∧ PySem.W.keepIn K (.ref f) = true ∧ Binds K fd ["error"] []
  told : ∃ f fd, Fun K "_law_told" "_law_told" s__law_told f fd ∧ mg "_law_told" = some (.ref f) ∧ PySem.W.keepIn K (.ref f) = true ∧ Binds K fd ["deed"] []
section
variable {ι : Type} {G : Fam ι} {π : ι → Unit} {u : ι → Unit → ι}
theorem dr_toldA {CB CT CN c Pt : Addr} {q : Str} {k m : Nat} {F : (A : Around) → (outer : List Env) → (s : Shared) → (HL : Hp) → (f c' : Addr) → (H : Hp) → (S : Addr → Prop) → (hS : ∀ a, S a → ∃ o, H a = some o) → (E : XK) → (EX : Exc → Prop) → ElT G.X.K H S E EX → FE} {params : Arguments} {body : Expr} {scope : Scope} {p lpos pos : Pos} (gs : GS G (tabSta Pt q) π u) (T : ToldA G.X.prog G.X.w G.X.K G.X.mg G.X.base CB CT CN k) (TB : TabB G.X.base G.X.mg c Pt) (hcode : G.X.env.code = .ref c) (hr : Room m G.X.A) (L : LamS G.X.env.scope scope)
    (hbody : ∀ (A : Around) (outer : List Env) (s : Shared) (HL : Hp) (f c' : Addr) (H : Hp) (S : Addr → Prop) (hS) (E : XK) (EX : Exc → Prop) (el), Room k (A.deeper (lamEnv G.X scope s.heap.objs.size f c')) → DE (lamG G.X A outer s HL scope f c' H S hS E EX el) body (F A outer s HL f c' H S hS E EX el))
    (hk : k + 2 ≤ m := by omega) (hq : G.X.env.qual ++ "<lambda>" = q := by rfl) (hg : Gl G.X "_law_told" := by rfl) (hdef : defaultsOf params G.X.env = ([], []) := by rfl)
    (hbind : ∀ (q : Str) (cl : List (Str × Addr)) (pm cv ctv : Value), bindArgs (PySem.W.kla_fn "<lambda>" q params body scope cl pm cv ctv) ⟨[], []⟩ = pure [] := by intro _ _ _ _ _; rfl) :
    DR G (.Call (.Name "_law_told" p) [.Lambda params body scope lpos] [] pos) (fun ρ i P => ∃ R : Dat → Prop, (∀ (A : Around) (outer : List Env) (s : Shared) (HL : Hp) (f c' : Addr) (H : Hp) (S : Addr → Prop) (hS : ∀ a, S a → ∃ o, H a = some o) (E : XK) (el : ElT G.X.K H S E (fun x => ∃ ds, ToldD CB CN x ds ∧ R (.tup ds))), F A outer s HL f c' H S hS E (fun x => ∃ ds, ToldD CB CN x ds ∧ R (.tup ds)) el (ρ.map noOwnS) (fun d => R (.lst [d]))) ∧ ∀ d, R d → P d (u i ())) := by
  obtain ⟨fC, fdC, FC, mC, kC, bC⟩ := T.cls
  obtain ⟨g, fd, FT, mT, kT, bT⟩ := T.told
  obtain ⟨oc, od, kV, doc, pm, an, cdv, ct, osl, rfl, lk, hcd⟩ := FT.ex
  refine ⟨⟨_, pe_lamP (P := Pt) (k := k) (t := fun E σ H Q => ∀ (A : Around) (outer : List Env) (s : Shared) (HL : Hp) (f c' : Addr), Room k (A.deeper (lamEnv G.X scope s.heap.objs.size f c')) → ∃ t0 : TE, PE (lamCx G.X A outer s HL E scope f c') body t0 ∧ t0 σ H Q) hg mT kT lk hcd bT sc__law_told rfl (Or.inl rfl) (told_readsA T.N FC mC kC bC fun s => Room.mono ((hr.mono hk).deeper _) (Nat.le_succ k)) TB hcode hq (hr.mono hk) L hdef hbind (fun A outer s H E f c' hr' => ?_), fun S σ H ρ i P Q g h q' => ?_⟩⟩
  · refine ⟨fun pins s0 σ0 H0 Q0 I h0 => ?_⟩
    obtain ⟨t0, p0, h1⟩ := h0 A outer s H f c' hr'
    exact p0.run pins s0 σ0 H0 Q0 I h1
  · obtain ⟨R0, h, hR0⟩ := h
    have SP : S Pt := g.sub Pt (gs.sub Pt rfl)
    have nP : ∀ a, ¬ S a → a ≠ Pt := fun a n e => n (by rw [e]; exact SP)
    refine ⟨gs.get i H g.wld, fun H1 eP T1 l hl R hR A outer s0 HL f c' hr' => ?_⟩
    have kp : ∀ a o, ¬ S a → H a = some o → upd H1 l (.lst []) a = some o := fun a o n e => by
      have e1 := eP a o (nP a n) e
      rw [upd_ne (ne_of_none e1 hl)]; exact e1
    have hS : ∀ a, S a → ∃ o, upd H1 l (.lst []) a = some o := fun a hs => by
      obtain ⟨o, e⟩ := g.all a hs
      by_cases ha : a = Pt
      · obtain ⟨ps, h1, _⟩ := id T1
        exact ⟨_, by rw [ha, upd_ne (ne_of_none h1 hl)]; exact h1⟩
      · exact ⟨o, by rw [upd_ne (ne_of_none (eP a o ha e) hl)]; exact eP a o ha e⟩
    have stay : ∀ {H2 : Hp}, Evl.Ex (upd H1 l (.lst [])) H2 → ∀ b o, H1 b = some o → H2 b = some o := fun ex b o e1 => ex b o (by rw [upd_ne (ne_of_none e1 hl)]; exact e1)
    have freshIf : ∀ {H2 : Hp} {p0 : Addr}, (∀ b o, H1 b = some o → H2 b = some o) → H2 p0 = none → H p0 = none := fun {H2 p0} no np => by
      cases e : H p0 with
      | none => rfl
      | some o =>
        have e3 : ∃ o', H1 p0 = some o' := by
          by_cases hb : p0 = Pt
          · obtain ⟨ps, h1, _⟩ := id T1
            exact ⟨_, by rw [hb]; exact h1⟩
          · exact ⟨o, eP p0 o hb e⟩
        obtain ⟨o', e3⟩ := e3
        have e4 := no p0 o' e3
        rw [np] at e4
        cases e4
    have stpOf : ∀ {H2 : Hp}, (∀ b o, H1 b = some o → H2 b = some o) → StpI G (u i ()) H H2 := fun on => gs.stp (j := ()) g.wld (fun b o nb e => on b o (eP b o nb e)) (T1.ext on)
    have el : ElT G.X.K (upd H1 l (.lst [])) S (eToldA CB CN Q) (fun x => ∃ ds, ToldD CB CN x ds ∧ R0 (.tup ds)) := fun C d fs xs H2 hx ex hd hn hv nd => by
      obtain ⟨ds, td, hP⟩ := hx
      obtain ⟨ws, tv, hw⟩ := toldV_of td hn hv
      refine ⟨C, d, fs, ws, rfl, rfl, hd, tv, fun a p1 na np => ?_⟩
      have no : ∀ b o, H1 b = some o → upd H2 a (errO a (.ref C) (some d)) b = some o := fun b o e1 => by
        have e2 := stay ex b o e1
        rw [upd_ne (ne_of_none e2 na)]; exact e2
      have on : ∀ b o, H1 b = some o → upd (upd H2 a (errO a (.ref C) (some d))) p1 (.tup ws) b = some o := fun b o e1 => by
        have e3 := no b o e1
        rw [upd_ne (ne_of_none e3 np)]; exact e3
      refine q' _ (.tup ds) _ _ (stpOf on) ⟨p1, ws, rfl, .inl ⟨g.fresh (freshIf no np), upd_same⟩, hw.move fun b o n e => ⟨n, ?_⟩⟩ (hR0 _ hP)
      have e2 : upd H2 a (errO a (.ref C) (some d)) b = some o := by rw [upd_ne (ne_of_none e na)]; exact e
      rw [upd_ne (ne_of_none e2 np)]; exact e2
    obtain ⟨t0, p0, l0⟩ := (hbody A outer s0 HL f c' (upd H1 l (.lst [])) S hS (eToldA CB CN Q) _ el hr').ex
    refine ⟨t0, p0, l0 S σ _ (ρ.map noOwnS) _ R ⟨fun _ _ e => e, hS, fun _ z => z, by rw [List.length_map]; exact g.len, fun j sj hs => ?_, fun j1 j2 s1 s2 v h1 h2 o1 o2 _ _ => ?_⟩ (h A outer s0 HL f c' (upd H1 l (.lst [])) S hS (eToldA CB CN Q) el) fun v d H2 st hv hP => ?_⟩
    · rw [List.getElem?_map] at hs
      cases e : ρ[j]? with
      | none => rw [e] at hs; cases hs
      | some t =>
        rw [e] at hs
        cases hs
        have qs := g.slots j t e
        cases t with
        | un => exact trivial
        | d x =>
          cases o : σ[j]?.join with
          | none => rw [o] at qs; exact qs.elim
          | some v => rw [o] at qs; exact Dv.move (fun a o n e => ⟨n, kp a o n e⟩) x v qs
        | raw w =>
          cases o : σ[j]?.join with
          | none => rw [o] at qs; exact qs.elim
          | some v => rw [o] at qs; exact qs
        | scr ns =>
          cases o : σ[j]?.join with
          | none => rw [o] at qs; exact qs.elim
          | some v => rw [o] at qs; exact ScrOk.move qs fun a o n e => ⟨n, kp a o n e⟩
        | own _ => exact trivial
        | ownd _ _ => exact trivial
        | ownt _ _ => exact trivial
        | ownp _ _ => exact trivial
    · rw [List.getElem?_map] at h1
      cases e : ρ[j1]? with
      | none => rw [e] at h1; cases h1
      | some t =>
        rw [e] at h1
        cases h1
        cases t <;> cases o1
    · have no : ∀ b o, H1 b = some o → H2 b = some o := stay st.wld
      refine hR v H2 fun p1 np => ?_
      have on : ∀ b o, H1 b = some o → upd H2 p1 (.lst [v]) b = some o := fun b o e1 => by
        have e3 := no b o e1
        rw [upd_ne (ne_of_none e3 np)]; exact e3
      refine q' _ (.lst [d]) _ _ (stpOf on) ⟨p1, _, rfl, g.fresh (freshIf no np), upd_same, v, [], rfl, hv.move fun a o n e => ⟨n, ?_⟩, rfl⟩ (hR0 _ hP)
      rw [upd_ne (ne_of_none e np)]; exact e
end
end K01
namespace DL
open PySem PySem.Spec PyProof.Rows L2
def isLst (d : Dat) (P : List Dat → Prop) : Prop := match d with
  | .lst ds => P ds
  | _ => False
section
variable {ι : Type} {G : Fam ι} {Fa : FR ι} {e : Expr}
/-- for name in a list, by a word of what is left, the slots and the index -/
theorem dsr_forLst {x : Str} {xp fp : Pos} {body : List Stmt} {Fb : FSR ι} (n : Nat) (hp : PassesOwn (model G.X.prog G.X.w) G.X.A G.X.env G.X.xe) (hc : G.X.calm = true) (ha : DR G e Fa) (hb : DBR G body Fb) (hN : G.X.N.Nodup) (hi : G.X.N[n]? = some x := by rfl) (hx : Loc G.X.env.scope x := by first | exact Or.inl rfl | exact Or.inr rfl)
    (hf : G.X.fn x = true ∨ G.X.env.scope.names.lookup x = some .local := by first | exact .inl rfl | exact .inr rfl) (hs2 : ∀ z, foldedSetIterable e G.X.env z = pure z := by intro _; rfl) :
    DSR G (.For (.Name x xp) e body [] fp) (fun D ρ i => ∃ Inv : List Dat → List Slot → ι → Prop, (Fa ρ i fun d j => isLst d fun ds => Inv ds ρ j) ∧ (∀ ρ j, Inv [] ρ j → D.nx ρ j) ∧ ∀ d ds ρ j, Inv (d :: ds) ρ j → Fb { nx := Inv ds, ct := Inv ds, bk := D.nx, rt := D.rt } (ρ.set n (.d d)) j) := by
  obtain ⟨t, h1, l1⟩ := ha.ex
  obtain ⟨u, h3, lb⟩ := hb.ex
  refine ⟨⟨_, ps_for hp hc (pi_seq h1) (pg_name (i := n) hN hi hx hf) h3 hs2, fun S σ H ρ i D Dh gd h q => ?_⟩⟩
  obtain ⟨Inv, h, k0, ks⟩ := h
  refine l1 S σ H ρ i _ _ gd h fun v d H1 j0 st hv hl => ?_
  cases d with
  | lst ds =>
    obtain ⟨p, xs, rfl, np, ep, hxs⟩ := dv_lst hv
    refine ⟨p, rfl, .inl ⟨⟨xs, .inl (.inl ep)⟩, ?_⟩⟩
    have g1 := gd.stepI st
    have fr1 : Fr S H S H1 := st.fr gd
    have wk : ∀ j : ι, WalkOk (G.at j) (Itl G.X.K p) ds S H1 := fun j => walk_lst np ep hxs
    refine ⟨fun r m σ' H' => m = ds.length - r ∧ r ≤ ds.length ∧ ∃ S' ρ' j, Gd (G.at j) S' σ' H' ρ' ∧ Fr S H1 S' H' ∧ Inv (ds.drop r) ρ' j, ⟨_, rfl, Nat.zero_le _, S, ρ, j0, g1, Fr.refl _ _, hl⟩, ?_⟩
    rintro r m σ' H' ⟨rfl, hr, S', ρ', j, g', fr, hf'⟩
    by_cases hlt : r < ds.length
    · refine .inr ⟨(wk j).go r S' H' hlt fr, fun σ2 H2 => ∃ S2 ρ2 j2, Gd (G.at j2) S2 σ2 H2 ρ2 ∧ Fr S H1 S2 H2 ∧ Inv (ds.drop (r + 1)) ρ2 j2, fun σ2 H2 ⟨S2, ρ2, j2, a1, a2, a3⟩ => ⟨_, by omega, rfl, hlt, S2, ρ2, j2, a1, a2, a3⟩, fun z H2 y => ?_⟩
      obtain ⟨s2, hd⟩ := (wk j).yld r _ S' σ' ρ' H' z H2 (List.getElem?_eq_getElem hlt) g' fr y
      have g2 := g'.step s2
      rw [List.drop_eq_getElem_cons hlt] at hf'
      have frx : Fr S' H' S' H2 := s2.fr g'
      refine lb S' _ H2 _ j _ _ (g2.set hd) (ks _ _ _ _ hf') ⟨fun S4 σ4 H4 ρ4 j4 g4 fr4 hn => ⟨S4, ρ4, j4, g4, (fr.trans frx).trans fr4, hn⟩, q.rt, fun S4 σ4 H4 ρ4 j4 g4 fr4 hn => q.nx S4 σ4 H4 ρ4 j4 g4 (fr1.trans ((fr.trans frx).trans fr4)) hn, fun S4 σ4 H4 ρ4 j4 g4 fr4 hn => ⟨S4, ρ4, j4, g4, (fr.trans frx).trans fr4, hn⟩⟩
    · have e : r = ds.length := by omega
      subst e
      rw [List.drop_length] at hf'
      exact .inl ⟨(wk j).stop S' H' fr, q.nx S' σ' H' ρ' j g' (fr1.trans fr) (k0 _ _ hf')⟩
  | _ => exact hl.elim
/-- a state that is opened: a family from here on -/
abbrev famAt {κ : Type} (X : Cx) (H : Hp) (S : Addr → Prop) (hS : ∀ a, S a → ∃ o, H a = some o) (st : Sta κ) (i0 : κ) (h0 : st.M i0 H) : Fam κ where
  X := X
  H0 := H
  S0 := S
  W := fun i H' => ExF st.fp H H' ∧ st.M i H'
  clo := fun i H1 H2 h k x => ⟨fun a o n e => k a o o e (h.1 a o n e), st.loc i H1 H2 h.2 (fun a o z e => by
    obtain ⟨o0, e0⟩ := st.dom i0 H h0 a z
    exact k a o o0 e0 e) x⟩
  top := fun i H1 h a o e => by
    by_cases z : st.fp a
    · exact st.dom i H1 h.2 a z
    · exact ⟨o, h.1 a o z e⟩
  s0 := hS
theorem gs_at {κ : Type} {X : Cx} {H : Hp} {S : Addr → Prop} {hS : ∀ a, S a → ∃ o, H a = some o} {st : Sta κ} {i0 : κ} {h0 : st.M i0 H} (hf : ∀ a, st.fp a → S a) : GS (famAt X H S hS st i0 h0) st (fun i => i) (fun _ j => j) :=
  ⟨hf, fun _ _ h => h.2, fun i j H1 H2 h e m => ⟨h.1.trans e, m⟩⟩
/-- statements, by whatever reading holds where they are begun -/
theorem pss_any {X : Cx} {sts : List Stmt} : PSs X sts (fun D σ H => ∃ t : TS, PSs X sts t ∧ t D σ H) := ⟨fun pins s σ H D I ⟨_, hp, hq⟩ => hp.run pins s σ H D I hq⟩
end
end DL
namespace DL
open PySem PySem.Spec PyProof.Rows L2
/-! ### comprehensions over draws -/
abbrev Fam.blk {ι : Type} (G : Fam ι) (s : Shared) (H : Hp) (scope : Scope) (cenv : Env) (fp : List Addr) : Fam ι := { G with X := G.X.blk s H scope cenv fp }
section
variable {ι κ : Type} {G : Fam ι} {S S' : Addr → Prop} {σ : L2.St} {H H' H2 : Hp} {ρ : List Slot} {pos : Pos} {a b e : Expr} {Fa : FR ι}
theorem gs_blk {st : Sta κ} {π : ι → κ} {u : ι → κ → ι} {s : Shared} {H9 : Hp} {scope : Scope} {cenv : Env} {fp : List Addr} (gs : GS G st π u) : GS (G.blk s H9 scope cenv fp) st π u := ⟨gs.sub, gs.get, gs.put⟩
theorem Gd.blkI {i : ι} {s : Shared} {H9 : Hp} {scope : Scope} {cenv : Env} {fp : List Addr} (g : Gd (G.at i) S σ H ρ) : Gd ((G.blk s H9 scope cenv fp).at i) S σ H ρ := ⟨g.wld, g.all, g.sub, g.len, g.slots, g.apart⟩
theorem StpI.unblk {j : ι} {s : Shared} {H9 : Hp} {scope : Scope} {cenv : Env} {fp : List Addr} (st : StpI (G.blk s H9 scope cenv fp) j H H') : StpI G j H H' := ⟨st.wld, st.keep, st.has⟩
/-- the weakest reading -/
def tWR (G : Fam ι) (F : FR ι) : TE := fun σ H Q => ∃ S ρ i P, Gd (G.at i) S σ H ρ ∧ F ρ i P ∧ ∀ v d H' j, StpI G j H H' → Dv G.X.K S H' d v → P d j → Q v H'
theorem DR.blk {F : FR ι} {s : Shared} {H9 : Hp} {scope : Scope} {cenv : Env} {fp : List Addr} (h : DR (G.blk s H9 scope cenv fp) e F) : PE (G.X.blk s H9 scope cenv fp) e (tWR G F) := by
  obtain ⟨t, h, l⟩ := h.ex
  exact ⟨fun pins s' σ H Q I ⟨S, ρ, i, P, g, hf, q⟩ => h.run pins s' σ H Q I (l S σ H ρ i P Q g.blkI hf fun v d H' j st => q v d H' j st.unblk)⟩
abbrev FItR (ι : Type) := List Slot → ι → (List Dat → ι → Prop) → Prop
/-- what is walked, told of the state -/
structure DIR (G : Fam ι) (tg iter : Expr) (F : FItR ι) : Prop where
  ex : ∃ w, PI G.X tg iter w ∧ ∀ S σ H ρ i P (R : It → Hp → Prop), Gd (G.at i) S σ H ρ → F ρ i P → (∀ J items H1 j, StpI G j H H1 → (∀ k : ι, WalkOk (G.at k) J items S H1) → P items j → R J H1) → w σ H R
theorem dir_range {tg : Expr} {p : Pos} {Fs : FAR ι} (hm : G.X.mg "range" = none) (ha : DAR G [a] Fs) (hg : Gl G.X "range" := by rfl) (hs : starEach [a] G.X.env = [(false, eval a G.X.env)] := by rfl) :
    DIR G tg (.Call (.Name "range" p) [a] [] pos) (fun ρ i P => Fs ρ i fun ds j => int1 ds fun n => (-(2 ^ 62) ≤ n ∧ n < 2 ^ 62) ∧ P (rints 0 n.toNat) j) := by
  obtain ⟨w, h1, lw⟩ := rangeR (tg := tg) (p := p) (pos := pos) hm ha hg hs
  exact ⟨⟨w, h1, fun S σ H ρ i P R g h q => lw S σ H ρ i P R g h fun lo cnt H1 j st hp => q _ _ H1 j st (fun k => walk_rng) hp⟩⟩
theorem dir_lst {tg : Expr} (ha : DR G a Fa) : DIR G tg a (fun ρ i P => Fa ρ i fun d j => isLst d fun ds => P ds j) := by
  obtain ⟨t, h1, l1⟩ := ha.ex
  refine ⟨⟨_, pi_seq h1, fun S σ H ρ i P R g h q => ?_⟩⟩
  refine l1 S σ H ρ i _ _ g h fun v d H1 j st hv hl => ?_
  cases d with
  | lst ds =>
    obtain ⟨p, xs, rfl, np, ep, hxs⟩ := dv_lst hv
    exact ⟨p, rfl, .inl ⟨⟨xs, .inl (.inl ep)⟩, q _ ds H1 j st (fun k => walk_lst np ep hxs) hl⟩⟩
  | _ => exact hl.elim
theorem lift_lcR {w : TI} {F : FItR ι} {Fe : FR ι} (n : Nat) (lw : ∀ S σ H ρ i P (R : It → Hp → Prop), Gd (G.at i) S σ H ρ → F ρ i P → (∀ J items H1 j, StpI G j H H1 → (∀ k : ι, WalkOk (G.at k) J items S H1) → P items j → R J H1) → w σ H R) :
    ∀ S σ H ρ i (P : List Dat → ι → Prop) (Q : VK), Gd (G.at i) S σ H ρ → (∃ Inv : List Dat → List Dat → ι → Prop, (F ρ i fun items j => Inv items [] j) ∧ (∀ acc j, Inv [] acc j → P acc j) ∧ ∀ d ds acc j, Inv (d :: ds) acc j → Fe (ρ.set n (.d d)) j fun y k => acc.length < sizeLine ∧ Inv ds (acc ++ [y]) k) →
      (∀ p xs ds H' j, H p = none → StpI G j H H' → H' p = some (.lst xs) → DvL G.X.K (fun a => S a ∨ a = p) H' ds xs → P ds j → Q (.ref p) H') → tLc w (gName n) (fun _ H Q => Q true H) (tWR G Fe) [n] σ H Q := by
  intro S σ H ρ i P Q gd ⟨IV, h, k0, ks⟩ q
  refine lw S σ H ρ i _ _ gd h fun J items H1 j0 st wk hp D nD => ?_
  have g1 := gd.stepI st
  have gw : Gd (G.at j0) S (σ.set n none) H1 (ρ.set n .un) := g1.wipe
  have nS : ¬ S D := g1.fresh nD
  have nS0 : ¬ G.S0 D := fun z => nS (gd.sub D z)
  have h0 : G.H0 D = none := g1.fresh0 nD
  have ndH : H D = none := by
    cases e : H D with
    | none => rfl
    | some o =>
      obtain ⟨o', e'⟩ := st.has D o e
      rw [nD] at e'; cases e'
  obtain ⟨g2, fr2⟩ := gw.grow (o := .lst []) nD
  have hn : ∀ (i : Nat) (s : Slot), (ρ.set n .un)[i]? = some s → s.isOwn = true → (σ.set n none)[i]? ≠ some (some (.ref D)) := fun i s hs ho e => by
    have k := gw.slots i s hs
    rw [e] at k
    obtain ⟨a, u, e1, _, e2, _⟩ := SlotOk.addr k ho
    cases e1
    rw [nD] at e2; cases e2
  have wipe1 : L2.wipe σ [n] = σ.set n none := rfl
  let Pv : Nat → Hp → Prop := fun r H' => ∃ acc dacc j, H' D = some (.lst acc) ∧ DvL G.X.K (fun a => S a ∨ a = D) H' dacc acc ∧ Gd (G.at j) (fun a => S a ∨ a = D) (σ.set n none) H' (ρ.set n .un) ∧ Fr S H1 (fun a => S a ∨ a = D) H' ∧ StpI G j H H' ∧ IV (items.drop r) dacc j
  refine ⟨fun r m H' => m = items.length - r ∧ r ≤ items.length ∧ Pv r H', ⟨items.length, rfl, Nat.zero_le _, [], [], j0, upd_same, rfl, g2, fr2, st.trans (StpI.new g1.wld nD), hp⟩, ?_⟩
  rintro r m H' ⟨rfl, hi, acc, dacc, j, eD, hacc, g', fr, st', hf⟩
  by_cases hlt : r < items.length
  · refine .inr ⟨(wk j).go r _ H' hlt fr, Pv (r + 1), fun H2 p => ⟨items.length - (r + 1), by omega, rfl, hlt, p⟩, fun x H2 y => ?_⟩
    obtain ⟨s2, hd⟩ := (wk j).yld r _ _ _ _ H' x H2 (List.getElem?_eq_getElem hlt) g' fr y
    have g3 := g'.step s2
    rw [List.drop_eq_getElem_cons hlt] at hf
    rw [wipe1]
    refine ⟨by show ((σ.set n none).set n (some x)).set n none = σ.set n none; rw [List.set_set, List.set_set], ?_⟩
    have gx : Gd (G.at j) (fun a => S a ∨ a = D) ((σ.set n none).set n (some x)) H2 ((ρ.set n .un).set n (.d items[r])) := g3.set hd
    rw [show (ρ.set n Slot.un).set n (.d items[r]) = ρ.set n (.d items[r]) from List.set_set ..] at gx
    show (if true = true then _ else _)
    rw [if_pos rfl]
    refine ⟨_, _, j, _, gx, ks _ _ _ _ hf, fun v d H4 k st4 hv ⟨hz, hc⟩ => ?_⟩
    have s14 : StpI G k H' H4 := (StpI.of s2).trans st4
    have g4 := g'.stepI s14
    have eD4 := s14.keep D _ nS0 eD
    obtain ⟨g5, fr5⟩ := g4.acc (o := .lst (acc ++ [v])) (.inr rfl) h0 (fun φ z => by rw [eD4] at z; cases z) hn
    have hacc4 := s14.dvl g' hacc
    refine ⟨acc, eD4, by rw [hacc4.len]; exact hz, acc ++ [v], dacc ++ [d], k, upd_same, (hacc4.append (es := [d]) (us := [v]) ⟨v, [], rfl, hv, rfl⟩).move fr5, g5, (fr.trans (s14.fr g')).trans fr5, ?_, hc⟩
    have ss := st'.trans s14
    refine ⟨g5.wld, fun a o n e => ?_, fun a o e => ?_⟩
    · rw [upd_ne (ne_of_none e ndH)]; exact ss.keep a o n e
    · obtain ⟨o', e'⟩ := ss.has a o e
      exact ⟨o', by rw [upd_ne (ne_of_none e ndH)]; exact e'⟩
  · have e : r = items.length := by omega
    subst e
    rw [List.drop_length] at hf
    exact .inl ⟨(wk j).stop _ H' fr, q D acc dacc H' j ndH st' eD hacc (k0 _ _ hf)⟩
/-- a comprehension over draws, by a word of what is left, what is made, the index -/
theorem dr_lc {elt tg iter : Expr} {scope : Scope} {x : Str} (n : Nat) {F : FItR ι} {Fe : FR ι} (hc : G.X.calm = true) (hN : G.X.N.Nodup) (hi : DIR G tg iter F) (ok : BlkOk G.X.N G.X.env.scope scope [(x, n)])
    (hg : ∀ (s : Shared) (H : Hp) (C : Addr) (cl : List (Str × Addr)) (fp : List Addr), PG (G.X.blk s H scope (compEnvC scope cl C G.X.env) fp) tg (gName n))
    (he : ∀ (s : Shared) (H : Hp) (C : Addr) (cl : List (Str × Addr)) (fp : List Addr), DR (G.blk s H scope (compEnvC scope cl C G.X.env) fp) elt Fe) (hs : ∀ x, foldedSetIterable iter G.X.env x = pure x := by intro _; rfl) :
    DR G (.ListComp elt [⟨tg, iter, [], 0⟩] scope pos) (fun ρ i P => ∃ Inv : List Dat → List Dat → ι → Prop, (F ρ i fun items j => Inv items [] j) ∧ (∀ acc j, Inv [] acc j → P (.lst acc) j) ∧ ∀ d ds acc j, Inv (d :: ds) acc j → Fe (ρ.set n (.d d)) j fun y k => acc.length < sizeLine ∧ Inv ds (acc ++ [y]) k) := by
  obtain ⟨w, h1, l1⟩ := hi.ex
  refine ⟨⟨_, pe_lc (own := [(x, n)]) hc hN h1 ok hg (fun s H C cl fp => pts_nil) (fun s H C cl fp => (he s H C cl fp).blk) hs, fun S σ H ρ i P Q g h q => ?_⟩⟩
  refine lift_lcR n l1 S σ H ρ i (fun ds j => P (.lst ds) j) Q g h fun p xs ds H' j np st e hv hp => ?_
  have nS : ¬ S p := g.fresh np
  exact q _ (.lst ds) H' j st ⟨p, xs, rfl, nS, e, hv.move fun a o n e => ⟨fun z => n (.inl z), e⟩⟩ hp
/-- name = [..], the name a local -/
theorem dsr_setLc {y : Str} {py spos : Pos} {elt tg iter : Expr} {scope : Scope} {x : Str} (m n : Nat) {F : FItR ι} {Fe : FR ι} (hc : G.X.calm = true) (hN : G.X.N.Nodup) (hsw : swapsWith (.ListComp elt [⟨tg, iter, [], 0⟩] scope pos) (some (.Name y py)) spos.line G.X.env = pure true) (hi : DIR G tg iter F) (ok : BlkOk G.X.N G.X.env.scope scope [(x, n)])
    (hg : ∀ (s : Shared) (H : Hp) (C : Addr) (cl : List (Str × Addr)) (fp : List Addr), PG (G.X.blk s H scope (compEnvC scope cl C G.X.env) fp) tg (gName n))
    (he : ∀ (s : Shared) (H : Hp) (C : Addr) (cl : List (Str × Addr)) (fp : List Addr), DR (G.blk s H scope (compEnvC scope cl C G.X.env) fp) elt Fe) (hy : G.X.N[m]? = some y := by rfl) (hyl : G.X.env.scope.names.lookup y = some .local := by rfl) (hs : ∀ x, foldedSetIterable iter G.X.env x = pure x := by intro _; rfl) :
    DSR G (.Assign [.Name y py] (.ListComp elt [⟨tg, iter, [], 0⟩] scope pos) spos) (fun D ρ i => ∃ Inv : List Dat → List Dat → ι → Prop, (F ρ i fun items j => Inv items [] j) ∧ (∀ acc j, Inv [] acc j → D.nx (ρ.set m (.d (.lst acc))) j) ∧ ∀ d ds acc j, Inv (d :: ds) acc j → Fe (ρ.set n (.d d)) j fun y k => acc.length < sizeLine ∧ Inv ds (acc ++ [y]) k) := by
  obtain ⟨w, h1, l1⟩ := hi.ex
  refine ⟨⟨_, ps_setLc (i := m) (own := [(x, n)]) hc hN hy hyl hsw h1 ok hg (fun s H C cl fp => pts_nil) (fun s H C cl fp => (he s H C cl fp).blk) hs, fun S σ H ρ i D Dh g h q => ?_⟩⟩
  refine lift_lcR n l1 S σ H ρ i (fun acc j => D.nx (ρ.set m (.d (.lst acc))) j) _ g h fun p xs ds H' j np st e hv hp => ?_
  have g1 := g.stepI st
  have nS : ¬ S p := g.fresh np
  exact q.nx S _ H' _ j (g1.set (d := .lst ds) ⟨p, xs, rfl, nS, e, hv.move fun a o n e => ⟨fun z => n (.inl z), e⟩⟩) (st.fr g) hp
end
end DL
namespace DL
open PySem PySem.Spec PyProof.Rows L2
section
variable {G : Ctx} {S : Addr → Prop} {σ : L2.St} {H H' : Hp} {ρ : List Slot} {pos : Pos} {a b c e : Expr} {Fa Fb : FE}
/-! ### gcd -/
def gcdD : RCD
  | [.int x, .int y], P => P (.int ((Nat.gcd x.natAbs y.natAbs : Nat) : Int))
  | _, _ => False
theorem serves_gcd : ServesC G rGcd gcdD := by
  intro S σ ρ H vs ds P Q g hv h q
  unfold gcdD at h
  split at h
  · obtain ⟨v, r, rfl, h1, h2⟩ := (hv : ∃ v r, vs = v :: r ∧ Dv G.X.K S H _ v ∧ DvL G.X.K S H [_] r)
    obtain ⟨u, r2, rfl, h3, h4⟩ := (h2 : ∃ v r2, r = v :: r2 ∧ Dv G.X.K S H _ v ∧ DvL G.X.K S H [] r2)
    cases (h4 : r2 = [])
    cases dv_int h1
    cases dv_int h3
    exact ⟨_, _, rfl, q _ (.int _) H (Stp.refl g.wld) rfl h⟩
  · exact h.elim
theorem de_gcd {p : Pos} {x : Str} {es : List Expr} {Fs : FA} (hm : G.X.mg x = some (.builtin "math.gcd")) (ha : DA G (e :: es) Fs) (hg : Gl G.X x := by rfl) (hdb : (x == ("__debug__" : Str)) = false := by decide)
    (he : starEach (e :: es) G.X.env = (false, eval e G.X.env) :: starEach es G.X.env := by rfl) (hpl : (backTo pos (starEach es G.X.env)).any (·.1) = false := by rfl) : DE G (.Call (.Name x p) (e :: es) [] pos) (fun ρ P => Fs ρ fun ds => gcdD ds P) := by
  obtain ⟨t, h, l⟩ := ha.ex
  exact ⟨⟨_, pe_callBfun cr_gcd hg hm h hdb he hpl, lift_cb serves_gcd l⟩⟩
/-! ### while -/
theorem ds_while {body : List Stmt} {Fc : FT} {Fb : FS} (hp : PassesOwn (model G.X.prog G.X.w) G.X.A G.X.env G.X.xe) (hc : DT G c Fc) (hb : DB G body Fb) :
    DS G (.While c body [] pos) (fun D ρ => ∃ Inv : Nat → List Slot → Prop, (∃ m, Inv m ρ) ∧ ∀ m ρ, Inv m ρ → ∃ Pc : Bool → Prop, Fc ρ Pc ∧ (Pc false → D.nx ρ) ∧ (Pc true → Fb { nx := fun ρ => ∃ m', m' < m ∧ Inv m' ρ, ct := fun ρ => ∃ m', m' < m ∧ Inv m' ρ, bk := D.nx, rt := D.rt } ρ)) := by
  obtain ⟨tc, h1, lc⟩ := hc.ex
  obtain ⟨tb, h2, lb⟩ := hb.ex
  refine ⟨⟨_, ps_while hp h1 h2, fun S σ H ρ D Dh g h q => ?_⟩⟩
  obtain ⟨IV, ⟨m0, h0⟩, turn⟩ := h
  refine ⟨fun m σ' H' => ∃ S' ρ', Gd G S' σ' H' ρ' ∧ Fr S H S' H' ∧ IV m ρ', ⟨m0, S, ρ, g, Fr.refl _ _, h0⟩, ?_⟩
  rintro m σ1 H1 ⟨S1, ρ1, g1, fr1, hi⟩
  obtain ⟨Pc, hc, hf, ht⟩ := turn m ρ1 hi
  refine lc S1 σ1 H1 ρ1 _ _ g1 hc fun b H2 st hb => ?_
  have g2 := g1.step st
  have fr2 : Fr S H S1 H2 := fr1.trans (st.fr g1)
  cases b with
  | false => exact q.nx _ _ _ _ g2 fr2 (hf hb)
  | true =>
    refine ⟨fun σ' H' => ∃ m', m' < m ∧ ∃ S' ρ', Gd G S' σ' H' ρ' ∧ Fr S H S' H' ∧ IV m' ρ', fun σ' H' ⟨m', h1, h2⟩ => ⟨m', h1, h2⟩, ?_⟩
    exact lb S1 σ1 H2 ρ1 _ _ g2 (ht hb) ⟨fun S4 σ4 H4 ρ4 g4 fr4 ⟨m', hm, hn⟩ => ⟨m', hm, S4, ρ4, g4, fr2.trans fr4, hn⟩, q.rt, fun S4 σ4 H4 ρ4 g4 fr4 hn => q.nx _ _ _ _ g4 (fr2.trans fr4) hn, fun S4 σ4 H4 ρ4 g4 fr4 ⟨m', hm, hn⟩ => ⟨m', hm, S4, ρ4, g4, fr2.trans fr4, hn⟩⟩
/-! ### membership -/
theorem dvl_bls : ∀ {bs : List Bool} {vs : List V}, DvL G.X.K S H (bs.map Dat.bl) vs → vs = bs.map V.bl
  | [], _, e => e
  | b :: bs, vs, e => by
    obtain ⟨v, r, rfl, h1, h2⟩ := (e : ∃ v r, vs = v :: r ∧ Dv G.X.K S H (.bl b) v ∧ DvL G.X.K S H (bs.map Dat.bl) r)
    rw [dvl_bls h2, (h1 : v = .bl b)]; rfl
theorem flat_bls : ∀ (bs : List Bool), (bs.map V.bl).all flatV = true
  | [] => rfl
  | b :: bs => by rw [List.map_cons, List.all_cons, flat_bls bs]; rfl
theorem inV_bls {x : Bool} : ∀ (bs : List Bool), inV (.bl x) (bs.map V.bl) = decide (x ∈ bs)
  | [] => by simp [inV]
  | b :: bs => by
    have ih := inV_bls (x := x) bs
    unfold inV at ih ⊢
    rw [List.map_cons, List.any_cons, ih]
    cases x <;> cases b <;> simp [eqV]
/-- a truth in a list of truths -/
def inBl : R2D
  | .bl x, .lst ds, P => ∃ bs : List Bool, ds = bs.map Dat.bl ∧ P (.bl (decide (x ∈ bs)))
  | _, _, _ => False
theorem serves_inBl : Serves G (rIn G.X.K false) inBl := by
  intro S σ ρ H x y dx dy P Q g hx hy h q
  cases dx with
  | bl z =>
    cases (show x = V.bl z from hx)
    cases dy with
    | lst ds =>
      obtain ⟨bs, rfl, hp⟩ := (h : ∃ bs : List Bool, ds = bs.map Dat.bl ∧ P (.bl (decide (z ∈ bs))))
      obtain ⟨a, xs, rfl, n, e, v⟩ := dv_lst hy
      rw [dvl_bls v] at e
      refine ⟨a, bs.map V.bl, rfl, .inl (.inl (.inl e)), rfl, flat_bls bs, ?_⟩
      rw [if_neg (by decide), inV_bls]
      exact q _ (.bl _) H (Stp.refl g.wld) rfl hp
    | _ => exact h.elim
  | _ => exact h.elim
theorem dt_inBl (ha : DE G a Fa) (hb : DE G b Fb) (hm : behindInMarks .In b = false := by rfl) : DT G (.Compare a [.In] [b] pos) (fun ρ P => Fa ρ fun x => Fb ρ fun y => inBl x y fun z => isB z P) := dt_cmp op_in_seq serves_inBl ha hb hm
theorem dvl_intsT : ∀ {bs : List Int} {vs : List V}, DvL G.X.K S H (bs.map Dat.int) vs → vs = bs.map V.int
  | [], _, e => e
  | b :: bs, vs, e => by
    obtain ⟨v, r, rfl, h1, h2⟩ := (e : ∃ v r, vs = v :: r ∧ Dv G.X.K S H (.int b) v ∧ DvL G.X.K S H (bs.map Dat.int) r)
    rw [dvl_intsT h2, (h1 : v = .int b)]; rfl
theorem flat_intsT : ∀ (bs : List Int), (bs.map V.int).all flatV = true
  | [] => rfl
  | b :: bs => by rw [List.map_cons, List.all_cons, flat_intsT bs]; rfl
theorem inV_intsT {x : Int} : ∀ (bs : List Int), inV (.int x) (bs.map V.int) = decide (x ∈ bs)
  | [] => by simp [inV]
  | b :: bs => by
    have ih := inV_intsT (x := x) bs
    unfold inV at ih ⊢
    rw [List.map_cons, List.any_cons, ih]
    by_cases h : x = b
    · subst h; simp [eqV]
    · have h' : ¬ b = x := fun e => h e.symm
      simp [eqV, h, h']
/-- a number not in a tuple of numbers -/
def ninI : R2D
  | .int x, .tup ds, P => ∃ bs : List Int, ds = bs.map Dat.int ∧ P (.bl (!decide (x ∈ bs)))
  | _, _, _ => False
theorem serves_ninI : Serves G (rIn G.X.K true) ninI := by
  intro S σ ρ H x y dx dy P Q g hx hy h q
  cases dx with
  | int z =>
    cases dv_int hx
    cases dy with
    | tup ds =>
      obtain ⟨bs, rfl, hp⟩ := (h : ∃ bs : List Int, ds = bs.map Dat.int ∧ P (.bl (!decide (z ∈ bs))))
      obtain ⟨a, xs, rfl, e, v⟩ := dv_tup hy
      rw [dvl_intsT v] at e
      refine ⟨a, bs.map V.int, rfl, .inr (sqT_of e), rfl, flat_intsT bs, ?_⟩
      rw [if_pos rfl, inV_intsT]
      exact q _ (.bl _) H (Stp.refl g.wld) rfl hp
    | _ => exact h.elim
  | _ => exact h.elim
theorem dt_ninI (ha : DE G a Fa) (hb : DE G b Fb) (hm : behindInMarks .NotIn b = false := by rfl) : DT G (.Compare a [.NotIn] [b] pos) (fun ρ P => Fa ρ fun x => Fb ρ fun y => ninI x y fun z => isB z P) := dt_cmp op_notIn_seq serves_ninI ha hb hm
/-- data not in a list of data -/
def ninD : R2D
  | x, .lst ds, P => SeqAt.shaped (toP x) = true ∧ SeqAt.shaped (toP (.lst ds)) = true ∧ P (.bl (!(toPs ds).any fun z => PyData.eqv z (toP x)))
  | _, _, _ => False
theorem serves_ninD : Serves G (rNotInD G.X.K) ninD := by
  intro S σ ρ H x y dx dy P Q g hx hy h q
  cases dy with
  | lst ds =>
    obtain ⟨h1, h2, h3⟩ := (h : SeqAt.shaped (toP dx) = true ∧ SeqAt.shaped (toP (.lst ds)) = true ∧ P (.bl (!(toPs ds).any fun z => PyData.eqv z (toP dx))))
    have e : toP (.lst ds) = .list (toPs ds) := by rw [toP]
    refine ⟨toP dx, toPs ds, dp_of _ _ hx (SeqAt.canLay_of_shaped h1), ?_, h1, by rw [← e]; exact h2, q _ (.bl _) H (Stp.refl g.wld) rfl h3⟩
    rw [← e]
    exact dp_of _ _ hy (SeqAt.canLay_of_shaped h2)
  | _ => cases dx <;> exact h.elim
theorem dt_ninD (hu : G.X.A.units + 65 < cLine) (ha : DE G a Fa) (hb : DE G b Fb) (hm : behindInMarks .NotIn b = false := by rfl) : DT G (.Compare a [.NotIn] [b] pos) (fun ρ P => Fa ρ fun x => Fb ρ fun y => ninD x y fun z => isB z P) := dt_cmp (op_notInD hu) serves_ninD ha hb hm
end
end DL
namespace DL
open PySem PySem.Spec PyProof.Rows L2
section
variable {G : Ctx} {S : Addr → Prop} {σ : L2.St} {H H' : Hp} {ρ : List Slot} {pos : Pos} {a b c e : Expr} {Fa Fb Fc : FE}
theorem Gd.setOwnAt (g : Gd G S σ H ρ) {i : Nat} {p : Addr} {xs : List V} {ds : List Dat} (sp : S p) (h0 : G.H0 p = none) (e : H p = some (.lst xs)) (hv : DvL G.X.K S H ds xs) (nf : ∀ (j : Nat) (s : Slot), ρ[j]? = some s → s.isOwn = true → σ[j]? ≠ some (some (.ref p))) :
    Gd G S (σ.set i (some (.ref p))) H (ρ.set i (.own ds)) := by
  refine ⟨g.wld, g.all, g.sub, by simp [g.len], fun j t ht => ?_, fun j k sj sk w h1 h2 o1 o2 e1 e2 => ?_⟩
  · rw [getset] at ht
    rw [getset]
    by_cases hj : j = i
    · subst hj
      rw [if_pos rfl] at ht ⊢
      have hl := g.len
      by_cases hi : j < ρ.length
      · rw [if_pos hi] at ht
        cases ht
        rw [if_pos (by omega)]
        exact ⟨p, xs, rfl, sp, h0, e, hv⟩
      · rw [if_neg hi] at ht; cases ht
    · rw [if_neg hj] at ht ⊢
      exact g.slots j t ht
  · rw [getset] at h1 h2
    rw [getset] at e1 e2
    by_cases hj : j = i
    · by_cases hk : k = i
      · omega
      · rw [if_pos hj] at e1
        split at e1
        · cases e1
          rw [if_neg hk] at h2 e2
          exact (nf k sk h2 o2 e2).elim
        · cases e1
    · by_cases hk : k = i
      · rw [if_pos hk] at e2
        split at e2
        · cases e2
          rw [if_neg hj] at h1 e1
          exact (nf j sj h1 o1 e1).elim
        · cases e2
      · rw [if_neg hj] at h1 e1
        rw [if_neg hk] at h2 e2
        exact g.apart j k sj sk w h1 h2 o1 o2 e1 e2
theorem Gd.noOwnAt (g : Gd G S σ H ρ) {p : Addr} (np : H p = none) : ∀ (j : Nat) (s : Slot), ρ[j]? = some s → s.isOwn = true → σ[j]? ≠ some (some (.ref p)) := fun j s hj oj e => by
  have q := g.slots j s hj
  rw [e] at q
  obtain ⟨a, u, e1, _, e2, _⟩ := SlotOk.addr q oj
  cases e1
  rw [np] at e2; cases e2
/-- x0, x1, x2, x3 = e0, e1, [], [e3] -/
theorem ds_asgLL {x0 x1 x2 x3 : Str} {p0 p1 p2 p3 pt q2 q3 qt : Pos} {kt ke} (i0 i1 i2 i3 : Nat) (ha : DE G a Fa) (hb : DE G b Fb) (hd : DE G c Fc) (hN : G.X.N.Nodup) (hc : G.X.calm = true) (h01 : i2 ≠ i0 ∧ i2 ≠ i1 ∧ i3 ≠ i0 ∧ i3 ≠ i1 ∧ i3 ≠ i2)
    (n0 : G.X.N[i0]? = some x0 := by rfl) (n1 : G.X.N[i1]? = some x1 := by rfl) (n2 : G.X.N[i2]? = some x2 := by rfl) (n3 : G.X.N[i3]? = some x3 := by rfl)
    (k0 : G.X.env.scope.names.lookup x0 = some .local := by rfl) (k1 : G.X.env.scope.names.lookup x1 = some .local := by rfl) (k2 : G.X.env.scope.names.lookup x2 = some .local := by rfl) (k3 : G.X.env.scope.names.lookup x3 = some .local := by rfl)
    (s0 : starEach [a, b, .List [] q2, .List [c] q3] G.X.env = (false, eval a G.X.env) :: starEach [b, .List [] q2, .List [c] q3] G.X.env := by rfl) (s1 : starEach [b, .List [] q2, .List [c] q3] G.X.env = (false, eval b G.X.env) :: starEach [.List [] q2, .List [c] q3] G.X.env := by rfl)
    (s2 : starEach [.List [] q2, .List [c] q3] G.X.env = (false, eval (.List [] q2) G.X.env) :: starEach [.List [c] q3] G.X.env := by rfl) (s3 : starEach [.List [c] q3] G.X.env = (false, eval (.List [c] q3) G.X.env) :: starEach [] G.X.env := by rfl) (s4 : starEach [c] G.X.env = (false, eval c G.X.env) :: starEach [] G.X.env := by rfl)
    (hs : swapsWithSole [.Tuple [.Name x0 p0, .Name x1 p1, .Name x2 p2, .Name x3 p3] kt pt] (.Tuple [a, b, .List [] q2, .List [c] q3] ke qt) pos.line G.X.env = pure false := by rfl) (hw : swappedStores [.Tuple [.Name x0 p0, .Name x1 p1, .Name x2 p2, .Name x3 p3] kt pt] (.Tuple [a, b, .List [] q2, .List [c] q3] ke qt) G.X.env = pure none := by rfl)
    (h1 : (assignEach [.Tuple [.Name x0 p0, .Name x1 p1, .Name x2 p2, .Name x3 p3] kt pt] G.X.env).map (·.2) = [assign (.Tuple [.Name x0 p0, .Name x1 p1, .Name x2 p2, .Name x3 p3] kt pt) G.X.env] := by rfl)
    (hn : (assignEach [.Name x0 p0, .Name x1 p1, .Name x2 p2, .Name x3 p3] G.X.env).length = 4 := by rfl) (hst : (assignEach [.Name x0 p0, .Name x1 p1, .Name x2 p2, .Name x3 p3] G.X.env).findIdx? (·.1) = none := by rfl)
    (g0 : (assignEach (.Name x0 p0 :: [.Name x1 p1, .Name x2 p2, .Name x3 p3]) G.X.env).map (·.2) = assign (.Name x0 p0) G.X.env :: (assignEach [.Name x1 p1, .Name x2 p2, .Name x3 p3] G.X.env).map (·.2) := by rfl) (g1 : (assignEach (.Name x1 p1 :: [.Name x2 p2, .Name x3 p3]) G.X.env).map (·.2) = assign (.Name x1 p1) G.X.env :: (assignEach [.Name x2 p2, .Name x3 p3] G.X.env).map (·.2) := by rfl)
    (g2 : (assignEach (.Name x2 p2 :: [.Name x3 p3]) G.X.env).map (·.2) = assign (.Name x2 p2) G.X.env :: (assignEach [.Name x3 p3] G.X.env).map (·.2) := by rfl) (g3 : (assignEach [.Name x3 p3] G.X.env).map (·.2) = assign (.Name x3 p3) G.X.env :: (assignEach [] G.X.env).map (·.2) := by rfl) :
    DS G (.Assign [.Tuple [.Name x0 p0, .Name x1 p1, .Name x2 p2, .Name x3 p3] kt pt] (.Tuple [a, b, .List [] q2, .List [c] q3] ke qt) pos) (fun D ρ => Fa ρ fun d0 => Fb ρ fun d1 => Fc ρ fun d3 => D.nx ((((ρ.set i0 (.d d0)).set i1 (.d d1)).set i2 (.own [])).set i3 (.own [d3]))) := by
  obtain ⟨t0, r0, l0⟩ := ha.ex
  obtain ⟨t1, r1, l1⟩ := hb.ex
  obtain ⟨t3, r3, l3⟩ := hd.ex
  refine ⟨⟨_, ps_asg (pe_tup (pa_cons r0 (pa_cons r1 (pa_cons (pe_lst pa_nil) (pa_cons (pe_lst (pa_cons r3 pa_nil s4)) pa_nil s3) s2) s1) s0)) (pg_tup (n := 4) hc (pgs_cons (pg_name hN n0 (.inl k0) (.inr k0)) (pgs_cons (pg_name hN n1 (.inl k1) (.inr k1)) (pgs_cons (pg_name hN n2 (.inl k2) (.inr k2)) (pgs_cons (pg_name hN n3 (.inl k3) (.inr k3)) pgs_nil g3) g2) g1) g0) hn hst) hs hw h1, fun S σ H ρ D Dh g h q => ?_⟩⟩
  refine l0 S σ H ρ _ _ g h fun v0 d0 H1 st0 hv0 h => ?_
  have G1 := g.step st0
  refine l1 S σ H1 ρ _ _ G1 h fun v1 d1 H2 st1 hv1 h => ?_
  have G2 := G1.step st1
  refine ⟨show 0 ≤ sizeLine by decide, fun a2 na2 => ?_⟩
  obtain ⟨G3, fr3⟩ := G2.grow (o := .lst []) na2
  refine l3 _ σ _ ρ _ _ G3 h fun v3 d3 H4 st3 hv3 hp => ?_
  have G4 := G3.step st3
  have z2 : G.H0 a2 = none := G2.fresh0 na2
  have nS0 : ∀ {x : Addr}, G.H0 x = none → ¬ G.S0 x := fun {x} n z => by
    obtain ⟨o, e⟩ := G.s0 x z
    rw [n] at e; cases e
  have e24 : H4 a2 = some (.lst []) := st3.keep a2 _ (nS0 z2) upd_same
  refine ⟨show 1 ≤ sizeLine by decide, fun a3 na3 => ?_⟩
  obtain ⟨G5, fr5⟩ := G4.grow (o := .lst [v3]) na3
  have z3 : G.H0 a3 = none := G4.fresh0 na3
  refine ⟨show 4 ≤ sizeLine by decide, fun at0 nat0 => ?_⟩
  have st6 : Stp G (upd H4 a3 (.lst [v3])) (upd (upd H4 a3 (.lst [v3])) at0 (.tup [v0, v1, .ref a2, .ref a3])) := Stp.new G5.wld nat0
  have G6 := G5.step st6
  have fr46 : Fr _ H4 _ _ := Fr.trans fr5 (st6.fr G5)
  have fr26 : Fr S H2 _ _ := Fr.trans (Fr.trans fr3 (st3.fr G3)) fr46
  have fr16 : Fr S H1 _ _ := Fr.trans (st1.fr G1) fr26
  have a23 : a3 ≠ a2 := fun z => by rw [z, e24] at na3; cases na3
  have e26 : (upd (upd H4 a3 (.lst [v3])) at0 (.tup [v0, v1, .ref a2, .ref a3])) a2 = some (.lst []) := by
    have : (upd H4 a3 (.lst [v3])) a2 = some (.lst []) := by rw [upd_ne a23.symm]; exact e24
    rw [upd_ne (ne_of_none this nat0)]; exact this
  have e36 : (upd (upd H4 a3 (.lst [v3])) at0 (.tup [v0, v1, .ref a2, .ref a3])) a3 = some (.lst [v3]) := by
    have : (upd H4 a3 (.lst [v3])) a3 = some (.lst [v3]) := upd_same
    rw [upd_ne (ne_of_none this nat0)]; exact this
  refine ⟨at0, _, rfl, .inl (.inl upd_same), rfl, v0, _, rfl, v1, _, rfl, .ref a2, _, rfl, .ref a3, [], rfl, rfl, ?_⟩
  have K1 := (G6.set (i := i0) (hv0.move fr16)).set (i := i1) (hv1.move fr26)
  have no2 : ∀ (j : Nat) (s : Slot), ((ρ.set i0 (.d d0)).set i1 (.d d1))[j]? = some s → s.isOwn = true → ((σ.set i0 (some v0)).set i1 (some v1))[j]? ≠ some (some (.ref a2)) := fun j s hj oj e => by
    rw [getset] at hj
    rw [getset] at e
    by_cases c1 : j = i1
    · rw [if_pos c1] at hj
      split at hj
      · cases hj; cases oj
      · cases hj
    · rw [if_neg c1] at hj e
      rw [getset] at hj
      rw [getset] at e
      by_cases c0 : j = i0
      · rw [if_pos c0] at hj
        split at hj
        · cases hj; cases oj
        · cases hj
      · rw [if_neg c0] at hj e
        exact G2.noOwnAt na2 j s hj oj e
  have K2 := K1.setOwnAt (i := i2) (ds := []) (.inl (.inr rfl)) z2 e26 rfl no2
  have no3 : ∀ (j : Nat) (s : Slot), (((ρ.set i0 (.d d0)).set i1 (.d d1)).set i2 (.own []))[j]? = some s → s.isOwn = true → (((σ.set i0 (some v0)).set i1 (some v1)).set i2 (some (.ref a2)))[j]? ≠ some (some (.ref a3)) := fun j s hj oj e => by
    rw [getset] at hj
    rw [getset] at e
    by_cases c2 : j = i2
    · rw [if_pos c2] at e
      split at e
      · injection e with e; injection e with e; injection e with e; exact a23 e.symm
      · cases e
    · rw [if_neg c2] at hj e
      rw [getset] at hj
      rw [getset] at e
      by_cases c1 : j = i1
      · rw [if_pos c1] at hj
        split at hj
        · cases hj; cases oj
        · cases hj
      · rw [if_neg c1] at hj e
        rw [getset] at hj
        rw [getset] at e
        by_cases c0 : j = i0
        · rw [if_pos c0] at hj
          split at hj
          · cases hj; cases oj
          · cases hj
        · rw [if_neg c0] at hj e
          exact G4.noOwnAt na3 j s hj oj e
  have K3 := K2.setOwnAt (i := i3) (ds := [d3]) (.inr rfl) z3 e36 ⟨v3, [], rfl, hv3.move fr46, rfl⟩ no3
  exact q.nx _ _ _ _ K3 (Fr.trans (st0.fr g) fr16) hp
/-- x.append(x), the list one's own: of what is within no word from now on -/
theorem ds_selfAppend {x : Str} {np q1 apos cpos : Pos} (i : Nat) (hi : G.X.N[i]? = some x := by rfl) (hv : Vis G.X.env.scope x := by first | exact Or.inl rfl | exact Or.inr (Or.inl rfl) | exact Or.inr (Or.inr rfl)) (hd : (x == ("__debug__" : Str)) = false := by decide)
    (hcd : (x == ("__classdict__" : Str)) = false := by decide) (hst : starEach [.Name x q1] G.X.env = (false, eval (.Name x q1) G.X.env) :: starEach [] G.X.env := by rfl)
    (hbase : attributeBase (.Name x np) "append" G.X.env (eval (.Name x np) G.X.env) = eval (.Name x np) G.X.env := by rfl)
    (hfew : ((backTo cpos (starEach [.Name x q1] G.X.env)).all (fun x => !x.1) && (backToKw cpos (keywordEach [] G.X.env)).all (fun x => x.1.isSome) && decide ([Expr.Name x q1].length + ([] : List Keyword).length + (if ([] : List Keyword).isEmpty then 0 else 1) < 30)) = true := by rfl)
    (hline : (apos.endLine == cpos.line) = true := by rfl) (hplain : (backTo cpos (starEach [] G.X.env)).any (·.1) = false := by rfl) (hs : swapsWith (.Call (.Attribute (.Name x np) "append" apos) [.Name x q1] [] cpos) none pos.line G.X.env = pure false := by rfl) :
    DS G (.Expr (.Call (.Attribute (.Name x np) "append" apos) [.Name x q1] [] cpos) pos) (fun D ρ => ownL ρ i fun ds => ds.length < sizeLine ∧ D.nx (ρ.set i (.d .anl))) := by
  refine ⟨⟨_, ps_expr (pe_bm PySem.F.plainAttrs_list PySem.F.slot_list_append PySem.F.type_list_append mt_append (pe_var hi hv hd hcd) (pa_cons (pe_var hi hv hd hcd) pa_nil hst) hbase hfew hline hst hplain) hs, fun S σ H ρ D Dh g h q => ?_⟩⟩
  obtain ⟨ds, es, hf⟩ := ownL_inv h
  obtain ⟨hz, hp⟩ := hf
  obtain ⟨p, xs, e1, sp, e0, eh, hl⟩ := g.slot_own es
  refine ⟨.ref p, e1, .inl ⟨rfl, xs, .inl (.inl eh)⟩, .ref p, e1, p, xs, .ref p, rfl, rfl, eh, by rw [hl.len]; exact hz, ?_⟩
  have nx : ∀ φ, H p ≠ some (.ext φ) := fun φ z => by rw [eh] at z; cases z
  have ns0 : ¬ G.S0 p := fun z => by
    obtain ⟨o, e⟩ := G.s0 p z
    rw [e0] at e; cases e
  have fr : Fr S H (fun a => S a ∧ a ≠ p) (upd H p (.lst (xs ++ [.ref p]))) := fun b u n e => ⟨fun z => n z.1, by rw [upd_ne (fun z => n (by rw [z]; exact sp))]; exact e⟩
  refine q.nx (fun a => S a ∧ a ≠ p) σ _ (ρ.set i (.d .anl)) ⟨G.clo H _ g.wld (fun b u u0 e e' => by rw [upd_ne (fun z => by rw [z, e0] at e; cases e)]; exact e') (keepX_upd nx), fun b hb => ?_, fun b hb => ⟨g.sub b hb, fun z => ns0 (by rw [← z]; exact hb)⟩, by simp [g.len], fun j t ht => ?_, fun j k sj sk w h1 h2 o1 o2 e2 e3 => ?_⟩ fr hp
  · obtain ⟨u, e⟩ := g.all b hb.1
    exact ⟨u, by rw [upd_ne hb.2]; exact e⟩
  · rw [getset] at ht
    by_cases hj : j = i
    · rw [if_pos hj] at ht
      split at ht
      · cases ht
        rw [hj, e1]
        exact ⟨p, _, rfl, fun z => z.2 rfl, upd_same⟩
      · cases ht
    · rw [if_neg hj] at ht
      have hs := g.slots j t ht
      have other : t.isOwn = true → σ[j]? ≠ some (some (.ref p)) := fun o z => hj (g.apart j i t _ _ ht es o rfl z e1)
      cases t with
      | own ds2 =>
        cases o : σ[j]? with
        | none => rw [o] at hs; exact hs.elim
        | some ov =>
          cases ov with
          | none => rw [o] at hs; exact hs.elim
          | some v =>
            rw [o] at hs
            obtain ⟨a, ys, rfl, b1, b2, b3, b4⟩ := (hs : ∃ a xs, v = .ref a ∧ S a ∧ G.H0 a = none ∧ H a = some (.lst xs) ∧ DvL G.X.K S H ds2 xs)
            have nap : a ≠ p := fun z => other rfl (by rw [o, z])
            exact ⟨a, ys, rfl, ⟨b1, nap⟩, b2, by rw [upd_ne nap]; exact b3, DvL.move fr ds2 ys b4⟩
      | ownp pp ds2 =>
        cases o : σ[j]? with
        | none => rw [o] at hs; exact hs.elim
        | some ov =>
          cases ov with
          | none => rw [o] at hs; exact hs.elim
          | some v =>
            rw [o] at hs
            obtain ⟨a, ys, ⟨rfl, ep⟩, b1, b2, b3, b4⟩ := (hs : ∃ a xs, (v = .ref a ∧ a = pp) ∧ S a ∧ G.H0 a = none ∧ H a = some (.lst xs) ∧ DvL G.X.K S H ds2 xs)
            have nap : a ≠ p := fun z => other rfl (by rw [o, z])
            exact ⟨a, ys, ⟨rfl, ep⟩, ⟨b1, nap⟩, b2, by rw [upd_ne nap]; exact b3, DvL.move fr ds2 ys b4⟩
      | ownd ks ds2 =>
        cases o : σ[j]? with
        | none => rw [o] at hs; exact hs.elim
        | some ov =>
          cases ov with
          | none => rw [o] at hs; exact hs.elim
          | some v =>
            rw [o] at hs
            obtain ⟨a, ys, rfl, b1, b2, b3, b5, b4⟩ := (hs : ∃ a kvs, v = .ref a ∧ S a ∧ G.H0 a = none ∧ H a = some (.dK kvs) ∧ kvs.map (·.1) = ks ∧ DvL G.X.K S H ds2 (kvs.map (·.2)))
            have nap : a ≠ p := fun z => other rfl (by rw [o, z])
            exact ⟨a, ys, rfl, ⟨b1, nap⟩, b2, by rw [upd_ne nap]; exact b3, b5, DvL.move fr ds2 _ b4⟩
      | ownt ks ds2 =>
        cases o : σ[j]? with
        | none => rw [o] at hs; exact hs.elim
        | some ov =>
          cases ov with
          | none => rw [o] at hs; exact hs.elim
          | some v =>
            rw [o] at hs
            obtain ⟨a, ys, rfl, b1, b2, b3, b5, b4⟩ := (hs : ∃ a kvs, v = .ref a ∧ S a ∧ G.H0 a = none ∧ H a = some (.dT kvs) ∧ kvs.map (·.1) = ks ∧ DvL G.X.K S H ds2 (kvs.map (·.2)))
            have nap : a ≠ p := fun z => other rfl (by rw [o, z])
            exact ⟨a, ys, rfl, ⟨b1, nap⟩, b2, by rw [upd_ne nap]; exact b3, b5, DvL.move fr ds2 _ b4⟩
      | un => exact trivial
      | d x =>
        cases o : σ[j]?.join with
        | none => rw [o] at hs; exact hs.elim
        | some v => rw [o] at hs; exact Dv.move fr x v hs
      | raw w =>
        cases o : σ[j]?.join with
        | none => rw [o] at hs; exact hs.elim
        | some v => rw [o] at hs; exact hs
      | scr ns =>
        cases o : σ[j]?.join with
        | none => rw [o] at hs; exact hs.elim
        | some v => rw [o] at hs; exact ScrOk.move hs fr
  · rw [getset] at h1 h2
    by_cases hj : j = i
    · rw [if_pos hj] at h1
      split at h1
      · cases h1; cases o1
      · cases h1
    · by_cases hk : k = i
      · rw [if_pos hk] at h2
        split at h2
        · cases h2; cases o2
        · cases h2
      · rw [if_neg hj] at h1
        rw [if_neg hk] at h2
        exact g.apart j k sj sk w h1 h2 o1 o2 e2 e3
end
end DL
namespace DL
open PySem PySem.Spec PyProof.Rows L2
section
variable {G : Ctx} {pos : Pos} {a b : Expr} {Fa Fb : FE}
theorem de_mulW (ha : DE G a Fa) (hb : DE G b Fb) : DE G (.BinOp a .Mult b pos) (fun ρ P => Fa ρ fun x => Fb ρ fun y => intD (fun i j => .int (i * j)) CMulW x y P) := de_bin op_mulW serves_I ha hb
theorem de_fdivW (ha : DE G a Fa) (hb : DE G b Fb) : DE G (.BinOp a .FloorDiv b pos) (fun ρ P => Fa ρ fun x => Fb ρ fun y => intD (fun i j => .int (i / j)) CDivW x y P) := de_bin op_fdivW serves_I ha hb
end
/-- within so many bits -/
def sml (i : Int) : Prop := i.natAbs < 2 ^ 240
theorem sml_mul {i j : Int} (hi : sml i) (hj : sml j) : CMulW i j := wide_mul hi hj (by decide) (by decide) (by decide)
theorem sml_div {i j : Int} (h : 0 < j) (hj : sml j) : CDivW i j := wide_div h hj (by decide) (by decide)
theorem sml_of {i : Int} (h : i.natAbs < 2 ^ 200) : sml i := Nat.lt_trans h (Nat.pow_lt_pow_right (by decide) (by decide))
/-! all numbers within are so -/
mutual
def SmV : Dat → Prop
  | .int i => sml i
  | .tup ds => SmVs ds
  | .lst ds => SmVs ds
  | _ => True
def SmVs : List Dat → Prop
  | [] => True
  | d :: ds => SmV d ∧ SmVs ds
end
theorem smVs_all : ∀ {ds : List Dat}, SmVs ds ↔ ∀ d ∈ ds, SmV d
  | [] => ⟨fun _ _ h => (List.not_mem_nil h).elim, fun _ => by rw [SmVs]; trivial⟩
  | d :: ds => by
    rw [SmVs, smVs_all]
    constructor
    · rintro ⟨h1, h2⟩ x hx
      rcases List.mem_cons.mp hx with rfl | hx
      · exact h1
      · exact h2 x hx
    · intro h
      exact ⟨h d List.mem_cons_self, fun x hx => h x (List.mem_cons_of_mem _ hx)⟩
theorem smV_tup {ds : List Dat} : SmV (.tup ds) ↔ ∀ d ∈ ds, SmV d := by rw [SmV, smVs_all]
theorem smV_lst {ds : List Dat} : SmV (.lst ds) ↔ ∀ d ∈ ds, SmV d := by rw [SmV, smVs_all]
end DL
namespace K01
open PySem PySem.Spec PyProof.Rows L2 DL
/-! ### values: the mirror -/
def ratB : Dat → Bool
  | .tup [.int _, .int _] => true
  | _ => false
def ratN : Dat → Int
  | .tup [.int a, .int _] => a
  | _ => 0
def ratD : Dat → Int
  | .tup [.int _, .int b] => b
  | _ => 1
def fracB : Dat → Bool
  | .tup [.int a, .int b] => decide (0 < b) && decide (Nat.gcd a.natAbs b.natAbs = 1)
  | _ => false
theorem frac_inv {d : Dat} (h : fracB d = true) : ∃ a b : Int, d = .tup [.int a, .int b] ∧ 0 < b ∧ Nat.gcd a.natAbs b.natAbs = 1 := by
  unfold fracB at h
  split at h
  · rename_i a b
    rw [Bool.and_eq_true, decide_eq_true_eq, decide_eq_true_eq] at h
    exact ⟨a, b, rfl, h.1, h.2⟩
  · cases h
theorem rat_inv {d : Dat} (h : ratB d = true) : ∃ a b : Int, d = .tup [.int a, .int b] := by
  unfold ratB at h
  split at h
  · exact ⟨_, _, rfl⟩
  · cases h
theorem frac_rat {d : Dat} (h : fracB d = true) : ratB d = true := by
  obtain ⟨a, b, rfl, _⟩ := frac_inv h
  rfl
def belowB (p q : Dat) : Bool := decide (ratN p * ratD q < ratN q * ratD p)
/-- the numbers of a pair are not too great -/
def smR (d : Dat) : Prop := sml (ratN d) ∧ sml (ratD d)
theorem smR_of {a b : Int} (h : SmV (.tup [.int a, .int b])) : smR (.tup [.int a, .int b]) := by
  have q := smV_tup.mp h
  exact ⟨q (.int a) (by simp), q (.int b) (by simp)⟩
theorem smR_frac {d : Dat} (h : SmV d) (hf : fracB d = true) : smR d := by
  obtain ⟨a, b, rfl, _⟩ := frac_inv hf
  exact smR_of h
def c_is_below : Con := conE (α := Dat × Dat) (fun x => [x.1, x.2]) (fun x => (ratB x.1 = true ∧ smR x.1) ∧ ratB x.2 = true ∧ smR x.2) fun x => .bl (belowB x.1 x.2)
def c_is_fraction : Con := con1 (fun _ => True) fun d => .bl (fracB d)
/-! a tree's parts, if it is one, at most so deep, in so much room -/
def foldT (g : Dat → Int → Option Nat) (room : Int) : Nat → List Dat → Option Nat
  | total, [] => some total
  | total, d :: ds => match g d (room - total) with
    | none => none
    | some s => foldT g room (total + s) ds
def tipN : List Dat → Option Nat
  | [x] => if fracB x = true then some 1 else none
  | _ => none
def nodN (g : Dat → Int → Option Nat) (room : Int) : List Dat → Option Nat
  | [x, y] => foldT g room 1 [x, y]
  | _ => none
def nodeT (g : Dat → Int → Option Nat) (d : Dat) (room : Int) : Option Nat := match d with
  | .tup (.str w :: r) => if w = "tip" then tipN r else if w = "node" then nodN g room r else none
  | _ => none
def tsz : Nat → Dat → Int → Option Nat
  | 0, _, _ => none
  | n + 1, d, room => if room < 1 then none else nodeT (tsz n) d room
theorem tsz_succ {n : Nat} {d : Dat} {room : Int} : tsz (n + 1) d room = if room < 1 then none else nodeT (tsz n) d room := rfl
theorem nodeT_no {g : Dat → Int → Option Nat} {d : Dat} {room : Int} (h : hasWord d = false) : nodeT g d room = none := by
  unfold nodeT
  split
  · cases h
  · rfl
def optI (o : Option Nat) : Dat := match o with
  | none => .non
  | some n => .int (n : Nat)
def c_tree_size (N : Nat) : Con := conE (α := Dat × Nat × Int) (fun x => [x.1, .int (x.2.1 : Nat), .int x.2.2]) (fun x => x.2.1 < N) fun x => optI (tsz x.2.1 x.1 x.2.2)
def okNext (l : Option Dat) (y : Dat) : Bool := match l with
  | none => true
  | some x => belowB x y
def risL : Option Dat → List Dat → Bool
  | _, [] => true
  | l, d :: ds => fracB d && okNext l d && risL (some d) ds
theorem risL_cons {l : Option Dat} {d : Dat} {ds : List Dat} : risL l (d :: ds) = (fracB d && okNext l d && risL (some d) ds) := by cases l <;> rfl
def risB (d : Dat) : Bool := match d with
  | .tup ds => risL none ds
  | _ => false
def wholeB (d : Dat) (k : Str) : Bool := match d with
  | .int i => decide (0 ≤ i) && (decide (k = "thing") || decide (i ≤ 15))
  | _ => false
def valB (d : Dat) (k : Str) : Bool := if k = "num" then fracB d else if k = "tree" then (tsz 40 d 600).isSome else if k = "set" then risB d else wholeB d k
def c_is_rising : Con := con1 SmV fun d => .bl (risB d)
def c_is_value : Con := conE (α := Dat × Str) (fun x => [x.1, .str x.2]) (fun x => SmV x.1 ∧ x.2 ∈ sorts) fun x => .bl (valB x.1 x.2)
def plains : List (Str × Dat) := [("thing", .int 0), ("num", .tup [.int 0, .int 1]), ("tree", .tup [.str "tip", .tup [.int 0, .int 1]]), ("set", .tup []), ("bits", .int 0)]
def plainT (z : Str) : Option Dat := (plains.find? fun p => decide (p.1 = z)).map (·.2)
def plainOf (d : Dat) : Dat := match d with
  | .str z => (plainT z).getD .non
  | _ => .non
def c_plain_value (CB : Addr) : Con := ⟨fun ds P X => ∃ d, ds = [d] ∧ (isSort d = true → P (plainOf d)) ∧ (isSort d = false → X (badX CB "sort")), fun _ _ _ _ _ ⟨d, e, h1, h2⟩ m mx => ⟨d, e, fun z => m _ (h1 z), fun z => mx _ (h2 z)⟩⟩
def c_less (CB : Addr) : Con := ⟨fun ds P X => ∃ d e, ds = [d, e] ∧ SmV d ∧ SmV e ∧ (fracB d = false → X (badX CB "one")) ∧ (fracB d = true → fracB e = false → X (badX CB "other")) ∧ (fracB d = true → fracB e = true → P (.bl (belowB d e))),
  fun _ _ _ _ _ ⟨d, e, h, h0, h01, h1, h2, h3⟩ m mx => ⟨d, e, h, h0, h01, fun z => mx _ (h1 z), fun z y => mx _ (h2 z y), fun z y => m _ (h3 z y)⟩⟩
section
variable {P : Program} {w : World} {K : PySem.W.Frag} {mg : Str → Option Value} {base : Heap} {f f2 : Addr} {fd fd2 : FuncData} {k : Nat}
abbrev s_is_below : Stmt := topS 6
theorem sc_is_below : FnScope ["one", "other"] ["one", "other"] (defScope s_is_below) := ⟨rfl, rfl, rfl, by decide +kernel, rfl, by decide +kernel, by decide +kernel⟩
-- calls [] consts []
theorem ok_is_below (F : Fun K "is_below" "is_below" s_is_below f fd) : FnOk P w K mg base CX0 (k + 1) f fd ["one", "other"] (spD K c_is_below) := by
  refine fn_pure F sc_is_below (fun ds P X ⟨d, e, _⟩ => by rw [e]; rfl) fun cdv A outer s H S hS hr => ?_
  have nd := sc_is_below.nd
  refine ⟨_, (db_one (ds_ret (de_lt (de_mulW (de_ix (de_var 0) de_int) (de_ix (de_var 1) de_int)) (de_mulW (de_ix (de_var 1) de_int) (de_ix (de_var 0) de_int))))), ?_⟩
  rintro ds R X ⟨⟨p, q⟩, rfl, ⟨⟨hp, hp2⟩, hq, hq2⟩, h⟩
  obtain ⟨a, b, rfl⟩ := rat_inv hp
  obtain ⟨c, d, rfl⟩ := rat_inv hq
  exact ⟨sml_mul hp2.1 hq2.2, sml_mul hq2.1 hp2.2, h⟩
abbrev s_is_fraction : Stmt := topS 18
theorem sc_is_fraction : FnScope ["thing", "over", "under"] ["thing"] (defScope s_is_fraction) := ⟨rfl, rfl, rfl, by decide +kernel, rfl, by decide +kernel, by decide +kernel⟩
-- calls [] consts []
theorem ok_is_fraction (B : Bt mg) (B_gcd : mg "gcd" = some (.builtin "math.gcd")) (F : Fun K "is_fraction" "is_fraction" s_is_fraction f fd) : FnOk P w K mg base CX0 (k + 1) f fd ["thing"] (spD K c_is_fraction) := by
  refine fn_pure F sc_is_fraction (fun ds P X ⟨d, e, _⟩ => by rw [e]; rfl) fun cdv A outer s H S hS hr => ?_
  have nd := sc_is_fraction.nd
  refine ⟨_, (db_cons (ds_ifc (dt_w (dw_or (dt_ntype (TT := "tuple") (he := (de_var 0)) (hm := B.type) (hmT := B.tuple) (hv := by decide +kernel) (hn := by decide) (hd := by decide)) (dw_or1 (dt_ne hr.units (de_len B.len (da_cons (de_var 0) da_nil)) de_int)))) (db_one (ds_ret de_bl)) db_nil) (db_cons (ds_asg (de_var 0) (dg_tup 2 rfl (dgs_cons (dg_name 1 nd) (dgs_cons (dg_name 2 nd) dgs_nil)))) (db_cons (ds_ifc (dt_w (dw_or (dt_ntype (TT := "int") (he := (de_var 1)) (hm := B.type) (hmT := B.int) (hv := by decide +kernel) (hn := by decide) (hd := by decide)) (dw_or1 (dt_ntype (TT := "int") (he := (de_var 2)) (hm := B.type) (hmT := B.int) (hv := by decide +kernel) (hn := by decide) (hd := by decide))))) (db_one (ds_ret de_bl)) db_nil) (db_one (ds_ret (de_and (de_gt (de_var 2) de_int) (de_one (de_eq hr.units (de_gcd B_gcd (da_cons (de_var 1) (da_cons (de_var 2) da_nil))) de_int)))))))), ?_⟩
  rintro ds R X ⟨d, rfl, _, h⟩
  replace h : R (.bl (fracB d)) := h
  refine ⟨fun b => (b = false → ∃ x y, d = .tup [x, y]) ∧ (b = true → fracB d = false), ?_, fun e => ?_, fun e => ?_⟩
  · ((try dsimp only); refine rd_here rfl ?_; (try dsimp only))
    cases d with
    | tup xs =>
      rw [if_neg (by simp [tyName])]
      ((try dsimp only); refine rd_here rfl ?_; (try dsimp only))
      rw [lenD_tup, neD_int, isB_bl]
      match xs with
      | [] => exact ⟨(fun z => by cases z), fun _ => rfl⟩
      | [x] => exact ⟨(fun z => by cases z), fun _ => by cases x <;> rfl⟩
      | [x, y] => exact ⟨fun _ => ⟨x, y, rfl⟩, (fun z => by cases z)⟩
      | x :: y :: z :: r => exact ⟨fun e => absurd e (by simp; omega), fun _ => by cases x <;> cases y <;> rfl⟩
    | _ =>
      rw [if_pos (by simp [tyName])]
      exact ⟨(fun z => by cases z), fun _ => rfl⟩
  · have q := e.2 rfl
    rw [q] at h
    exact h
  · obtain ⟨x, y, rfl⟩ := e.1 rfl
    ((try dsimp only); refine rd_here rfl ?_; (try dsimp only))
    simp only [tupD_tup, consD_cons]
    refine ⟨by simp, trivial, ?_⟩
    refine ⟨fun b => (b = false → ∃ i j, x = .int i ∧ y = .int j) ∧ (b = true → fracB (.tup [x, y]) = false), ?_, fun e => ?_, fun e => ?_⟩
    · ((try dsimp only); refine rd_here rfl ?_; (try dsimp only))
      cases x with
      | int i =>
        rw [if_neg (by simp [tyName])]
        ((try dsimp only); refine rd_here rfl ?_; (try dsimp only))
        cases y with
        | int j => exact ⟨fun _ => ⟨i, j, rfl, rfl⟩, fun z => absurd z (by simp [tyName])⟩
        | _ => exact ⟨fun z => absurd z (by simp [tyName]), fun _ => rfl⟩
      | _ =>
        rw [if_pos (by simp [tyName])]
        exact ⟨(fun z => by cases z), fun _ => by cases y <;> rfl⟩
    · have q := e.2 rfl
      rw [q] at h
      exact h
    · obtain ⟨i, j, rfl, rfl⟩ := e.1 rfl
      ((try dsimp only); refine rd_here rfl ?_; (try dsimp only))
      rw [int0_int, isB_bl]
      have ef : fracB (.tup [.int i, .int j]) = (decide (0 < j) && decide (Nat.gcd i.natAbs j.natAbs = 1)) := rfl
      rw [ef] at h
      by_cases hj : 0 < j
      · rw [decide_eq_true hj, if_pos rfl]
        rw [decide_eq_true hj, Bool.true_and] at h
        ((try dsimp only); refine rd_here rfl ?_; (try dsimp only))
        ((try dsimp only); refine rd_here rfl ?_; (try dsimp only))
        show eqD (.int ((Nat.gcd i.natAbs j.natAbs : Nat) : Int)) (.int 1) _
        rw [eqD_int]
        have e2 : decide (((Nat.gcd i.natAbs j.natAbs : Nat) : Int) = 1) = decide (Nat.gcd i.natAbs j.natAbs = 1) := decide_eq_decide.mpr (by omega)
        rw [e2]
        exact h
      · rw [decide_eq_false hj, if_neg (by decide)]
        rw [decide_eq_false hj, Bool.false_and] at h
        exact h
abbrev s_tree_size : Stmt := topS 16
theorem sc_tree_size : FnScope ["thing", "deep", "room", "total", "inner", "size"] ["thing", "deep", "room"] (defScope s_tree_size) := ⟨rfl, rfl, rfl, by decide +kernel, rfl, by decide +kernel, by decide +kernel⟩
-- calls ['has_word', 'is_fraction', 'tree_size'] consts []
theorem ok_tree_size {n : Nat} (B : Bt mg) (F_has_word : Callee P w K mg base "has_word" k ["thing"] c_has_word) (F_is_fraction : Callee P w K mg base "is_fraction" k ["thing"] c_is_fraction) (F_tree_size : Callee P w K mg base "tree_size" k ["thing", "deep", "room"] (c_tree_size n)) (F : Fun K "tree_size" "tree_size" s_tree_size f fd) : FnOk P w K mg base CX0 (k + 1) f fd ["thing", "deep", "room"] (spD K (c_tree_size (n + 1))) := by
  refine fn_pure F sc_tree_size (fun ds P X ⟨d, e, _⟩ => by rw [e]; rfl) fun cdv A outer s H S hS hr => ?_
  have nd := sc_tree_size.nd
  refine ⟨_, (db_cons (ds_ifc (dt_w (dw_or (dt_lt (de_var 1) de_int) (dw_or (dt_lt (de_var 2) de_int) (dw_or1 (dt_not (dt_val (de_fn F_has_word hr (da_cons (de_var 0) da_nil) (by omega)))))))) (db_one (ds_ret de_non)) db_nil) (db_cons (ds_ifc (dt_eq hr.units (de_ix (de_var 0) de_int) de_str) (db_one (ds_ret (de_if (dt_w (dw_and (dt_eq hr.units (de_len B.len (da_cons (de_var 0) da_nil)) de_int) (dw_and1 (dt_val (de_fn F_is_fraction hr (da_cons (de_ix (de_var 0) de_int) da_nil) (by omega)))))) de_int de_non))) db_nil) (db_cons (ds_ifc (dt_w (dw_or (dt_ne hr.units (de_ix (de_var 0) de_int) de_str) (dw_or1 (dt_ne hr.units (de_len B.len (da_cons (de_var 0) da_nil)) de_int)))) (db_one (ds_ret de_non)) db_nil) (db_cons (ds_set 3 de_int nd) (db_cons (ds_forI PassesOwn.never rfl (di_seq (de_sl (de_var 0) (do_some de_int) do_none)) (dg_name 4 nd) (db_cons (ds_set 5 (de_fn F_tree_size hr (da_cons (de_var 4) (da_cons (de_sub (de_var 1) de_int) (da_cons (de_sub (de_var 2) (de_var 3)) da_nil))) (by omega)) nd) (db_cons (ds_ifc (dt_isN (de_var 5)) (db_one (ds_ret de_non)) db_nil) (db_one (ds_augI 3 (de_var 5) nd))))) (db_one (ds_ret (de_var 3)))))))), ?_⟩
  rintro ds R X ⟨⟨d, m, room⟩, rfl, hm, h⟩
  dsimp only at hm h
  have z0 : room < 1 → tsz m d room = none := fun z => by
    cases m with
    | zero => rfl
    | succ m => rw [tsz_succ, if_pos z]
  refine ⟨fun b => (b = false → 1 ≤ m ∧ ¬ room < 1 ∧ ∃ w r, d = .tup (.str w :: r)) ∧ (b = true → tsz m d room = none), ?_, fun e => ?_, fun e => ?_⟩
  · ((try dsimp only); refine rd_here rfl ?_; (try dsimp only))
    rw [int0_int, isB_bl]
    by_cases h1 : ((m : Nat) : Int) < 1
    · rw [if_pos (decide_eq_true h1)]
      exact ⟨(fun z => by cases z), fun _ => by rw [show m = 0 by omega]; rfl⟩
    rw [if_neg (fun z => h1 (of_decide_eq_true z))]
    ((try dsimp only); refine rd_here rfl ?_; (try dsimp only))
    rw [int0_int, isB_bl]
    by_cases h2 : room < 1
    · rw [if_pos (decide_eq_true h2)]
      exact ⟨(fun z => by cases z), fun _ => z0 h2⟩
    rw [if_neg (fun z => h2 (of_decide_eq_true z))]
    ((try dsimp only); refine rd_here rfl ?_; (try dsimp only))
    refine con1_C.mpr ⟨trivial, ?_⟩
    rw [isB_bl]
    cases hw : hasWord d with
    | true =>
      refine ⟨fun _ => ⟨by omega, h2, ?_⟩, (fun z => by cases z)⟩
      unfold hasWord at hw
      split at hw
      · exact ⟨_, _, rfl⟩
      · cases hw
    | false =>
      refine ⟨(fun z => by cases z), fun _ => ?_⟩
      obtain ⟨m', rfl⟩ : ∃ m', m = m' + 1 := ⟨m - 1, by omega⟩
      rw [tsz_succ, if_neg h2, nodeT_no hw]
  · rw [e.2 rfl] at h
    exact h
  obtain ⟨hm1, hr1, w0, r, rfl⟩ := e.1 rfl
  obtain ⟨m', rfl⟩ : ∃ m', m = m' + 1 := ⟨m - 1, by omega⟩
  have et : tsz (m' + 1) (.tup (.str w0 :: r)) room = if w0 = "tip" then tipN r else if w0 = "node" then nodN (tsz m') room r else none := by rw [tsz_succ, if_neg hr1]; rfl
  rw [et] at h
  refine ⟨fun b => b = decide (w0 = "tip"), ?_, fun e => ?_, fun e => ?_⟩
  · ((try dsimp only); refine rd_here rfl ?_; (try dsimp only))
    rw [ixD_tup, at0, someD_some, eqD_str, isB_bl]
  · have e1 := of_decide_eq_true e.symm
    rw [if_pos e1] at h
    ((try dsimp only); refine rd_here rfl ?_; (try dsimp only))
    rw [lenD_tup, eqD_int, isB_bl]
    match r with
    | [] =>
      rw [if_neg (by simp)]
      exact h
    | [x] =>
      rw [if_pos (by simp)]
      ((try dsimp only); refine rd_here rfl ?_; (try dsimp only))
      rw [ixD_tup, at1, someD_some]
      refine con1_C.mpr ⟨trivial, ?_⟩
      rw [isB_bl]
      cases hx : fracB x with
      | true => rw [if_pos rfl]; rw [tipN, hx] at h; exact h
      | false => rw [if_neg (by decide)]; rw [tipN, hx] at h; exact h
    | x :: y :: r2 =>
      rw [if_neg (by simp; omega)]
      exact h
  have n1 : ¬ w0 = "tip" := of_decide_eq_false e.symm
  rw [if_neg n1] at h
  refine ⟨fun b => (b = false → w0 = "node" ∧ ∃ x y, r = [x, y]) ∧ (b = true → R .non), ?_, fun e => ?_, fun e => ?_⟩
  · ((try dsimp only); refine rd_here rfl ?_; (try dsimp only))
    rw [ixD_tup, at0, someD_some, neD_str, isB_bl]
    by_cases h1 : w0 = "node"
    · rw [if_neg (by simp [h1])]
      rw [if_pos h1] at h
      ((try dsimp only); refine rd_here rfl ?_; (try dsimp only))
      rw [lenD_tup, neD_int, isB_bl]
      match r with
      | [] => exact ⟨(fun z => by cases z), fun _ => h⟩
      | [x] => exact ⟨(fun z => by cases z), fun _ => h⟩
      | [x, y] => exact ⟨fun _ => ⟨h1, x, y, rfl⟩, (fun z => by cases z)⟩
      | x :: y :: z :: r2 => exact ⟨fun e => absurd e (by simp; omega), fun _ => h⟩
    · rw [if_pos (by simp [h1])]
      rw [if_neg h1] at h
      exact ⟨(fun z => by cases z), fun _ => h⟩
  · exact e.2 rfl
  obtain ⟨rfl, x, y, rfl⟩ := e.1 rfl
  rw [if_pos rfl, nodN] at h
  try dsimp only
  refine ⟨fun items ρ => ∃ (total : Nat) (a b : DL.Slot), foldT (tsz m') room 1 [x, y] = foldT (tsz m') room total items ∧ ρ = [.d (.tup [.str "node", x, y]), .d (.int ((m' + 1 : Nat) : Int)), .d (.int room), .d (.int (total : Nat)), a, b], ?_, ?_, ?_⟩
  · ((try dsimp only); refine rd_here rfl ?_; (try dsimp only))
    rw [isI_int, slD_tup, seqOf_tup]
    rw [show cutG [Dat.str "node", x, y] (some 1) none = [x, y] from rfl]
    exact ⟨1, .un, .un, rfl, rfl⟩
  · rintro ρ ⟨total, a, b, e1, rfl⟩
    rw [e1] at h
    exact rd_here rfl h
  · rintro d ds ρ ⟨total, a, b, e1, rfl⟩
    replace e1 := e1.trans (show foldT (tsz m') room total (d :: ds) = _ from by rw [foldT])
    ((try dsimp only); refine rd_here rfl ?_; (try dsimp only))
    ((try dsimp only); refine rd_here rfl ?_; (try dsimp only))
    rw [int0_int]
    ((try dsimp only); refine rd_here rfl ?_; (try dsimp only))
    ((try dsimp only); refine rd_here rfl ?_; (try dsimp only))
    rw [int0_int]
    refine ⟨(d, m', room - (total : Nat)), ?_, show m' < n by omega, ?_⟩
    · exact congrArg (fun z : Int => [d, Dat.int z, Dat.int (room - (total : Nat))]) (show ((m' + 1 : Nat) : Int) - 1 = (m' : Nat) by omega)
    · dsimp only
      cases hs : tsz m' d (room - (total : Nat)) with
      | none =>
        rw [hs] at e1
        rw [e1] at h
        refine ⟨(· = true), ?_, fun _ => ?_, fun e => (by cases e)⟩
        · ((try dsimp only); refine rd_here rfl ?_; (try dsimp only))
          rfl
        · exact h
      | some sz =>
        rw [hs] at e1
        refine ⟨(· = false), ?_, fun e => (by cases e), fun _ => ?_⟩
        · ((try dsimp only); refine rd_here rfl ?_; (try dsimp only))
          rfl
        · ((try dsimp only); refine rd_here rfl ?_; (try dsimp only))
          ((try dsimp only); refine rd_here rfl ?_; (try dsimp only))
          rw [show optI (some sz) = Dat.int ((sz : Nat) : Int) from rfl, int0_int]
          exact ⟨total + sz, _, _, e1, rfl⟩
end
end K01
namespace K01
open PySem PySem.Spec PyProof.Rows L2 DL
def optD (o : Option Dat) : Dat := match o with
  | none => .non
  | some d => d
section
variable {P : Program} {w : World} {K : PySem.W.Frag} {mg : Str → Option Value} {base : Heap} {f f2 : Addr} {fd fd2 : FuncData} {k : Nat}
abbrev s_is_rising : Stmt := topS 17
theorem sc_is_rising : FnScope ["thing", "last", "item"] ["thing"] (defScope s_is_rising) := ⟨rfl, rfl, rfl, by decide +kernel, rfl, by decide +kernel, by decide +kernel⟩
-- calls ['is_below', 'is_fraction'] consts []
theorem ok_is_rising (B : Bt mg) (F_is_fraction : Callee P w K mg base "is_fraction" k ["thing"] c_is_fraction) (F_is_below : Callee P w K mg base "is_below" k ["one", "other"] c_is_below) (F : Fun K "is_rising" "is_rising" s_is_rising f fd) : FnOk P w K mg base CX0 (k + 1) f fd ["thing"] (spD K c_is_rising) := by
  refine fn_pure F sc_is_rising (fun ds P X ⟨d, e, _⟩ => by rw [e]; rfl) fun cdv A outer s H S hS hr => ?_
  have nd := sc_is_rising.nd
  refine ⟨_, (db_cons (ds_ifc (dt_ntype (TT := "tuple") (he := (de_var 0)) (hm := B.type) (hmT := B.tuple) (hv := by decide +kernel) (hn := by decide) (hd := by decide)) (db_one (ds_ret de_bl)) db_nil) (db_cons (ds_set 1 de_non nd) (db_cons (ds_forI PassesOwn.never rfl (di_seq (de_var 0)) (dg_name 2 nd) (db_cons (ds_ifc (dt_w (dw_or (dt_not (dt_val (de_fn F_is_fraction hr (da_cons (de_var 2) da_nil) (by omega)))) (dw_or1 (dt_w (dw_and (dt_notN (de_var 1)) (dw_and1 (dt_not (dt_val (de_fn F_is_below hr (da_cons (de_var 1) (da_cons (de_var 2) da_nil)) (by omega)))))))))) (db_one (ds_ret de_bl)) db_nil) (db_one (ds_set 1 (de_var 2) nd)))) (db_one (ds_ret de_bl))))), ?_⟩
  rintro ds R X ⟨d, rfl, hsm, h⟩
  replace h : R (.bl (risB d)) := h
  refine ⟨fun b => (b = false → ∃ xs, d = .tup xs) ∧ (b = true → risB d = false), ?_, fun e => ?_, fun e => ?_⟩
  · ((try dsimp only); refine rd_here rfl ?_; (try dsimp only))
    cases d with
    | tup xs => exact ⟨fun _ => ⟨xs, rfl⟩, fun e => absurd e (by simp [tyName])⟩
    | _ => exact ⟨fun e => absurd e (by simp [tyName]), fun _ => rfl⟩
  · rw [e.2 rfl] at h
    exact h
  obtain ⟨xs, rfl⟩ := e.1 rfl
  try dsimp only
  refine ⟨fun items ρ => ∃ (l : Option Dat) (a : DL.Slot), ρ = [.d (.tup xs), .d (optD l), a] ∧ risL none xs = risL l items ∧ (∀ p, l = some p → fracB p = true ∧ SmV p) ∧ ∀ y ∈ items, SmV y, ?_, ?_, ?_⟩
  · ((try dsimp only); refine rd_here rfl ?_; (try dsimp only))
    rw [seqOf_tup]
    exact ⟨none, .un, rfl, rfl, (fun p e => by cases e), smV_tup.mp hsm⟩
  · rintro ρ ⟨l, a, rfl, e1, _, _⟩
    replace h : R (.bl (risL none xs)) := h
    rw [e1] at h
    exact h
  rintro y ys ρ ⟨l, a, rfl, e1, hl, hy⟩
  have sy := hy y List.mem_cons_self
  have hys : ∀ z ∈ ys, SmV z := fun z hz => hy z (List.mem_cons_of_mem _ hz)
  replace h : R (.bl (risL none xs)) := h
  rw [show risL l (y :: ys) = _ from risL_cons] at e1
  refine ⟨fun b => (b = false → fracB y = true ∧ risL none xs = risL (some y) ys) ∧ (b = true → risL none xs = false), ?_, fun e => ?_, fun e => ?_⟩
  · ((try dsimp only); refine rd_here rfl ?_; (try dsimp only))
    refine con1_C.mpr ⟨trivial, ?_⟩
    rw [isB_bl]
    cases hf : fracB y with
    | false =>
      rw [if_pos (by decide)]
      rw [hf, Bool.false_and, Bool.false_and] at e1
      exact ⟨(fun z => by cases z), fun _ => e1⟩
    | true =>
      rw [if_neg (by decide)]
      rw [hf, Bool.true_and] at e1
      ((try dsimp only); refine rd_here rfl ?_; (try dsimp only))
      cases l with
      | none =>
        refine ⟨fun _ => ⟨rfl, ?_⟩, (fun z => by cases z)⟩
        rw [e1]
        rfl
      | some x =>
        obtain ⟨hx, sx⟩ := hl x rfl
        have nx : isN x = false := by obtain ⟨a, b, rfl, _⟩ := frac_inv hx; rfl
        rw [show optD (some x) = x from rfl, nx]
        rw [if_pos (by decide)]
        ((try dsimp only); refine rd_here rfl ?_; (try dsimp only))
        ((try dsimp only); refine rd_here rfl ?_; (try dsimp only))
        refine conE_use (args := fun x : Dat × Dat => [x.1, x.2]) (x, y) ⟨⟨frac_rat hx, smR_frac sx hx⟩, frac_rat hf, smR_frac sy hf⟩ ?_
        dsimp only
        rw [isB_bl]
        rw [show okNext (some x) y = belowB x y from rfl] at e1
        cases hb : belowB x y with
        | true =>
          rw [hb, Bool.true_and] at e1
          exact ⟨fun _ => ⟨rfl, e1⟩, (fun z => by cases z)⟩
        | false =>
          rw [hb, Bool.false_and] at e1
          exact ⟨(fun z => by cases z), fun _ => e1⟩
  · rw [e.2 rfl] at h
    exact h
  obtain ⟨hf, e2⟩ := e.1 rfl
  ((try dsimp only); refine rd_here rfl ?_; (try dsimp only))
  exact ⟨some y, _, rfl, e2, (fun p e => by cases e; exact ⟨hf, sy⟩), hys⟩
abbrev s_is_value : Stmt := topS 19
theorem sc_is_value : FnScope ["thing", "sort"] ["thing", "sort"] (defScope s_is_value) := ⟨rfl, rfl, rfl, by decide +kernel, rfl, by decide +kernel, by decide +kernel⟩
-- calls ['is_sort', 'is_fraction', 'tree_size', 'is_rising'] consts ['TREE_PARTS', 'TREE_DEEP', 'MOST_BITS']
theorem ok_is_value (B : Bt mg) (F_is_sort : Callee P w K mg base "is_sort" k ["thing"] c_is_sort) (F_is_fraction : Callee P w K mg base "is_fraction" k ["thing"] c_is_fraction) (F_tree_size : Callee P w K mg base "tree_size" k ["thing", "deep", "room"] (c_tree_size 41)) (F_is_rising : Callee P w K mg base "is_rising" k ["thing"] c_is_rising) (C_TREE_DEEP : CI mg "TREE_DEEP" 40) (C_TREE_PARTS : CI mg "TREE_PARTS" 600) (C_MOST_BITS : CI mg "MOST_BITS" 15) (F : Fun K "is_value" "is_value" s_is_value f fd) : FnOk P w K mg base CX0 (k + 1) f fd ["thing", "sort"] (spD K c_is_value) := by
  refine fn_pure F sc_is_value (fun ds P X ⟨d, e, _⟩ => by rw [e]; rfl) fun cdv A outer s H S hS hr => ?_
  have nd := sc_is_value.nd
  refine ⟨_, (db_cons (ds_ifc (dt_not (dt_val (de_fn F_is_sort hr (da_cons (de_var 1) da_nil) (by omega)))) (db_one (ds_ret de_bl)) db_nil) (db_cons (ds_ifc (dt_eq hr.units (de_var 1) de_str) (db_one (ds_ret (de_fn F_is_fraction hr (da_cons (de_var 0) da_nil) (by omega)))) db_nil) (db_cons (ds_ifc (dt_eq hr.units (de_var 1) de_str) (db_one (ds_ret (de_notN (de_fn F_tree_size hr (da_cons (de_var 0) (da_cons (de_ci C_TREE_DEEP) (da_cons (de_ci C_TREE_PARTS) da_nil))) (by omega))))) db_nil) (db_cons (ds_ifc (dt_eq hr.units (de_var 1) de_str) (db_one (ds_ret (de_fn F_is_rising hr (da_cons (de_var 0) da_nil) (by omega)))) db_nil) (db_one (ds_ret (de_and (de_type (TT := "int") (he := (de_var 0)) (hm := B.type) (hmT := B.int) (hv := by decide +kernel) (hn := by decide) (hd := by decide)) (de_and (de_ge (de_var 0) de_int) (de_one (de_or (de_eq hr.units (de_var 1) de_str) (de_one (de_le (de_var 0) (de_ci C_MOST_BITS))))))))))))), ?_⟩
  rintro ds R X ⟨⟨d, z⟩, rfl, ⟨hsm, hz⟩, h⟩
  replace h : R (.bl (valB d z)) := h
  replace hz : z ∈ sorts := hz
  try dsimp only
  refine ⟨(· = false), ?_, fun e => (by cases e), fun _ => ?_⟩
  · ((try dsimp only); refine rd_here rfl ?_; (try dsimp only))
    refine con1_C.mpr ⟨trivial, ?_⟩
    rw [show isSort (.str z) = true from decide_eq_true hz]
    rfl
  try dsimp only
  rw [valB] at h
  refine ⟨(· = decide (z = "num")), ?_, fun e => ?_, fun e => ?_⟩
  · ((try dsimp only); refine rd_here rfl ?_; (try dsimp only))
    rw [eqD_str, isB_bl]
  · rw [if_pos (of_decide_eq_true e.symm)] at h
    ((try dsimp only); refine rd_here rfl ?_; (try dsimp only))
    exact con1_C.mpr ⟨trivial, h⟩
  rw [if_neg (of_decide_eq_false e.symm)] at h
  refine ⟨(· = decide (z = "tree")), ?_, fun e => ?_, fun e => ?_⟩
  · ((try dsimp only); refine rd_here rfl ?_; (try dsimp only))
    rw [eqD_str, isB_bl]
  · rw [if_pos (of_decide_eq_true e.symm)] at h
    ((try dsimp only); refine rd_here rfl ?_; (try dsimp only))
    refine conE_use (args := fun x : Dat × Nat × Int => [x.1, Dat.int (x.2.1 : Nat), Dat.int x.2.2]) (d, 40, 600) (show 40 < 41 by decide) ?_
    dsimp only
    cases ht : tsz 40 d 600 with
    | none => rw [ht] at h; exact h
    | some n => rw [ht] at h; exact h
  rw [if_neg (of_decide_eq_false e.symm)] at h
  refine ⟨(· = decide (z = "set")), ?_, fun e => ?_, fun e => ?_⟩
  · ((try dsimp only); refine rd_here rfl ?_; (try dsimp only))
    rw [eqD_str, isB_bl]
  · rw [if_pos (of_decide_eq_true e.symm)] at h
    ((try dsimp only); refine rd_here rfl ?_; (try dsimp only))
    exact con1_C.mpr ⟨hsm, h⟩
  rw [if_neg (of_decide_eq_false e.symm)] at h
  ((try dsimp only); refine rd_here rfl ?_; (try dsimp only))
  cases d with
  | int i =>
    rw [show tyName (.int i) = "int" from rfl, isB_bl, if_pos (by decide)]
    rw [show wholeB (.int i) z = (decide (0 ≤ i) && (decide (z = "thing") || decide (i ≤ 15))) from rfl] at h
    ((try dsimp only); refine rd_here rfl ?_; (try dsimp only))
    rw [int0_int, isB_bl]
    cases h0 : decide (0 ≤ i) with
    | false =>
      rw [h0, Bool.false_and] at h
      rw [if_neg (by decide)]
      exact h
    | true =>
      rw [h0, Bool.true_and] at h
      rw [if_pos rfl]
      ((try dsimp only); refine rd_here rfl ?_; (try dsimp only))
      rw [eqD_str, isB_bl]
      cases h1 : decide (z = "thing") with
      | true =>
        rw [h1, Bool.true_or] at h
        rw [if_pos rfl]
        exact h
      | false =>
        rw [h1, Bool.false_or] at h
        rw [if_neg (by decide)]
        ((try dsimp only); refine rd_here rfl ?_; (try dsimp only))
        rw [int0_int]
        exact h
  | _ =>
    rw [isB_bl, if_neg (by simp [tyName])]
    exact h
abbrev s_plain_value : Stmt := topS 20
theorem sc_plain_value : FnScope ["sort"] ["sort"] (defScope s_plain_value) := ⟨rfl, rfl, rfl, by decide +kernel, rfl, by decide +kernel, by decide +kernel⟩
-- calls ['is_sort'] consts ['PLAIN']
theorem ok_plain_value {CB : Addr} {j : Nat} (hj : j + 1 ≤ k) {d_PLAIN : Addr} {v_PLAIN : Str → Option Value} (W_PLAIN : WD K w d_PLAIN v_PLAIN) (T_PLAIN : TabOk K v_PLAIN plainT) (C_PLAIN : mg "PLAIN" = some (.ref d_PLAIN)) (F_is_sort : Callee P w K mg base "is_sort" k ["thing"] c_is_sort) (X_BadValue : OwnX P w K mg base "BadValue" CB "what" j) (F : Fun K "plain_value" "plain_value" s_plain_value f fd) : FnOk P w K mg base (L2.CX P w) (k + 1) f fd ["sort"] (spD K (c_plain_value CB)) := by
  refine fn_pureX F sc_plain_value (fun ds P X ⟨d, e, _⟩ => by rw [e]; rfl) fun cdv A outer s H S hS E EX el hr => ?_
  have nd := sc_plain_value.nd
  refine ⟨_, (db_cons (ds_ifc (dt_not (dt_val (de_fn F_is_sort hr (da_cons (de_var 0) da_nil) (by omega)))) (db_one (ds_raise X_BadValue hr de_str (by omega))) db_nil) (db_one (ds_ret (de_itemW W_PLAIN T_PLAIN C_PLAIN (de_var 0))))), ?_⟩
  rintro ds R ⟨d, rfl, h1, h2⟩
  refine ⟨(· = !isSort d), ?_, fun e => ?_, fun e => ?_⟩
  · ((try dsimp only); refine rd_here rfl ?_; (try dsimp only))
    exact con1_C.mpr ⟨trivial, rfl⟩
  · exact h2 (by simpa using e)
  · have hs : isSort d = true := by simpa using e
    have q := h1 hs
    ((try dsimp only); refine rd_here rfl ?_; (try dsimp only))
    cases d with
    | str z =>
      have hz : z ∈ sorts := of_decide_eq_true hs
      obtain ⟨u, hu⟩ : ∃ u, plainT z = some u := by
        simp only [sorts, List.mem_cons, List.not_mem_nil, or_false] at hz
        rcases hz with rfl | rfl | rfl | rfl | rfl <;> exact ⟨_, rfl⟩
      show someD (plainT z) R
      rw [show plainOf (.str z) = (plainT z).getD .non from rfl, hu] at q
      rw [hu]
      exact q
    | _ => cases hs
abbrev s_less : Stmt := topS 21
theorem sc_less : FnScope ["one", "other"] ["one", "other"] (defScope s_less) := ⟨rfl, rfl, rfl, by decide +kernel, rfl, by decide +kernel, by decide +kernel⟩
-- calls ['is_fraction', 'is_below'] consts []
theorem ok_less {CB : Addr} {j : Nat} (hj : j + 1 ≤ k) (F_is_fraction : Callee P w K mg base "is_fraction" k ["thing"] c_is_fraction) (F_is_below : Callee P w K mg base "is_below" k ["one", "other"] c_is_below) (X_BadValue : OwnX P w K mg base "BadValue" CB "what" j) (F : Fun K "less" "less" s_less f fd) : FnOk P w K mg base (L2.CX P w) (k + 1) f fd ["one", "other"] (spD K (c_less CB)) := by
  refine fn_pureX F sc_less (fun ds P X ⟨d, e, _⟩ => by obtain ⟨rfl, _⟩ := ‹_›; rfl) fun cdv A outer s H S hS E EX el hr => ?_
  have nd := sc_less.nd
  refine ⟨_, (db_cons (ds_ifc (dt_not (dt_val (de_fn F_is_fraction hr (da_cons (de_var 0) da_nil) (by omega)))) (db_one (ds_raise X_BadValue hr de_str (by omega))) db_nil) (db_cons (ds_ifc (dt_not (dt_val (de_fn F_is_fraction hr (da_cons (de_var 1) da_nil) (by omega)))) (db_one (ds_raise X_BadValue hr de_str (by omega))) db_nil) (db_one (ds_ret (de_fn F_is_below hr (da_cons (de_var 0) (da_cons (de_var 1) da_nil)) (by omega)))))), ?_⟩
  rintro ds R ⟨d, d2, rfl, s1, s2, h1, h2, h3⟩
  refine ⟨(· = !fracB d), ?_, fun e => ?_, fun e => ?_⟩
  · ((try dsimp only); refine rd_here rfl ?_; (try dsimp only))
    exact con1_C.mpr ⟨trivial, rfl⟩
  · exact h1 (by simpa using e)
  have hd : fracB d = true := by simpa using e
  refine ⟨(· = !fracB d2), ?_, fun e => ?_, fun e => ?_⟩
  · ((try dsimp only); refine rd_here rfl ?_; (try dsimp only))
    exact con1_C.mpr ⟨trivial, rfl⟩
  · exact h2 hd (by simpa using e)
  have he : fracB d2 = true := by simpa using e
  ((try dsimp only); refine rd_here rfl ?_; (try dsimp only))
  ((try dsimp only); refine rd_here rfl ?_; (try dsimp only))
  exact conE_use (args := fun x : Dat × Dat => [x.1, x.2]) (_, _) ⟨⟨frac_rat hd, smR_frac s1 hd⟩, frac_rat he, smR_frac s2 he⟩ (h3 hd he)
end
end K01
namespace K01
open PySem PySem.Spec PyProof.Rows L2 DL
/-! ### fractions in order -/
theorem below_iff {a b c d : Int} : belowB (.tup [.int a, .int b]) (.tup [.int c, .int d]) = decide (a * d < c * b) := rfl
theorem below_irr {x : Dat} : belowB x x = false := by
  unfold belowB
  exact decide_eq_false (by omega)
theorem below_trans {x y z : Dat} (hx : fracB x = true) (hy : fracB y = true) (hz : fracB z = true) (h1 : belowB x y = true) (h2 : belowB y z = true) : belowB x z = true := by
  obtain ⟨a, b, rfl, hb, _⟩ := frac_inv hx
  obtain ⟨c, d, rfl, hd, _⟩ := frac_inv hy
  obtain ⟨e, f, rfl, hf, _⟩ := frac_inv hz
  rw [below_iff, decide_eq_true_eq] at h1 h2 ⊢
  have q1 : a * d * f < c * b * f := Int.mul_lt_mul_of_pos_right h1 hf
  have q2 : c * f * b < e * d * b := Int.mul_lt_mul_of_pos_right h2 hb
  have e1 : c * b * f = c * f * b := by rw [Int.mul_assoc, Int.mul_comm b f, ← Int.mul_assoc]
  have q3 : a * d * f < e * d * b := by omega
  have e2 : a * d * f = a * f * d := by rw [Int.mul_assoc, Int.mul_comm d f, ← Int.mul_assoc]
  have e3 : e * d * b = e * b * d := by rw [Int.mul_assoc, Int.mul_comm d b, ← Int.mul_assoc]
  rw [e2, e3] at q3
  exact Int.lt_of_mul_lt_mul_right q3 (by omega)
theorem below_asym {x y : Dat} (hx : fracB x = true) (hy : fracB y = true) (h1 : belowB x y = true) : belowB y x = false := by
  cases h2 : belowB y x with
  | false => rfl
  | true =>
    have := below_trans hx hy hx h1 h2
    rw [below_irr] at this
    cases this
theorem below_tri {x y : Dat} (hx : fracB x = true) (hy : fracB y = true) (h1 : belowB x y = false) (h2 : belowB y x = false) : x = y := by
  obtain ⟨a, b, rfl, hb, gb⟩ := frac_inv hx
  obtain ⟨c, d, rfl, hd, gd⟩ := frac_inv hy
  rw [below_iff, decide_eq_false_iff_not] at h1 h2
  have e : a * d = c * b := by omega
  have en : a.natAbs * d.natAbs = c.natAbs * b.natAbs := by rw [← Int.natAbs_mul, ← Int.natAbs_mul, e]
  have c1 : Nat.Coprime b.natAbs a.natAbs := by rw [Nat.Coprime, Nat.gcd_comm]; exact gb
  have c2 : Nat.Coprime d.natAbs c.natAbs := by rw [Nat.Coprime, Nat.gcd_comm]; exact gd
  have d1 : b.natAbs ∣ d.natAbs := c1.dvd_of_dvd_mul_left ⟨c.natAbs, by rw [en, Nat.mul_comm]⟩
  have d2 : d.natAbs ∣ b.natAbs := c2.dvd_of_dvd_mul_left ⟨a.natAbs, by rw [← en, Nat.mul_comm]⟩
  have ebd : b = d := by
    have := Nat.dvd_antisymm d1 d2
    omega
  subst ebd
  have : a = c := Int.eq_of_mul_eq_mul_right (by omega) e
  rw [this]
theorem eqv_frac {x y : Dat} (hx : ratB x = true) (hy : ratB y = true) : PyData.eqv (toP x) (toP y) = true ↔ x = y := by
  obtain ⟨a, b, rfl⟩ := rat_inv hx
  obtain ⟨c, d, rfl⟩ := rat_inv hy
  have e : PyData.eqv (toP (.tup [.int a, .int b])) (toP (.tup [.int c, .int d])) = (decide (a = c) && (decide (b = d) && true)) := by
    have ei : ∀ i j : Int, PyData.eqv (toP (.int i)) (toP (.int j)) = decide (i = j) := fun i j => by simp [toP, PyData.eqv]; rfl
    rw [← ei a c, ← ei b d]
    rfl
  rw [e]
  simp
theorem eqv_fracs : ∀ {xs ys : List Dat}, (∀ x ∈ xs, ratB x = true) → (∀ y ∈ ys, ratB y = true) → (PyData.eqvAll (toPs xs) (toPs ys) = true ↔ xs = ys)
  | [], [], _, _ => ⟨fun _ => rfl, fun _ => rfl⟩
  | [], y :: ys, _, _ => ⟨(fun h => by cases h), (fun h => by cases h)⟩
  | x :: xs, [], _, _ => ⟨(fun h => by cases h), (fun h => by cases h)⟩
  | x :: xs, y :: ys, hx, hy => by
    show (PyData.eqv (toP x) (toP y) && PyData.eqvAll (toPs xs) (toPs ys)) = true ↔ _
    rw [Bool.and_eq_true, eqv_frac (hx x List.mem_cons_self) (hy y List.mem_cons_self), eqv_fracs (fun z hz => hx z (List.mem_cons_of_mem _ hz)) fun z hz => hy z (List.mem_cons_of_mem _ hz)]
    exact ⟨fun ⟨a, b⟩ => by rw [a, b], fun h => by cases h; exact ⟨rfl, rfl⟩⟩
theorem rat_lay {x : Dat} (h : ratB x = true) : Lay x ∧ (toP x).depth ≤ 3 := by
  obtain ⟨a, b, rfl⟩ := rat_inv h
  refine ⟨lay_tup.mpr fun d hd => ?_, ?_⟩
  · simp only [List.mem_cons, List.not_mem_nil, or_false] at hd
    rcases hd with rfl | rfl <;> rfl
  · simp [toP, toPs, PyData.depth, PyData.depthAll]
theorem rats_shapedT {xs : List Dat} (h : ∀ x ∈ xs, ratB x = true) : SeqAt.shaped (toP (.tup xs)) = true := by
  refine shaped_of (lay_tup.mpr fun d hd => (rat_lay (h d hd)).1) ?_
  have q := depths_le (m := 3) fun x hx => (rat_lay (h x hx)).2
  rw [toP, PyData.depth]
  omega
theorem rats_shapedL {xs : List Dat} (h : ∀ x ∈ xs, ratB x = true) : SeqAt.shaped (toP (.lst xs)) = true := by
  refine shaped_of (lay_lst.mpr fun d hd => (rat_lay (h d hd)).1) ?_
  have q := depths_le (m := 3) fun x hx => (rat_lay (h x hx)).2
  rw [toP, PyData.depth]
  omega
theorem rat_shaped {x : Dat} (h : ratB x = true) : SeqAt.shaped (toP x) = true := shaped_of (rat_lay h).1 (by have := (rat_lay h).2; omega)
/-! ### put in order, each once -/
def hasR (found : List Dat) (p : Dat) : Bool := (toPs found).any fun z => PyData.eqv z (toP p)
def risIns (found : List Dat) (p : Dat) : List Dat := if hasR found p then found else found.take (found.filter (belowB · p)).length ++ [p] ++ found.drop (found.filter (belowB · p)).length
def risF (ds : List Dat) : List Dat := ds.foldl risIns []
def Fr (ds : List Dat) : Prop := ∀ d ∈ ds, fracB d = true
def Pw (ds : List Dat) : Prop := ds.Pairwise fun x y => belowB x y = true
theorem fr_rat {ds : List Dat} (h : Fr ds) : ∀ d ∈ ds, ratB d = true := fun d hd => frac_rat (h d hd)
theorem hasR_iff : ∀ {ds : List Dat} {p : Dat}, Fr ds → fracB p = true → (hasR ds p = true ↔ p ∈ ds)
  | [], _, _, _ => ⟨(fun h => by cases h), fun h => (List.not_mem_nil h).elim⟩
  | d :: ds, p, h, hp => by
    show (PyData.eqv (toP d) (toP p) || hasR ds p) = true ↔ _
    rw [Bool.or_eq_true, eqv_frac (frac_rat (h d List.mem_cons_self)) (frac_rat hp), hasR_iff (fun z hz => h z (List.mem_cons_of_mem _ hz)) hp, List.mem_cons]
    exact ⟨fun h => h.imp (fun e => e.symm) id, fun h => h.imp (fun e => e.symm) id⟩
def insR (p : Dat) : List Dat → List Dat
  | [] => [p]
  | q :: l => if belowB q p then q :: insR p l else p :: q :: l
theorem ins_eq : ∀ {ds : List Dat} {p : Dat}, Fr ds → Pw ds → fracB p = true → ds.take (ds.filter (belowB · p)).length ++ [p] ++ ds.drop (ds.filter (belowB · p)).length = insR p ds
  | [], _, _, _, _ => rfl
  | q :: l, p, hf, hw, hp => by
    have hl : Fr l := fun z hz => hf z (List.mem_cons_of_mem _ hz)
    have hq := hf q List.mem_cons_self
    obtain ⟨w1, w2⟩ := List.pairwise_cons.mp hw
    rw [insR]
    cases hb : belowB q p with
    | true =>
      rw [List.filter_cons_of_pos (by rw [hb]), if_pos rfl, ← ins_eq hl w2 hp]
      rfl
    | false =>
      rw [List.filter_cons_of_neg (by rw [hb]; decide), if_neg (by decide)]
      have e : l.filter (belowB · p) = [] := List.filter_eq_nil_iff.mpr fun z hz c => by
        have := below_trans hq (hl z hz) hp (w1 z hz) c
        rw [hb] at this
        cases this
      rw [e]
      rfl
theorem insR_mem {p : Dat} : ∀ {ds : List Dat} {x : Dat}, x ∈ insR p ds → x = p ∨ x ∈ ds
  | [], x, h => .inl (List.mem_singleton.mp h)
  | q :: l, x, h => by
    rw [insR] at h
    split at h
    · rcases List.mem_cons.mp h with e | e
      · exact .inr (by rw [e]; exact List.mem_cons_self)
      · exact (insR_mem e).imp id (List.mem_cons_of_mem _)
    · exact List.mem_cons.mp h
theorem insR_pw : ∀ {ds : List Dat} {p : Dat}, Fr ds → Pw ds → fracB p = true → ¬ p ∈ ds → Pw (insR p ds)
  | [], p, _, _, _, _ => List.pairwise_singleton _ _
  | q :: l, p, hf, hw, hp, hn => by
    have hl : Fr l := fun z hz => hf z (List.mem_cons_of_mem _ hz)
    have hq := hf q List.mem_cons_self
    obtain ⟨w1, w2⟩ := List.pairwise_cons.mp hw
    rw [insR]
    cases hb : belowB q p with
    | true =>
      rw [if_pos rfl]
      refine List.pairwise_cons.mpr ⟨fun z hz => ?_, insR_pw hl w2 hp fun c => hn (List.mem_cons_of_mem _ c)⟩
      rcases insR_mem hz with rfl | e
      · exact hb
      · exact w1 z e
    | false =>
      rw [if_neg (by decide)]
      have hpq : belowB p q = true := by
        cases c : belowB p q with
        | true => rfl
        | false => exact (hn (by rw [below_tri hp hq c hb]; exact List.mem_cons_self)).elim
      refine List.pairwise_cons.mpr ⟨fun z hz => ?_, hw⟩
      rcases List.mem_cons.mp hz with rfl | e
      · exact hpq
      · exact below_trans hp hq (hl z e) hpq (w1 z e)
theorem risIns_ok {ds : List Dat} {p : Dat} (hf : Fr ds) (hw : Pw ds) (hp : fracB p = true) : Fr (risIns ds p) ∧ Pw (risIns ds p) ∧ ∀ x ∈ risIns ds p, x = p ∨ x ∈ ds := by
  unfold risIns
  cases c : hasR ds p with
  | true => rw [if_pos rfl]; exact ⟨hf, hw, fun x hx => .inr hx⟩
  | false =>
    rw [if_neg (by decide), ins_eq hf hw hp]
    have hn : ¬ p ∈ ds := fun e => by rw [(hasR_iff hf hp).mpr e] at c; cases c
    refine ⟨fun x hx => ?_, insR_pw hf hw hp hn, fun x => insR_mem⟩
    rcases insR_mem hx with rfl | e
    · exact hp
    · exact hf x e
theorem fold_ok : ∀ {ds acc : List Dat}, Fr acc → Pw acc → Fr ds → Fr (ds.foldl risIns acc) ∧ Pw (ds.foldl risIns acc) ∧ ∀ x ∈ ds.foldl risIns acc, x ∈ ds ∨ x ∈ acc
  | [], acc, h1, h2, _ => ⟨h1, h2, fun x hx => .inr hx⟩
  | d :: ds, acc, h1, h2, h3 => by
    obtain ⟨a, b, c⟩ := risIns_ok h1 h2 (h3 d List.mem_cons_self)
    obtain ⟨a2, b2, c2⟩ := fold_ok a b fun x hx => h3 x (List.mem_cons_of_mem _ hx)
    refine ⟨a2, b2, fun x hx => ?_⟩
    rcases c2 x hx with e | e
    · exact .inl (List.mem_cons_of_mem _ e)
    · rcases c x e with rfl | e
      · exact .inl List.mem_cons_self
      · exact .inr e
theorem risF_ok {ds : List Dat} (h : Fr ds) : Fr (risF ds) ∧ Pw (risF ds) ∧ ∀ x ∈ risF ds, x ∈ ds := by
  obtain ⟨a, b, c⟩ := fold_ok (ds := ds) (acc := []) (fun _ h => (List.not_mem_nil h).elim) List.Pairwise.nil h
  exact ⟨a, b, fun x hx => (c x hx).elim id fun e => (List.not_mem_nil e).elim⟩
theorem fold_pw : ∀ {ds acc : List Dat}, Fr (acc ++ ds) → Pw (acc ++ ds) → ds.foldl risIns acc = acc ++ ds
  | [], acc, _, _ => by simp
  | d :: ds, acc, h1, h2 => by
    have hd : fracB d = true := h1 d (by simp)
    have ha : Fr acc := fun x hx => h1 x (List.mem_append_left _ hx)
    have hb : ∀ x ∈ acc, belowB x d = true := fun x hx => (List.pairwise_append.mp h2).2.2 x hx d List.mem_cons_self
    have hn : hasR acc d = false := by
      cases c : hasR acc d with
      | false => rfl
      | true =>
        have := hb d ((hasR_iff ha hd).mp c)
        rw [below_irr] at this
        cases this
    have e : risIns acc d = acc ++ [d] := by
      unfold risIns
      rw [hn, if_neg (by decide), List.filter_eq_self.mpr fun x hx => hb x hx, List.take_length, List.drop_length, List.append_nil]
    rw [List.foldl_cons, e, fold_pw (by simpa using h1) (by simpa using h2)]
    simp
theorem risF_pw {ds : List Dat} (h1 : Fr ds) (h2 : Pw ds) : risF ds = ds := fold_pw (acc := []) h1 h2
theorem risIns_len {ds : List Dat} {p : Dat} : (risIns ds p).length ≤ ds.length + 1 := by
  unfold risIns
  split
  · omega
  · simp only [List.length_append, List.length_take, List.length_drop, List.length_singleton]
    omega
theorem fold_len : ∀ {ds acc : List Dat}, (ds.foldl risIns acc).length ≤ acc.length + ds.length
  | [], acc => by simp
  | d :: ds, acc => by
    have a := risIns_len (ds := acc) (p := d)
    have b := fold_len (ds := ds) (acc := risIns acc d)
    rw [List.foldl_cons, List.length_cons]
    omega
theorem risF_len {ds : List Dat} : (risF ds).length ≤ ds.length := by
  have := fold_len (ds := ds) (acc := [])
  simpa [risF] using this
/-! ### the program's way -/
theorem risL_some : ∀ {ds : List Dat} {x : Dat}, fracB x = true → (risL (some x) ds = true ↔ Fr ds ∧ Pw (x :: ds))
  | [], x, _ => ⟨fun _ => ⟨fun _ h => (List.not_mem_nil h).elim, List.pairwise_singleton _ _⟩, fun _ => rfl⟩
  | d :: ds, x, hx => by
    rw [risL_cons, Bool.and_eq_true, Bool.and_eq_true]
    constructor
    · rintro ⟨⟨hd, hb⟩, hr⟩
      obtain ⟨hf, hw⟩ := (risL_some hd).mp hr
      have hfd : Fr (d :: ds) := fun z hz => by
        rcases List.mem_cons.mp hz with rfl | e
        · exact hd
        · exact hf z e
      refine ⟨hfd, List.pairwise_cons.mpr ⟨fun z hz => ?_, hw⟩⟩
      rcases List.mem_cons.mp hz with rfl | e
      · exact hb
      · exact below_trans hx hd (hf z e) hb ((List.pairwise_cons.mp hw).1 z e)
    · rintro ⟨hf, hw⟩
      obtain ⟨w1, w2⟩ := List.pairwise_cons.mp hw
      have hd := hf d List.mem_cons_self
      exact ⟨⟨hd, w1 d List.mem_cons_self⟩, (risL_some hd).mpr ⟨fun z hz => hf z (List.mem_cons_of_mem _ hz), w2⟩⟩
theorem risL_none {ds : List Dat} : risL none ds = true ↔ Fr ds ∧ Pw ds := by
  cases ds with
  | nil => exact ⟨fun _ => ⟨fun _ h => (List.not_mem_nil h).elim, List.Pairwise.nil⟩, fun _ => rfl⟩
  | cons d ds =>
    rw [risL_cons, Bool.and_eq_true, Bool.and_eq_true]
    constructor
    · rintro ⟨⟨hd, _⟩, hr⟩
      obtain ⟨hf, hw⟩ := (risL_some hd).mp hr
      exact ⟨fun z hz => by
        rcases List.mem_cons.mp hz with rfl | e
        · exact hd
        · exact hf z e, hw⟩
    · rintro ⟨hf, hw⟩
      have hd := hf d List.mem_cons_self
      exact ⟨⟨hd, rfl⟩, (risL_some hd).mpr ⟨fun z hz => hf z (List.mem_cons_of_mem _ hz), hw⟩⟩
/-- of fractions: in order already -/
theorem ris_iff {ds : List Dat} (h : Fr ds) : risL none ds = PyData.eqv (toP (.tup (risF ds))) (toP (.tup ds)) := by
  have e := eqv_fracs (xs := risF ds) (ys := ds) (fr_rat (risF_ok h).1) (fr_rat h)
  have key : (risL none ds = true) ↔ (PyData.eqvAll (toPs (risF ds)) (toPs ds) = true) := by
    rw [risL_none, e]
    exact ⟨fun q => risF_pw q.1 q.2, fun q => ⟨h, by rw [← q]; exact (risF_ok h).2.1⟩⟩
  show _ = PyData.eqvAll (toPs (risF ds)) (toPs ds)
  cases a : risL none ds <;> cases b : PyData.eqvAll (toPs (risF ds)) (toPs ds) <;> simp_all
theorem ris_not {ds : List Dat} (h : ¬ Fr ds) : risL none ds = false := by
  cases c : risL none ds with
  | false => rfl
  | true => exact (h (risL_none.mp c).1).elim
/-! ### lowest terms -/
def lowF (h l : Int) : Dat := .tup [.int (h / (Nat.gcd h.natAbs l.natAbs : Nat)), .int (l / (Nat.gcd h.natAbs l.natAbs : Nat))]
theorem low_frac {h l : Int} (hl : 0 < l) : fracB (lowF h l) = true := by
  have g0 : 0 < Nat.gcd h.natAbs l.natAbs := Nat.gcd_pos_of_pos_right _ (by omega)
  obtain ⟨a, ea⟩ := Int.natAbs_dvd_natAbs.mp (show ((Nat.gcd h.natAbs l.natAbs : Nat) : Int).natAbs ∣ h.natAbs from Nat.gcd_dvd_left _ _)
  obtain ⟨b, eb⟩ := Int.natAbs_dvd_natAbs.mp (show ((Nat.gcd h.natAbs l.natAbs : Nat) : Int).natAbs ∣ l.natAbs from Nat.gcd_dvd_right _ _)
  generalize hg : Nat.gcd h.natAbs l.natAbs = g at *
  have e1 : h / (g : Int) = a := by rw [ea]; exact Int.mul_ediv_cancel_left _ (by omega)
  have e2 : l / (g : Int) = b := by rw [eb]; exact Int.mul_ediv_cancel_left _ (by omega)
  show fracB (.tup [.int (h / (Nat.gcd h.natAbs l.natAbs : Nat)), .int (l / (Nat.gcd h.natAbs l.natAbs : Nat))]) = true
  rw [hg, e1, e2]
  show (decide (0 < b) && decide (Nat.gcd a.natAbs b.natAbs = 1)) = true
  have hb : 0 < b := by
    by_cases c : 0 < b
    · exact c
    · have := Int.mul_nonpos_of_nonneg_of_nonpos (a := (g : Int)) (b := b) (by omega) (by omega)
      omega
  have hc : Nat.gcd a.natAbs b.natAbs = 1 := by
    have q : Nat.gcd h.natAbs l.natAbs = g * Nat.gcd a.natAbs b.natAbs := by
      conv => lhs; rw [ea, eb, Int.natAbs_mul, Int.natAbs_mul, Int.natAbs_natCast]
      exact Nat.gcd_mul_left _ _ _
    rw [hg] at q
    exact Nat.eq_of_mul_eq_mul_left g0 (by omega)
  rw [decide_eq_true hb, decide_eq_true hc]
  rfl
theorem low_self {h l : Int} (hl : 0 < l) : fracB (.tup [.int h, .int l]) = PyData.eqv (toP (lowF h l)) (toP (.tup [.int h, .int l])) := by
  have e := eqv_frac (x := lowF h l) (y := .tup [.int h, .int l]) rfl rfl
  have key : fracB (.tup [.int h, .int l]) = true ↔ PyData.eqv (toP (lowF h l)) (toP (.tup [.int h, .int l])) = true := by
    rw [e]
    constructor
    · intro q
      obtain ⟨a, b, e1, _, g⟩ := frac_inv q
      cases e1
      unfold lowF
      rw [g]
      simp
    · intro q
      rw [← q]
      exact low_frac hl
  cases a : fracB (.tup [.int h, .int l]) <;> cases b : PyData.eqv (toP (lowF h l)) (toP (.tup [.int h, .int l])) <;> simp_all
end K01
namespace K01
open PySem PySem.Spec PyProof.Rows L2 DL
def c_lowest : Con := conE (α := Int × Int) (fun x => [.int x.1, .int x.2]) (fun x => 0 < x.2 ∧ sml x.2) fun x => lowF x.1 x.2
def numB (d : Dat) (least : Int) : Bool := match d with
  | .int i => decide (least ≤ i)
  | _ => false
def c_is_number : Con := conE (α := Dat × Int) (fun x => [x.1, .int x.2]) (fun _ => True) fun x => .bl (numB x.1 x.2)
def c_is_lowest : Con := con1 SmV fun d => .bl (fracB d)
def nodP (g : Dat → Nat) : List Dat → Nat
  | [x, y] => if 600 < g x then 999 else min 999 (1 + g x + g y)
  | _ => 999
def tipP : List Dat → Nat
  | [x] => if fracB x = true then 1 else 999
  | _ => 999
def partT (g : Dat → Nat) (d : Dat) : Nat := match d with
  | .tup (.str w :: r) => if w = "tip" then tipP r else if w = "node" then nodP g r else 999
  | _ => 999
def partsF : Nat → Dat → Nat
  | 0, _ => 999
  | n + 1, d => partT (partsF n) d
theorem parts_pos : ∀ {n : Nat} {d : Dat}, 1 ≤ partsF n d
  | 0, _ => show 1 ≤ 999 by decide
  | n + 1, d => by
    show 1 ≤ partT (partsF n) d
    unfold partT
    split
    · split
      · unfold tipP
        split
        · split <;> omega
        · omega
      · split
        · unfold nodP
          split
          · split <;> omega
          · omega
        · omega
    · omega
theorem tsz_parts : ∀ {n : Nat} {d : Dat} {room : Int}, room ≤ 600 → tsz n d room = if (partsF n d : Int) ≤ room then some (partsF n d) else none
  | 0, d, room, h => by rw [if_neg (by show ¬ ((999 : Nat) : Int) ≤ room; omega)]; rfl
  | n + 1, d, room, h => by
    by_cases h1 : room < 1
    · rw [tsz_succ, if_pos h1, if_neg (by have := parts_pos (n := n + 1) (d := d); omega)]
    rw [tsz_succ, if_neg h1]
    show nodeT (tsz n) d room = if (partT (partsF n) d : Int) ≤ room then some (partT (partsF n) d) else none
    have no : ¬ ((999 : Nat) : Int) ≤ room := by omega
    cases d with
    | tup xs =>
      cases xs with
      | nil => exact (if_neg no).symm
      | cons x0 r =>
        cases x0 with
        | str w =>
          show (if w = "tip" then tipN r else if w = "node" then nodN (tsz n) room r else none) = if (((if w = "tip" then tipP r else if w = "node" then nodP (partsF n) r else 999 : Nat) : Nat) : Int) ≤ room then some (if w = "tip" then tipP r else if w = "node" then nodP (partsF n) r else 999) else none
          by_cases hw : w = "tip"
          · rw [if_pos hw, if_pos hw]
            match r with
            | [] => exact (if_neg no).symm
            | [x] =>
              show (if fracB x = true then some 1 else none) = if (((if fracB x = true then 1 else 999 : Nat) : Nat) : Int) ≤ room then some (if fracB x = true then 1 else 999) else none
              by_cases hx : fracB x = true
              · rw [if_pos hx, if_pos hx, if_pos (show ((1 : Nat) : Int) ≤ room by omega)]
              · rw [if_neg hx, if_neg hx, if_neg no]
            | x :: y :: r2 => exact (if_neg no).symm
          · rw [if_neg hw, if_neg hw]
            by_cases hn : w = "node"
            · rw [if_pos hn, if_pos hn]
              match r with
              | [] => exact (if_neg no).symm
              | [x] => exact (if_neg no).symm
              | [x, y] =>
                show foldT (tsz n) room 1 [x, y] = if (((if 600 < partsF n x then 999 else min 999 (1 + partsF n x + partsF n y) : Nat) : Nat) : Int) ≤ room then some (if 600 < partsF n x then 999 else min 999 (1 + partsF n x + partsF n y)) else none
                rw [foldT, tsz_parts (by omega)]
                have px := parts_pos (n := n) (d := x)
                have py := parts_pos (n := n) (d := y)
                by_cases c1 : (partsF n x : Int) ≤ room - (1 : Nat)
                · rw [if_pos c1]
                  dsimp only
                  rw [foldT, tsz_parts (by omega), if_neg (show ¬ 600 < partsF n x by omega)]
                  by_cases c2 : (partsF n y : Int) ≤ room - ((1 + partsF n x : Nat) : Int)
                  · rw [if_pos c2]
                    dsimp only
                    rw [foldT, if_pos (by omega)]
                    exact congrArg some (by omega)
                  · rw [if_neg c2, if_neg (by omega)]
                · rw [if_neg c1, if_neg (by split <;> omega)]
              | x :: y :: z :: r2 => exact (if_neg no).symm
            · rw [if_neg hn, if_neg hn]
              exact (if_neg no).symm
        | _ => exact (if_neg no).symm
    | _ => exact (if_neg no).symm
theorem tree_parts {d : Dat} : (tsz 40 d 600).isSome = decide (((partsF 40 d : Nat) : Int) ≤ 600) := by
  rw [tsz_parts (by omega)]
  by_cases h : ((partsF 40 d : Nat) : Int) ≤ 600
  · rw [if_pos h, decide_eq_true h]; rfl
  · rw [if_neg h, decide_eq_false h]; rfl
def c_parts10 (N : Nat) : Con := conE (α := Dat × Nat) (fun x => [x.1, .int (x.2 : Nat)]) (fun x => SmV x.1 ∧ x.2 < N) fun x => .int (partsF x.2 x.1 : Nat)
def c_risen : Con := conE (α := Bool × List Dat) (fun x => [if x.1 then .tup x.2 else .lst x.2]) (fun x => (Fr x.2 ∧ ∀ d ∈ x.2, SmV d) ∧ x.2.length ≤ 10000) fun x => .tup (risF x.2)
section
variable {P : Program} {w : World} {K : PySem.W.Frag} {mg : Str → Option Value} {base : Heap} {f f2 : Addr} {fd fd2 : FuncData} {k : Nat}
abbrev s__law_lowest : Stmt := topS 29
theorem sc__law_lowest : FnScope ["high", "low", "a", "b"] ["high", "low"] (defScope s__law_lowest) := ⟨rfl, rfl, rfl, by decide +kernel, rfl, by decide +kernel, by decide +kernel⟩
-- calls [] consts []
theorem ok_law_lowest (F : Fun K "_law_lowest" "_law_lowest" s__law_lowest f fd) : FnOk P w K mg base CX0 (k + 1) f fd ["high", "low"] (spD K c_lowest) := by
  refine fn_pure F sc__law_lowest (fun ds P X ⟨d, e, _⟩ => by rw [e]; rfl) fun cdv A outer s H S hS hr => ?_
  have nd := sc__law_lowest.nd
  refine ⟨_, (db_cons (ds_par 2 3 (da_cons (de_var 0) (da_cons (de_var 1) da_nil)) nd) (db_cons (ds_while PassesOwn.never (dt_ne hr.units (de_var 3) de_int) (db_one (ds_par 2 3 (da_cons (de_var 3) (da_cons (de_mod (de_var 2) (de_var 3)) da_nil)) nd))) (db_one (ds_ret (de_tup (da_cons (de_fdivW (de_var 0) (de_var 2)) (da_cons (de_fdivW (de_var 1) (de_var 2)) da_nil))))))), ?_⟩
  rintro ds R X ⟨⟨h, l⟩, rfl, ⟨hl, hs⟩, q⟩
  replace hl : 0 < l := hl
  replace hs : sml l := hs
  replace q : R (lowF h l) := q
  try dsimp only
  ((try dsimp only); refine rd_here rfl ?_; (try dsimp only))
  ((try dsimp only); refine rd_here rfl ?_; (try dsimp only))
  refine ⟨fun m ρ => ∃ a b : Int, ρ = [.d (.int h), .d (.int l), .d (.int a), .d (.int b)] ∧ 0 ≤ b ∧ m = b.natAbs ∧ (b = 0 → 0 < a) ∧ Int.gcd a b = Int.gcd h l, ⟨l.natAbs, h, l, rfl, by omega, rfl, by omega, rfl⟩, ?_⟩
  rintro m ρ ⟨a, b, rfl, hb, rfl, ha, hg⟩
  refine ⟨fun c => c = !decide (b = 0), ?_, fun e => ?_, fun e => ?_⟩
  · ((try dsimp only); refine rd_here rfl ?_; (try dsimp only))
    rw [neD_int, isB_bl]
  · have hb0 : b = 0 := by simpa using e
    subst hb0
    have hga : a = (Nat.gcd h.natAbs l.natAbs : Nat) := by
      have q1 : Int.gcd a 0 = a.natAbs := by simp
      have q2 := ha rfl
      have q3 : Nat.gcd h.natAbs l.natAbs = Int.gcd h l := rfl
      omega
    have sa : sml a := by
      have q4 : Nat.gcd h.natAbs l.natAbs ≤ l.natAbs := Nat.le_of_dvd (by omega) (Nat.gcd_dvd_right _ _)
      unfold sml at hs ⊢
      omega
    ((try dsimp only); refine rd_here rfl ?_; (try dsimp only))
    ((try dsimp only); refine rd_here rfl ?_; (try dsimp only))
    refine ⟨sml_div (ha rfl) sa, ?_⟩
    ((try dsimp only); refine rd_here rfl ?_; (try dsimp only))
    ((try dsimp only); refine rd_here rfl ?_; (try dsimp only))
    refine ⟨sml_div (ha rfl) sa, show 2 ≤ sizeLine by decide, ?_⟩
    rw [lowF, ← hga] at q
    exact q
  · have hb0 : 0 < b := by
      have : ¬ b = 0 := by simpa using e
      omega
    ((try dsimp only); refine rd_here rfl ?_; (try dsimp only))
    ((try dsimp only); refine rd_here rfl ?_; (try dsimp only))
    ((try dsimp only); refine rd_here rfl ?_; (try dsimp only))
    refine ⟨hb0, ?_⟩
    have m0 := Int.emod_nonneg a (show b ≠ 0 by omega)
    have m1 := Int.emod_lt_of_pos a hb0
    refine ⟨(a % b).natAbs, by omega, b, a % b, rfl, m0, rfl, fun _ => hb0, ?_⟩
    rw [← hg, Int.gcd_comm a b, ← Int.gcd_add_mul_left_right b (a % b) (a / b), Int.emod_add_mul_ediv]
abbrev s__law_below : Stmt := topS 30
theorem sc__law_below : FnScope ["p", "q"] ["p", "q"] (defScope s__law_below) := ⟨rfl, rfl, rfl, by decide +kernel, rfl, by decide +kernel, by decide +kernel⟩
-- calls [] consts []
theorem ok_law_below (F : Fun K "_law_below" "_law_below" s__law_below f fd) : FnOk P w K mg base CX0 (k + 1) f fd ["p", "q"] (spD K c_is_below) := by
  refine fn_pure F sc__law_below (fun ds P X ⟨d, e, _⟩ => by rw [e]; rfl) fun cdv A outer s H S hS hr => ?_
  have nd := sc__law_below.nd
  refine ⟨_, (db_one (ds_ret (de_lt (de_mulW (de_ix (de_var 0) de_int) (de_ix (de_var 1) de_int)) (de_mulW (de_ix (de_var 1) de_int) (de_ix (de_var 0) de_int))))), ?_⟩
  rintro ds R X ⟨⟨p, q⟩, rfl, ⟨⟨hp, hp2⟩, hq, hq2⟩, h⟩
  obtain ⟨a, b, rfl⟩ := rat_inv hp
  obtain ⟨c, d, rfl⟩ := rat_inv hq
  exact ⟨sml_mul hp2.1 hq2.2, sml_mul hq2.1 hp2.2, h⟩
abbrev s__law_is_number : Stmt := topS 33
theorem sc__law_is_number : FnScope ["it", "least"] ["it", "least"] (defScope s__law_is_number) := ⟨rfl, rfl, rfl, by decide +kernel, rfl, by decide +kernel, by decide +kernel⟩
-- calls [] consts []
theorem ok_law_is_number (B : Bt mg) (F : Fun K "_law_is_number" "_law_is_number" s__law_is_number f fd) : FnOk P w K mg base CX0 (k + 1) f fd ["it", "least"] (spD K c_is_number) := by
  refine fn_pure F sc__law_is_number (fun ds P X ⟨d, e, _⟩ => by rw [e]; rfl) fun cdv A outer s H S hS hr => ?_
  have nd := sc__law_is_number.nd
  refine ⟨_, (db_one (ds_ret (de_and (de_isi (TT := "int") (he := (de_var 0)) (hm := B.isinstance) (hmT := B.int) (hv := by decide +kernel) (hn := by decide) (hd := by decide)) (de_and (de_not (de_isi (TT := "bool") (he := (de_var 0)) (hm := B.isinstance) (hmT := B.bool) (hv := by decide +kernel) (hn := by decide) (hd := by decide))) (de_one (de_ge (de_var 0) (de_var 1))))))), ?_⟩
  rintro ds R X ⟨⟨d, l⟩, rfl, _, h⟩
  replace h : R (.bl (numB d l)) := h
  try dsimp only
  ((try dsimp only); refine rd_here rfl ?_; (try dsimp only))
  cases d with
  | int i =>
    rw [show isiB "int" (.int i) = true from rfl, isB_bl, if_pos rfl]
    ((try dsimp only); refine rd_here rfl ?_; (try dsimp only))
    rw [show isiB "bool" (.int i) = false from rfl, isB_bl]
    rw [isB_bl, if_pos (by decide)]
    ((try dsimp only); refine rd_here rfl ?_; (try dsimp only))
    ((try dsimp only); refine rd_here rfl ?_; (try dsimp only))
    rw [int0_int]
    exact h
  | bl b =>
    rw [show isiB "int" (.bl b) = true from rfl, isB_bl, if_pos rfl]
    ((try dsimp only); refine rd_here rfl ?_; (try dsimp only))
    rw [show isiB "bool" (.bl b) = true from rfl, isB_bl]
    rw [isB_bl, if_neg (by decide)]
    exact h
  | _ => exact h
abbrev s__law_is_lowest : Stmt := topS 34
theorem sc__law_is_lowest : FnScope ["it"] ["it"] (defScope s__law_is_lowest) := ⟨rfl, rfl, rfl, by decide +kernel, rfl, by decide +kernel, by decide +kernel⟩
-- calls ['_law_is_number', '_law_lowest'] consts []
theorem ok_law_is_lowest (B : Bt mg) (F__law_is_number : Callee P w K mg base "_law_is_number" k ["it", "least"] c_is_number) (F__law_lowest : Callee P w K mg base "_law_lowest" k ["high", "low"] c_lowest) (F : Fun K "_law_is_lowest" "_law_is_lowest" s__law_is_lowest f fd) : FnOk P w K mg base CX0 (k + 1) f fd ["it"] (spD K c_is_lowest) := by
  refine fn_pure F sc__law_is_lowest (fun ds P X ⟨d, e, _⟩ => by rw [e]; rfl) fun cdv A outer s H S hS hr => ?_
  have nd := sc__law_is_lowest.nd
  refine ⟨_, (db_cons (ds_ifc (dt_w (dw_or (dt_not (dt_val (de_isi (TT := "tuple") (he := (de_var 0)) (hm := B.isinstance) (hmT := B.tuple) (hv := by decide +kernel) (hn := by decide) (hd := by decide)))) (dw_or (dt_ne hr.units (de_len B.len (da_cons (de_var 0) da_nil)) de_int) (dw_or1 (dt_not (dt_val (de_fn F__law_is_number hr (da_cons (de_ix (de_var 0) de_int) (da_cons de_int da_nil)) (by omega)))))))) (db_one (ds_ret de_bl)) db_nil) (db_cons (ds_ifc (dt_w (dw_or (dt_not (dt_val (de_isi (TT := "int") (he := (de_ix (de_var 0) de_int)) (hm := B.isinstance) (hmT := B.int) (hv := by decide +kernel) (hn := by decide) (hd := by decide)))) (dw_or1 (dt_val (de_isi (TT := "bool") (he := (de_ix (de_var 0) de_int)) (hm := B.isinstance) (hmT := B.bool) (hv := by decide +kernel) (hn := by decide) (hd := by decide)))))) (db_one (ds_ret de_bl)) db_nil) (db_one (ds_ret (de_eq hr.units (de_fn F__law_lowest hr (da_cons (de_ix (de_var 0) de_int) (da_cons (de_ix (de_var 0) de_int) da_nil)) (by omega)) (de_var 0)))))), ?_⟩
  rintro ds R X ⟨d, rfl, hsm, h⟩
  replace h : R (.bl (fracB d)) := h
  refine ⟨fun b => (b = false → ∃ x j, d = .tup [x, .int j] ∧ 0 < j) ∧ (b = true → fracB d = false), ?_, fun e => ?_, fun e => ?_⟩
  · ((try dsimp only); refine rd_here rfl ?_; (try dsimp only))
    cases d with
    | tup xs =>
      rw [show isiB "tuple" (.tup xs) = true from rfl, isB_bl]
      try dsimp only
      rw [if_neg (by decide)]
      ((try dsimp only); refine rd_here rfl ?_; (try dsimp only))
      rw [lenD_tup, neD_int, isB_bl]
      match xs with
      | [] => exact ⟨(fun z => by cases z), fun _ => rfl⟩
      | [x] => exact ⟨(fun z => by cases z), fun _ => by cases x <;> rfl⟩
      | x :: y :: z :: r => 
        rw [if_pos (by simp; omega)]
        exact ⟨(fun z => by cases z), fun _ => by cases x <;> cases y <;> rfl⟩
      | [x, y] =>
        rw [if_neg (by simp)]
        ((try dsimp only); refine rd_here rfl ?_; (try dsimp only))
        rw [ixD_tup, at1, someD_some]
        refine conE_use (args := fun x : Dat × Int => [x.1, Dat.int x.2]) (y, 1) trivial ?_
        dsimp only
        rw [isB_bl]
        cases y with
        | int j =>
          rw [show numB (.int j) 1 = decide (1 ≤ j) from rfl]
          by_cases hj : 1 ≤ j
          · rw [decide_eq_true hj]
            exact ⟨fun _ => ⟨x, j, rfl, by omega⟩, (fun z => by cases z)⟩
          · rw [decide_eq_false hj]
            refine ⟨(fun z => by cases z), fun _ => ?_⟩
            cases x with
            | int i => show (decide (0 < j) && _) = false; rw [decide_eq_false (by omega)]; rfl
            | _ => rfl
        | _ => exact ⟨(fun z => by cases z), fun _ => by cases x <;> rfl⟩
    | _ => exact ⟨(fun z => by cases z), fun _ => rfl⟩
  · rw [e.2 rfl] at h
    exact h
  obtain ⟨x, j, rfl, hj⟩ := e.1 rfl
  have sx := smV_tup.mp hsm
  refine ⟨fun b => (b = false → ∃ i, x = .int i) ∧ (b = true → fracB (.tup [x, .int j]) = false), ?_, fun e => ?_, fun e => ?_⟩
  · ((try dsimp only); refine rd_here rfl ?_; (try dsimp only))
    rw [ixD_tup, at0, someD_some]
    cases x with
    | int i =>
      rw [show isiB "int" (.int i) = true from rfl, isB_bl]
      try dsimp only
      rw [if_neg (by decide)]
      ((try dsimp only); refine rd_here rfl ?_; (try dsimp only))
      rw [ixD_tup, at0, someD_some]
      exact ⟨fun _ => ⟨i, rfl⟩, (fun z => by cases z)⟩
    | bl b =>
      rw [show isiB "int" (.bl b) = true from rfl, isB_bl]
      try dsimp only
      rw [if_neg (by decide)]
      ((try dsimp only); refine rd_here rfl ?_; (try dsimp only))
      rw [ixD_tup, at0, someD_some]
      exact ⟨(fun z => by cases z), fun _ => rfl⟩
    | _ => exact ⟨(fun z => by cases z), fun _ => rfl⟩
  · rw [e.2 rfl] at h
    exact h
  obtain ⟨i, rfl⟩ := e.1 rfl
  ((try dsimp only); refine rd_here rfl ?_; (try dsimp only))
  rw [ixD_tup, at0, someD_some]
  ((try dsimp only); refine rd_here rfl ?_; (try dsimp only))
  rw [ixD_tup, at1, someD_some]
  refine conE_use (args := fun x : Int × Int => [Dat.int x.1, Dat.int x.2]) (i, j) ⟨hj, sx (.int j) (by simp)⟩ ?_
  dsimp only
  ((try dsimp only); refine rd_here rfl ?_; (try dsimp only))
  refine ⟨rat_shaped rfl, rat_shaped rfl, ?_⟩
  rw [← low_self hj]
  exact h
end
end K01
namespace K01
open PySem PySem.Spec PyProof.Rows L2 DL
def shortT (d : Dat) : Prop := match d with
  | .tup ds => ds.length ≤ 10000
  | _ => True
def c_is_worth : Con := conE (α := Dat × Str) (fun x => [x.1, .str x.2]) (fun x => (SmV x.1 ∧ shortT x.1) ∧ x.2 ∈ sorts) fun x => .bl (valB x.1 x.2)
section
variable {P : Program} {w : World} {K : PySem.W.Frag} {mg : Str → Option Value} {base : Heap} {f f2 : Addr} {fd fd2 : FuncData} {k : Nat}
abbrev s__law_risen : Stmt := topS 31
theorem sc__law_risen : FnScope ["some", "found", "p", "spot", "q"] ["some"] (defScope s__law_risen) := ⟨rfl, rfl, rfl, by decide +kernel, rfl, by decide +kernel, by decide +kernel⟩
-- calls ['_law_below'] consts []
theorem ok_law_risen (B : Bt mg) (F__law_below : Callee P w K mg base "_law_below" k ["p", "q"] c_is_below) (F : Fun K "_law_risen" "_law_risen" s__law_risen f fd) : FnOk P w K mg base CX0 (k + 1) f fd ["some"] (spD K c_risen) := by
  refine fn_pure F sc__law_risen (fun ds P X ⟨d, e, _⟩ => by rw [e]; rfl) fun cdv A outer s H S hS hr => ?_
  have nd := sc__law_risen.nd
  refine ⟨_, (db_cons (ds_set 1 (de_lst da_nil) nd) (db_cons (ds_forI PassesOwn.never rfl (di_seq (de_var 0)) (dg_name 2 nd) (db_one (ds_ifc (dt_ninD (hu65 hr) (de_var 2) (de_var 1)) (db_cons (ds_set 3 (de_len B.len (da_cons (de_lc 4 (x := "q") rfl nd (di_seq (de_var 1)) (blkOk_by (own := [("q", 4)]) (N := ["some", "found", "p", "spot", "q"]) (sc := defScope s__law_risen) (by decide +kernel)) (fun _ _ _ _ _ => pg_name (i := 4) nd rfl (Or.inl rfl)) (fun _ _ _ _ _ => (dts_one (dt_val (de_fn F__law_below hr (da_cons (de_var 4) (da_cons (de_var 2) da_nil)) (by omega))))) (fun _ _ _ _ _ => (de_var 4))) da_nil)) nd) (db_one (ds_set 1 (de_add (de_add (de_sl (de_var 1) do_none (do_some (de_var 3))) (de_lst (da_cons (de_var 2) da_nil))) (de_sl (de_var 1) (do_some (de_var 3)) do_none)) nd))) db_nil))) (db_one (ds_ret (de_tuple B.tuple (da_cons (de_var 1) da_nil)))))), ?_⟩
  rintro ds R X ⟨⟨tp, xs⟩, rfl, ⟨⟨hf, hs⟩, hlen⟩, h⟩
  replace h : R (.tup (risF xs)) := h
  replace hf : Fr xs := hf
  replace hs : ∀ d ∈ xs, SmV d := hs
  replace hlen : xs.length ≤ 10000 := hlen
  have big := line_big
  try dsimp only
  refine ⟨show 0 ≤ sizeLine by decide, ?_⟩
  try dsimp only
  refine ⟨fun items ρ => ∃ (found : List Dat) (a b c : DL.Slot), ρ = [.d (if tp = true then .tup xs else .lst xs), .d (.lst found), a, b, c] ∧ risF xs = items.foldl risIns found ∧ Fr items ∧ (∀ d ∈ items, SmV d) ∧ Fr found ∧ Pw found ∧ (∀ d ∈ found, SmV d) ∧ found.length + items.length ≤ 10000, ?_, ?_, ?_⟩
  · ((try dsimp only); refine rd_here rfl ?_; (try dsimp only))
    cases tp
    · exact ⟨[], .un, .un, .un, rfl, rfl, hf, hs, (fun _ h => (List.not_mem_nil h).elim), List.Pairwise.nil, (fun _ h => (List.not_mem_nil h).elim), by simpa using hlen⟩
    · exact ⟨[], .un, .un, .un, rfl, rfl, hf, hs, (fun _ h => (List.not_mem_nil h).elim), List.Pairwise.nil, (fun _ h => (List.not_mem_nil h).elim), by simpa using hlen⟩
  · rintro ρ ⟨found, a, b, c, rfl, e, _⟩
    rw [show risF xs = found from e] at h
    ((try dsimp only); refine rd_here rfl ?_; (try dsimp only))
    exact h
  rintro p items ρ ⟨found, a, b, c, rfl, e, hfi, hsi, hff, hpw, hsf, hl⟩
  rw [List.foldl_cons] at e
  have hp : fracB p = true := hfi p List.mem_cons_self
  have sp := hsi p List.mem_cons_self
  rw [List.length_cons] at hl
  have hfi' : Fr items := fun z hz => hfi z (List.mem_cons_of_mem _ hz)
  have hsi' : ∀ z ∈ items, SmV z := fun z hz => hsi z (List.mem_cons_of_mem _ hz)
  refine ⟨fun b => b = !hasR found p, ?_, fun e2 => ?_, fun e2 => ?_⟩
  · ((try dsimp only); refine rd_here rfl ?_; (try dsimp only))
    ((try dsimp only); refine rd_here rfl ?_; (try dsimp only))
    exact ⟨rat_shaped (frac_rat hp), rats_shapedL (fr_rat hff), rfl⟩
  · have hn : hasR found p = false := by simpa using e2
    obtain ⟨q1, q2, q3⟩ := risIns_ok hff hpw hp
    have q4 : (risIns found p).length ≤ found.length + 1 := risIns_len
    ((try dsimp only); refine rd_here rfl ?_; (try dsimp only))
    rw [seqOf_lst]
    refine compF_filter (p := fun q => belowB q p) (f := fun x => x) (fun x hx Q hQ => ?_) (fun x hx _ Q hQ => ?_) (by simp; omega) ?_
    · ((try dsimp only); refine rd_here rfl ?_; (try dsimp only))
      ((try dsimp only); refine rd_here rfl ?_; (try dsimp only))
      refine conE_use (args := fun x : Dat × Dat => [x.1, x.2]) (x, p) ⟨⟨frac_rat (hff x hx), smR_frac (hsf x hx) (hff x hx)⟩, frac_rat hp, smR_frac sp hp⟩ ?_
      exact hQ
    · exact rd_here rfl hQ
    try dsimp only
    rw [List.nil_append, List.map_id', lenD_lst]
    have hk : (found.filter fun q => belowB q p).length ≤ found.length := List.length_filter_le _ _
    ((try dsimp only); refine rd_here rfl ?_; (try dsimp only))
    ((try dsimp only); refine rd_here rfl ?_; (try dsimp only))
    rw [isI_int, slD_lst, cut_to _ _ hk]
    ((try dsimp only); refine rd_here rfl ?_; (try dsimp only))
    refine ⟨by simp; omega, ?_⟩
    rw [addD_lst]
    refine ⟨by simp only [List.length_take, List.length_singleton]; omega, ?_⟩
    ((try dsimp only); refine rd_here rfl ?_; (try dsimp only))
    ((try dsimp only); refine rd_here rfl ?_; (try dsimp only))
    rw [isI_int, slD_lst, cut_from, addD_lst]
    refine ⟨by simp only [List.length_take, List.length_drop, List.length_append, List.length_singleton]; omega, ?_⟩
    have er : risIns found p = found.take (found.filter (belowB · p)).length ++ [p] ++ found.drop (found.filter (belowB · p)).length := by
      unfold risIns
      rw [hn, if_neg (by decide)]
    refine ⟨risIns found p, _, _, _, by rw [er]; rfl, e, hfi', hsi', q1, q2, fun z hz => ?_, by omega⟩
    rcases q3 z hz with rfl | hz
    · exact sp
    · exact hsf z hz
  · have hn : hasR found p = true := by simpa using e2
    refine ⟨found, _, _, _, rfl, ?_, hfi', hsi', hff, hpw, hsf, by omega⟩
    rw [e]
    unfold risIns
    rw [hn, if_pos rfl]
abbrev s__law_parts : Stmt := topS 35
theorem sc__law_parts : FnScope ["it", "deep", "first"] ["it", "deep"] (defScope s__law_parts) := ⟨rfl, rfl, rfl, by decide +kernel, rfl, by decide +kernel, by decide +kernel⟩
-- calls ['_law_is_lowest', '_law_parts'] consts []
theorem ok_law_parts {n : Nat} (B : Bt mg) (F__law_is_lowest : Callee P w K mg base "_law_is_lowest" k ["it"] c_is_lowest) (F__law_parts : Callee P w K mg base "_law_parts" k ["it", "deep"] (c_parts10 n)) (F : Fun K "_law_parts" "_law_parts" s__law_parts f fd) : FnOk P w K mg base CX0 (k + 1) f fd ["it", "deep"] (spD K (c_parts10 (n + 1))) := by
  refine fn_pure F sc__law_parts (fun ds P X ⟨d, e, _⟩ => by rw [e]; rfl) fun cdv A outer s H S hS hr => ?_
  have nd := sc__law_parts.nd
  refine ⟨_, (db_cons (ds_ifc (dt_w (dw_or (dt_lt (de_var 1) de_int) (dw_or (dt_not (dt_val (de_isi (TT := "tuple") (he := (de_var 0)) (hm := B.isinstance) (hmT := B.tuple) (hv := by decide +kernel) (hn := by decide) (hd := by decide)))) (dw_or (dt_ninI (de_len B.len (da_cons (de_var 0) da_nil)) (de_tup (da_cons de_int (da_cons de_int da_nil)))) (dw_or1 (dt_not (dt_val (de_isi (TT := "str") (he := (de_ix (de_var 0) de_int)) (hm := B.isinstance) (hmT := B.str) (hv := by decide +kernel) (hn := by decide) (hd := by decide))))))))) (db_one (ds_ret de_int)) db_nil) (db_cons (ds_ifc (dt_w (dw_and (dt_eq hr.units (de_ix (de_var 0) de_int) de_str) (dw_and1 (dt_eq hr.units (de_len B.len (da_cons (de_var 0) da_nil)) de_int)))) (db_one (ds_ret (de_if (dt_val (de_fn F__law_is_lowest hr (da_cons (de_ix (de_var 0) de_int) da_nil) (by omega))) de_int de_int))) db_nil) (db_cons (ds_ifc (dt_w (dw_or (dt_ne hr.units (de_ix (de_var 0) de_int) de_str) (dw_or1 (dt_ne hr.units (de_len B.len (da_cons (de_var 0) da_nil)) de_int)))) (db_one (ds_ret de_int)) db_nil) (db_cons (ds_set 2 (de_fn F__law_parts hr (da_cons (de_ix (de_var 0) de_int) (da_cons (de_sub (de_var 1) de_int) da_nil)) (by omega)) nd) (db_one (ds_ret (de_if (dt_gt (de_var 2) de_int) de_int (de_min2 rfl B.min (da_cons de_int (da_cons (de_add (de_add de_int (de_var 2)) (de_fn F__law_parts hr (da_cons (de_ix (de_var 0) de_int) (da_cons (de_sub (de_var 1) de_int) da_nil)) (by omega))) da_nil)))))))))), ?_⟩
  rintro ds R X ⟨⟨d, m⟩, rfl, ⟨hs, hm⟩, h⟩
  replace h : R (.int ((partsF m d : Nat) : Int)) := h
  replace hs : SmV d := hs
  replace hm : m < n + 1 := hm
  have big := line_big
  try dsimp only
  refine ⟨fun b => (b = false → 1 ≤ m ∧ ∃ w r, d = .tup (.str w :: r) ∧ (r.length = 1 ∨ r.length = 2)) ∧ (b = true → partsF m d = 999), ?_, fun e => ?_, fun e => ?_⟩
  · ((try dsimp only); refine rd_here rfl ?_; (try dsimp only))
    rw [int0_int, isB_bl]
    by_cases h1 : ((m : Nat) : Int) < 1
    · rw [if_pos (decide_eq_true h1)]
      exact ⟨(fun z => by cases z), fun _ => by rw [show m = 0 by omega]; rfl⟩
    rw [if_neg (fun z => h1 (of_decide_eq_true z))]
    obtain ⟨m', rfl⟩ : ∃ m', m = m' + 1 := ⟨m - 1, by omega⟩
    ((try dsimp only); refine rd_here rfl ?_; (try dsimp only))
    cases d with
    | tup xs =>
      rw [show isiB "tuple" (.tup xs) = true from rfl, isB_bl]
      try dsimp only
      rw [if_neg (by decide)]
      ((try dsimp only); refine rd_here rfl ?_; (try dsimp only))
      rw [lenD_tup]
      refine ⟨show 2 ≤ sizeLine by decide, [2, 3], rfl, ?_⟩
      dsimp only
      rw [isB_bl]
      have er : ∀ x r, xs = x :: r → (∀ w, x ≠ .str w) → partsF (m' + 1) (.tup xs) = 999 := fun x r e hx => by
        subst e
        show partT (partsF m') (.tup (x :: r)) = 999
        cases x with
        | str w => exact (hx w rfl).elim
        | _ => rfl
      have el : ¬ (xs.length = 2 ∨ xs.length = 3) → partsF (m' + 1) (.tup xs) = 999 := fun e => by
        match xs with
        | [] => rfl
        | [x] =>
          show partT (partsF m') (.tup [x]) = 999
          cases x with
          | str w => show (if w = "tip" then tipP [] else if w = "node" then nodP (partsF m') [] else 999) = 999; split; rfl; split <;> rfl
          | _ => rfl
        | [x, y] => exact (e (.inl rfl)).elim
        | [x, y, z] => exact (e (.inr rfl)).elim
        | x :: y :: z :: u :: r =>
          show partT (partsF m') (.tup (x :: y :: z :: u :: r)) = 999
          cases x with
          | str w => show (if w = "tip" then tipP (y :: z :: u :: r) else if w = "node" then nodP (partsF m') (y :: z :: u :: r) else 999) = 999; split; rfl; split <;> rfl
          | _ => rfl
      by_cases hl : xs.length = 2 ∨ xs.length = 3
      · rw [decide_eq_true (show ((xs.length : Nat) : Int) ∈ [2, 3] by simp; omega), if_neg (by decide)]
        ((try dsimp only); refine rd_here rfl ?_; (try dsimp only))
        rw [ixD_tup]
        match xs, hl, er with
        | x :: r, hl, er =>
          rw [at0, someD_some]
          rw [List.length_cons] at hl
          cases x with
          | str w => exact ⟨fun _ => ⟨by omega, w, r, rfl, by omega⟩, (fun z => by cases z)⟩
          | _ => exact ⟨(fun z => by cases z), fun _ => er _ _ rfl (fun w e => by cases e)⟩
      · rw [decide_eq_false (show ¬ ((xs.length : Nat) : Int) ∈ [2, 3] by simp; omega), if_pos (by decide)]
        exact ⟨(fun z => by cases z), fun _ => el hl⟩
    | _ => exact ⟨(fun z => by cases z), fun _ => rfl⟩
  · rw [e.2 rfl] at h
    exact h
  obtain ⟨hm1, w0, r, rfl, hr⟩ := e.1 rfl
  obtain ⟨m', rfl⟩ : ∃ m', m = m' + 1 := ⟨m - 1, by omega⟩
  have sr := smV_tup.mp hs
  have et : partsF (m' + 1) (.tup (.str w0 :: r)) = if w0 = "tip" then tipP r else if w0 = "node" then nodP (partsF m') r else 999 := rfl
  rw [et] at h
  refine ⟨fun b => (b = true ↔ w0 = "tip" ∧ r.length = 1), ?_, fun e => ?_, fun e => ?_⟩
  · ((try dsimp only); refine rd_here rfl ?_; (try dsimp only))
    rw [ixD_tup, at0, someD_some, eqD_str, isB_bl]
    by_cases hw : w0 = "tip"
    · rw [decide_eq_true hw, if_pos rfl]
      ((try dsimp only); refine rd_here rfl ?_; (try dsimp only))
      rw [lenD_tup, eqD_int, isB_bl, decide_eq_true_eq, List.length_cons]
      exact ⟨fun q => ⟨hw, by omega⟩, fun q => by omega⟩
    · rw [decide_eq_false hw, if_neg (by decide)]
      exact ⟨(fun z => by cases z), fun q => (hw q.1).elim⟩
  · obtain ⟨rfl, hl⟩ := e.mp rfl
    rw [if_pos rfl] at h
    match r, hl with
    | [x], _ =>
      ((try dsimp only); refine rd_here rfl ?_; (try dsimp only))
      rw [ixD_tup, at1, someD_some]
      refine con1_C.mpr ⟨sr x (by simp), ?_⟩
      rw [isB_bl]
      rw [tipP] at h
      cases hx : fracB x with
      | true => rw [hx, if_pos rfl] at h; rw [if_pos rfl]; exact h
      | false => rw [hx, if_neg (by decide)] at h; rw [if_neg (by decide)]; exact h
  have hnt : ¬ (w0 = "tip" ∧ r.length = 1) := fun q => by cases e.mpr q
  refine ⟨fun b => (b = false → w0 = "node" ∧ ∃ x y, r = [x, y]) ∧ (b = true → R (.int 999)), ?_, fun e => ?_, fun e => ?_⟩
  · have no : ¬ (w0 = "node" ∧ r.length = 2) → R (.int 999) := fun q => by
      by_cases ht : w0 = "tip"
      · rw [if_pos ht] at h
        match r, hr, hnt with
        | [x], _, hnt => exact (hnt ⟨ht, rfl⟩).elim
        | [x, y], _, _ => exact h
      · rw [if_neg ht] at h
        by_cases hn : w0 = "node"
        · rw [if_pos hn] at h
          match r, hr, q with
          | [x], _, _ => exact h
          | [x, y], _, q => exact (q ⟨hn, rfl⟩).elim
        · rw [if_neg hn] at h
          exact h
    ((try dsimp only); refine rd_here rfl ?_; (try dsimp only))
    rw [ixD_tup, at0, someD_some, neD_str, isB_bl]
    by_cases hn : w0 = "node"
    · rw [if_neg (by simp [hn])]
      ((try dsimp only); refine rd_here rfl ?_; (try dsimp only))
      rw [lenD_tup, neD_int, isB_bl, List.length_cons]
      by_cases h2 : r.length = 2
      · rw [decide_eq_true (by omega)]
        match r, h2 with
        | [x, y], _ => exact ⟨fun _ => ⟨hn, x, y, rfl⟩, (fun z => by cases z)⟩
      · rw [decide_eq_false (by omega)]
        exact ⟨(fun z => by cases z), fun _ => no fun q => h2 q.2⟩
    · rw [if_pos (by simp [hn])]
      exact ⟨(fun z => by cases z), fun _ => no fun q => hn q.1⟩
  · exact e.2 rfl
  obtain ⟨rfl, x, y, rfl⟩ := e.1 rfl
  rw [if_neg (by decide), if_pos rfl, nodP] at h
  ((try dsimp only); refine rd_here rfl ?_; (try dsimp only))
  rw [ixD_tup, at1, someD_some]
  ((try dsimp only); refine rd_here rfl ?_; (try dsimp only))
  rw [int0_int]
  refine ⟨(x, m'), congrArg (fun z : Int => [x, Dat.int z]) (show ((m' + 1 : Nat) : Int) - 1 = (m' : Nat) by omega), ⟨sr x (by simp), show m' < n by omega⟩, ?_⟩
  dsimp only
  ((try dsimp only); refine rd_here rfl ?_; (try dsimp only))
  rw [int0_int, isB_bl]
  by_cases c1 : 600 < partsF m' x
  · rw [if_pos c1] at h
    rw [if_pos (decide_eq_true (by omega))]
    exact h
  · rw [if_neg c1] at h
    rw [if_neg (fun z => c1 (by have := of_decide_eq_true z; omega))]
    ((try dsimp only); refine rd_here rfl ?_; (try dsimp only))
    rw [addD_int]
    ((try dsimp only); refine rd_here rfl ?_; (try dsimp only))
    rw [ixD_tup, show atI [Dat.str "node", x, y] 2 = some y from rfl, someD_some]
    ((try dsimp only); refine rd_here rfl ?_; (try dsimp only))
    rw [int0_int]
    refine ⟨(y, m'), congrArg (fun z : Int => [y, Dat.int z]) (show ((m' + 1 : Nat) : Int) - 1 = (m' : Nat) by omega), ⟨sr y (by simp), show m' < n by omega⟩, ?_⟩
    dsimp only
    rw [addD_int, minD_int]
    have em : (if (1 + ((partsF m' x : Nat) : Int) + ((partsF m' y : Nat) : Int)) < 999 then (1 + ((partsF m' x : Nat) : Int) + ((partsF m' y : Nat) : Int)) else 999) = ((min 999 (1 + partsF m' x + partsF m' y) : Nat) : Int) := by
      split <;> omega
    rw [em]
    exact h
abbrev s__law_is_worth : Stmt := topS 36
theorem sc__law_is_worth : FnScope ["it", "kind", "one_more"] ["it", "kind"] (defScope s__law_is_worth) := ⟨rfl, rfl, rfl, by decide +kernel, rfl, by decide +kernel, by decide +kernel⟩
-- calls ['_law_is_lowest', '_law_parts', '_law_risen', '_law_is_number'] consts []
theorem ok_law_is_worth (B : Bt mg) (F__law_is_lowest : Callee P w K mg base "_law_is_lowest" k ["it"] c_is_lowest) (F__law_is_number : Callee P w K mg base "_law_is_number" k ["it", "least"] c_is_number) (F__law_risen : Callee P w K mg base "_law_risen" k ["some"] c_risen) (F__law_parts : Callee P w K mg base "_law_parts" k ["it", "deep"] (c_parts10 41)) (F : Fun K "_law_is_worth" "_law_is_worth" s__law_is_worth f fd) : FnOk P w K mg base CX0 (k + 1) f fd ["it", "kind"] (spD K c_is_worth) := by
  refine fn_pure F sc__law_is_worth (fun ds P X ⟨d, e, _⟩ => by rw [e]; rfl) fun cdv A outer s H S hS hr => ?_
  have nd := sc__law_is_worth.nd
  refine ⟨_, (db_cons (ds_ifc (dt_eq hr.units (de_var 1) de_str) (db_one (ds_ret (de_fn F__law_is_lowest hr (da_cons (de_var 0) da_nil) (by omega)))) db_nil) (db_cons (ds_ifc (dt_eq hr.units (de_var 1) de_str) (db_one (ds_ret (de_le (de_fn F__law_parts hr (da_cons (de_var 0) (da_cons de_int da_nil)) (by omega)) de_int))) db_nil) (db_cons (ds_ifc (dt_eq hr.units (de_var 1) de_str) (db_cons (ds_ifc (dt_w (dw_or (dt_not (dt_val (de_isi (TT := "tuple") (he := (de_var 0)) (hm := B.isinstance) (hmT := B.tuple) (hv := by decide +kernel) (hn := by decide) (hd := by decide)))) (dw_or1 (dt_inBl de_bl (de_lc 2 (x := "one_more") rfl nd (di_seq (de_var 0)) (blkOk_by (own := [("one_more", 2)]) (N := ["it", "kind", "one_more"]) (sc := defScope s__law_is_worth) (by decide +kernel)) (fun _ _ _ _ _ => pg_name (i := 2) nd rfl (Or.inl rfl)) (fun _ _ _ _ _ => dts_nil) (fun _ _ _ _ _ => (de_fn F__law_is_lowest hr (da_cons (de_var 2) da_nil) (by omega)))))))) (db_one (ds_ret de_bl)) db_nil) (db_one (ds_ret (de_eq hr.units (de_fn F__law_risen hr (da_cons (de_var 0) da_nil) (by omega)) (de_var 0))))) db_nil) (db_one (ds_ret (de_and (de_fn F__law_is_number hr (da_cons (de_var 0) (da_cons de_int da_nil)) (by omega)) (de_one (de_or (de_eq hr.units (de_var 1) de_str) (de_one (de_lt (de_var 0) de_int)))))))))), ?_⟩
  rintro ds R X ⟨⟨d, z⟩, rfl, ⟨⟨hs, hsh⟩, hz⟩, h⟩
  replace h : R (.bl (valB d z)) := h
  replace hs : SmV d := hs
  replace hsh : shortT d := hsh
  have big := line_big
  try dsimp only
  rw [valB] at h
  refine ⟨(· = decide (z = "num")), ?_, fun e => ?_, fun e => ?_⟩
  · ((try dsimp only); refine rd_here rfl ?_; (try dsimp only))
    rw [eqD_str, isB_bl]
  · rw [if_pos (of_decide_eq_true e.symm)] at h
    ((try dsimp only); refine rd_here rfl ?_; (try dsimp only))
    exact con1_C.mpr ⟨hs, h⟩
  rw [if_neg (of_decide_eq_false e.symm)] at h
  refine ⟨(· = decide (z = "tree")), ?_, fun e => ?_, fun e => ?_⟩
  · ((try dsimp only); refine rd_here rfl ?_; (try dsimp only))
    rw [eqD_str, isB_bl]
  · rw [if_pos (of_decide_eq_true e.symm), tree_parts] at h
    ((try dsimp only); refine rd_here rfl ?_; (try dsimp only))
    refine conE_use (args := fun x : Dat × Nat => [x.1, Dat.int (x.2 : Nat)]) (d, 40) ⟨hs, show 40 < 41 by decide⟩ ?_
    dsimp only
    rw [int0_int]
    exact h
  rw [if_neg (of_decide_eq_false e.symm)] at h
  refine ⟨(· = decide (z = "set")), ?_, fun e => ?_, fun e => ?_⟩
  · ((try dsimp only); refine rd_here rfl ?_; (try dsimp only))
    rw [eqD_str, isB_bl]
  · rw [if_pos (of_decide_eq_true e.symm)] at h
    refine ⟨fun b => (b = false → ∃ xs, d = .tup xs ∧ Fr xs) ∧ (b = true → risB d = false), ?_, fun e => ?_, fun e => ?_⟩
    · ((try dsimp only); refine rd_here rfl ?_; (try dsimp only))
      cases d with
      | tup xs =>
        have sx := smV_tup.mp hs
        have hl : xs.length ≤ 10000 := hsh
        rw [show isiB "tuple" (.tup xs) = true from rfl, isB_bl]
        try dsimp only
        rw [if_neg (by decide)]
        ((try dsimp only); refine rd_here rfl ?_; (try dsimp only))
        rw [seqOf_tup]
        refine compF_map (f := fun d => .bl (fracB d)) (fun d hd Q hQ => ?_) (by simp; omega) ?_
        · ((try dsimp only); refine rd_here rfl ?_; (try dsimp only))
          exact con1_C.mpr ⟨sx d hd, hQ⟩
        rw [List.nil_append]
        refine ⟨xs.map fracB, by rw [List.map_map]; rfl, ?_⟩
        dsimp only
        rw [isB_bl]
        by_cases hf : Fr xs
        · rw [decide_eq_false (fun c => by
            obtain ⟨d, hd, e⟩ := List.mem_map.mp c
            rw [hf d hd] at e
            cases e)]
          exact ⟨fun _ => ⟨xs, rfl, hf⟩, (fun z => by cases z)⟩
        · rw [decide_eq_true (by
            have : ∃ d ∈ xs, ¬ fracB d = true := by
              by_cases c : ∃ d ∈ xs, ¬ fracB d = true
              · exact c
              · exact (hf fun d hd => by
                  by_cases c2 : fracB d = true
                  · exact c2
                  · exact (c ⟨d, hd, c2⟩).elim).elim
            obtain ⟨d, hd, e⟩ := this
            exact List.mem_map.mpr ⟨d, hd, by simpa using e⟩)]
          exact ⟨(fun z => by cases z), fun _ => ris_not hf⟩
      | _ => exact ⟨(fun z => by cases z), fun _ => rfl⟩
    · rw [e.2 rfl] at h
      exact h
    obtain ⟨xs, rfl, hf⟩ := e.1 rfl
    have sx := smV_tup.mp hs
    ((try dsimp only); refine rd_here rfl ?_; (try dsimp only))
    refine conE_use (args := fun x : Bool × List Dat => [if x.1 then .tup x.2 else .lst x.2]) (true, xs) ⟨⟨hf, sx⟩, hsh⟩ ?_
    dsimp only
    ((try dsimp only); refine rd_here rfl ?_; (try dsimp only))
    refine ⟨rats_shapedT (fr_rat (risF_ok hf).1), rats_shapedT (fr_rat hf), ?_⟩
    rw [← ris_iff hf]
    exact h
  rw [if_neg (of_decide_eq_false e.symm)] at h
  ((try dsimp only); refine rd_here rfl ?_; (try dsimp only))
  refine conE_use (args := fun x : Dat × Int => [x.1, Dat.int x.2]) (d, 0) trivial ?_
  dsimp only
  rw [isB_bl]
  cases d with
  | int i =>
    rw [show numB (.int i) 0 = decide (0 ≤ i) from rfl]
    rw [show wholeB (.int i) z = (decide (0 ≤ i) && (decide (z = "thing") || decide (i ≤ 15))) from rfl] at h
    cases h0 : decide (0 ≤ i) with
    | false =>
      rw [h0, Bool.false_and] at h
      rw [if_neg (by decide)]
      exact h
    | true =>
      rw [h0, Bool.true_and] at h
      rw [if_pos rfl]
      ((try dsimp only); refine rd_here rfl ?_; (try dsimp only))
      rw [eqD_str, isB_bl]
      cases h1 : decide (z = "thing") with
      | true =>
        rw [h1, Bool.true_or] at h
        rw [if_pos rfl]
        exact h
      | false =>
        rw [h1, Bool.false_or] at h
        rw [if_neg (by decide)]
        ((try dsimp only); refine rd_here rfl ?_; (try dsimp only))
        rw [int0_int, decide_eq_decide.mpr (show i < 16 ↔ i ≤ 15 by omega)]
        exact h
  | _ =>
    exact h
end
end K01
namespace DL
open PySem PySem.Spec PyProof.Rows L2 LamX
/-! ### the end of a row whose law is a def that asks for no repr under way, with one table -/
section
variable {P : Program} {w : World} {K : PySem.W.Frag} {mg mb : Str → Option Value} {k : Nat} {fa a c T : Addr} {fd : FuncData} {x : Str} {sp : Sp} {s : Shared} {vs : List Value} {ns : List Int}
/-- what is tracked at the start: the table, and the script where the module does not hold it -/
structure OnlyTS (K : PySem.W.Frag) (a T : Addr) (vs : List Value) (ns : List Int) (H : Hp) : Prop where
  tab : H T = some (.tbl #[])
  one : ∀ b u, H b = some u → (b = T ∧ u = .tbl #[]) ∨ (b = a ∧ u = .frz { cls := .type "list", data := .seq vs.toArray } (.lst (ns.map V.int)) ∧ K.lookup a = none)
  scr : SqL K H a (ns.map V.int)
theorem onlyTS_ex (KX : K.In s.heap) (hT : s.heap.get? T = some { cls := .none, data := .fields #[] }) (ha : s.heap.get? a = some { cls := .type "list", data := .seq vs.toArray }) (hi : IntsAre vs ns) (hl : ns.length ≤ sizeLine) : ∃ H, OnlyTS K a T vs ns H := by
  have aT : a ≠ T := fun z => by
    rw [z, hT] at ha
    injection ha with ha
    injection ha with _ _ ha _
    cases ha
  cases hk : K.lookup a with
  | some o =>
    have e := KX a o hk
    rw [ha] at e
    injection e with e
    subst e
    refine ⟨fun b => if b = T then some (.tbl #[]) else none, if_pos rfl, fun b u z => ?_, .inr ⟨_, vs.toArray, _, hk, rfl, rfl, rfl, by rw [List.size_toArray, hi.length]; exact hl, by simpa using vals_ints hi⟩⟩
    by_cases hb : b = T
    · rw [show (if b = T then some (HO.tbl #[]) else none) = some (.tbl #[]) from if_pos hb] at z
      cases z
      exact .inl ⟨hb, rfl⟩
    · rw [show (if b = T then some (HO.tbl #[]) else none) = none from if_neg hb] at z
      cases z
  | none =>
    refine ⟨upd (fun b => if b = T then some (.tbl #[]) else none) a (.frz { cls := .type "list", data := .seq vs.toArray } (.lst (ns.map V.int))), by rw [upd_ne (fun z => aT z.symm)]; exact if_pos rfl, fun b u z => ?_, .inl (.inr ⟨_, upd_same⟩)⟩
    by_cases hb : b = a
    · rw [hb, upd_same] at z
      cases z
      exact .inr ⟨hb, rfl, hk⟩
    · rw [upd_ne hb] at z
      by_cases hb2 : b = T
      · rw [if_pos hb2] at z
        cases z
        exact .inl ⟨hb2, rfl⟩
      · rw [if_neg hb2] at z
        cases z
theorem law_callG (KX : K.In s.heap) (hns : s.heap.Ns mainGlobals mg) (hb : s.heap.Ns builtinsNs mb) (hbb : ∀ x : Str, x ≠ "__name__" → mb x = bootBuiltins x) (hlim : s.heap.NoLimit) (hg : s.gens = #[]) (hT : s.heap.get? T = some { cls := .none, data := .fields #[] }) (nT : K.lookup T = none) (C : PySem.W.CodeHd s.heap c T)
    (hbm : ∃ (bm : Addr) (ob : Obj), mg "__builtins__" = some (.ref bm) ∧ bm ≠ builtinsNs ∧ s.heap.get? bm = some ob ∧ ob.cls = .type "module" ∧ ob.dict = some builtinsNs ∧ ob.data = .plain) (ha : s.heap.get? a = some { cls := .type "list", data := .seq vs.toArray }) (hi : IntsAre vs ns) (hl : ns.length ≤ sizeLine) (hr : Room k callerA)
    (F : ∀ base : Heap, K.In base → base.Ns mainGlobals mg → TabB base mg c T → FnG P w K mg base CX0 k fa fd [x] sp) (hbind : ∀ (s : Shared) (u : Value), BindsTo s fd ⟨[u], []⟩ [(x, u)]) (hsp : ∀ H : Hp, OnlyTS K a T vs ns H → sp [.ref a] H (fun v _ => v = .bl true) fun _ _ _ => False) :
    codeAny (model P w) callerA (.call (.ref fa) ⟨[.ref a], []⟩) (fun r s' => r = .ok (.ret (.bool true)) ∧ OldK s.heap s'.heap ∧ s'.os = s.os ∧ AllBare s'.gens) s := by
  obtain ⟨H, O⟩ := onlyTS_ex (T := T) KX hT ha hi hl
  -- what is neither a row of things nor an empty table is not tracked
  have other : ∀ {b : Addr} {o : Obj}, s.heap.get? b = some o → (∀ vs n, o.data ≠ .seq vs n) → o.data ≠ .fields #[] → H b = none := fun {b o} e h1 h2 => by
    cases q : H b with
    | none => rfl
    | some u =>
      rcases O.one b u q with ⟨e', _⟩ | ⟨e', _⟩
      · rw [e', hT] at e
        injection e with e
        subst e
        exact (h2 rfl).elim
      · rw [e', ha] at e
        injection e with e
        subst e
        exact (h1 _ _ rfl).elim
  have dictN : ∀ {b : Addr} {o : Obj} {es : Array DictEntry} {ep : Nat}, s.heap.get? b = some o → o.data = .dict es ep → H b = none := fun {b o es ep} e d => other e (fun vs n z => by rw [d] at z; cases z) (fun z => by rw [d] at z; cases z)
  have down : ∀ {b : Addr} {o : Obj}, s.heap.get? b = some o → H b = none → (hidT s.heap H).get? b = some o := fun e n => hidT_get e n
  have nsD : ∀ {b : Addr} {m : Str → Option Value}, s.heap.Ns b m → (hidT s.heap H).Ns b m := fun {b m} ⟨o, es, ep, e, d, r⟩ => ⟨o, es, ep, down e (dictN e d), d, r⟩
  have KB : K.In (hidT s.heap H) := fun b o e => down (KX b o e) (by
    cases q : H b with
    | none => rfl
    | some u =>
      rcases O.one b u q with ⟨e', _⟩ | ⟨e', _, e2⟩
      · rw [e', nT] at e; cases e
      · rw [e', e2] at e; cases e)
  have M : L2.Mod K mg (hidT s.heap H) := ⟨KB, nsD hns, ⟨mb, nsD hb, hbb⟩, let ⟨mc, h1, h2⟩ := hlim; ⟨mc, nsD h1, h2⟩⟩
  have noG : ∀ {b : Addr}, s.heap.get? b = some { cls := .none, data := .fields #[] } ∨ (∃ ob, s.heap.get? b = some ob ∧ ob.data = .plain) → b ≠ mainGlobals := fun {b} h z => by
    obtain ⟨o, es, ep, e, hd, _⟩ := hns
    rw [z] at h
    rcases h with h | ⟨ob, h, h2⟩
    · rw [e] at h; injection h with h; subst h; cases hd
    · rw [e] at h; injection h with h; subst h; rw [hd] at h2; cases h2
  have TB : TabB (hidT s.heap H) mg c T := by
    refine ⟨?_, ?_, fun z => noG (.inl hT) z.symm⟩
    · obtain ⟨o, us, file, tf, flags, tg, inF, text, tt, e1, r1, r2, r3, rest⟩ := C
      exact ⟨o, us, file, tf, flags, tg, inF, text, tt, down e1 (other e1 (fun vs n z => by rw [r2] at z; cases z) fun z => by rw [r2] at z; cases z; simp at r3), r1, r2, r3, rest⟩
    · obtain ⟨bm, ob, b1, b2, b3, b4, b5, b6⟩ := hbm
      refine ⟨bm, ob, b1, b2, noG (.inr ⟨ob, b3, b6⟩), fun q => ?_, down b3 (other b3 (fun vs n z => by rw [b6] at z; cases z) fun z => by rw [b6] at z; cases z), b4, b5, b6⟩
      rw [q, hT] at b3
      injection b3 with b3
      subst b3
      cases b6
  have hokH : HOk P w H s.heap := fun b u e => by
    rcases O.one b u e with ⟨rfl, rfl⟩ | ⟨rfl, rfl, _⟩
    · exact hT
    · exact ⟨ha, by rw [List.length_map]; exact hl, vs, _, vals_ints hi, ha⟩
  have start : Env0 P w K mg (hidT s.heap H) callerA [] s H := ⟨rfl, M, fun b o e => of_hidT e, Nat.le_of_eq (hidT_size _ _), trivial, fun b hb => (List.not_mem_nil hb).elim, hokH, .of_eq hg⟩
  refine codeAny_mono ((F _ KB (nsD hns) TB).run callerA [] s H ⟨[.ref a], []⟩ [.ref a] [.ref a] _ _ hr rfl start (hbind s (.ref a)) (.cons rfl .nil) (hsp H O)) fun r s' h => ?_
  match r, h with
  | .error e, h => exact (show False from h).elim
  | .ok .next, h => exact False.elim h
  | .ok .brk, h => exact False.elim h
  | .ok .cont, h => exact False.elim h
  | .ok (.ret u), ⟨v, H', os, bare, un, hok', rv, qv⟩ =>
    obtain rfl : v = .bl true := qv
    obtain rfl : u = Value.bool true := rv
    have stays : ∀ b o, b ≠ T → s.heap.get? b = some o → s'.heap.get? b = some o := fun b o nb e => by
      cases q : H b with
      | none => exact un.keep b o e q (fun z => (List.not_mem_nil (show b ∈ ([] : List Addr) from z)).elim) (fun z => (List.not_mem_nil z).elim)
      | some u =>
        rcases O.one b u q with ⟨e', _⟩ | ⟨_, rfl, _⟩
        · exact absurd e' nb
        · obtain ⟨e1, _⟩ := hokH b _ q
          obtain ⟨e2, _⟩ := hok' b _ (un.frzs b _ _ q)
          rw [e] at e1
          rw [e2, e1]
    obtain ⟨more, hm⟩ := un.tbls T #[] O.tab
    have hm' : s'.heap.get? T = some { cls := .none, data := .fields (#[] ++ more) } := hok' T _ hm
    rw [Array.empty_append] at hm'
    refine ⟨rfl, ⟨fun b o e => ?_, fun b o e => ?_⟩, os, bare⟩
    · by_cases hbT : b = T
      · subst hbT
        rw [hT] at e
        injection e with e
        subst e
        exact .inr (.inl ⟨(C.tab hT).isCodeTable, rfl, #[], more, rfl, by rw [Array.empty_append]; exact hm'⟩)
      · exact .inl (stays b o hbT e)
    · by_cases hbT : b = T
      · exact ⟨_, by rw [hbT]; exact hm'⟩
      · exact ⟨o, stays b o hbT e⟩
/-- what the head's heap must say of the law -/
def LawAtG (l : PySem.W.OpenLaw) (w : World) (K : PySem.W.Frag) (k n : Nat) (x : Str) (mg : Str → Option Value) (fa : Addr) (h : Heap) : Prop := ∃ (fd : FuncData) (c T : Addr) (sp : Sp), h.get? T = some { cls := .none, data := .fields #[] } ∧ K.lookup T = none ∧ PySem.W.CodeHd h c T ∧ (∀ (s : Shared) (u : Value), BindsTo s fd ⟨[u], []⟩ [(x, u)]) ∧
  (∀ (H : Hp) (a : Addr) (vs : List Value) (ns : List Int), ns.length ≤ n → OnlyTS K a T vs ns H → sp [.ref a] H (fun v _ => v = .bl true) fun _ _ _ => False) ∧ ∀ base : Heap, K.In base → base.Ns mainGlobals mg → TabB base mg c T → FnG l.prog w K mg base CX0 k fa fd [x] sp
theorem walk_ofG {l : PySem.W.OpenLaw} {n k : Nat} {q : Program} {loose : List Str} {XP : (Str → Option Value) → Heap → Prop} {YP : World → Heap → Prop} {d : DefRec} {K : Params → PySem.W.Frag} {x : Str} (hn : l.most = some n) (hn2 : n ≤ sizeLine) (hdf : d.params.defaults = []) (hr : Room k callerA) (hY : ∀ (w : World) (h : Heap), YP w h → (K w.params).In h)
    (F : ∀ (w : World) (mg : Str → Option Value) (fa : Addr) (h : Heap), YP w h → (K w.params).In h → h.Ns mainGlobals mg → mg d.name = some (.ref fa) → LawAtG l w (K w.params) k n x mg fa h) : PySem.W.WalkO q loose XP YP l.row.toRowW d [] (fun f vs => PySem.call f vs) :=
  Att.attach_callB hn hdf fun w s₀ s₁ mg mb fa o pm cd doc a vs ns G Y ho hd hcd hmg hobj hints hlen hbits hg => by
    have KX := hY w _ Y
    obtain ⟨fd, c, T, sp, hT, nT, C, hb, hsp, hF⟩ := F w mg fa _ Y KX G.T.g hmg
    exact law_callG KX G.T.g G.T.b G.T.builtins G.T.nolimit hg hT nT C G.T.bmain hobj hints (Nat.le_trans hlen hn2) hr hF hb fun H O => hsp H a vs ns hlen O
end
end DL
namespace DL
open PySem PySem.Spec PyProof.Rows L2
/-! ### numbers of a list: max, sum; int of a truth -/
def intsOf : List Dat → Option (List Int)
  | [] => some []
  | .int x :: r => (intsOf r).map (x :: ·)
  | _ :: _ => none
theorem intsOf_eq : ∀ {ds : List Dat} {zs : List Int}, intsOf ds = some zs → ds = zs.map Dat.int
  | [], zs, h => by cases h; rfl
  | .int x :: r, zs, h => by
    unfold intsOf at h
    cases e : intsOf r with
    | none => rw [e] at h; cases h
    | some ys =>
      rw [e] at h
      cases h
      rw [intsOf_eq e]; rfl
  | .non :: _, _, h => by cases h
  | .bl _ :: _, _, h => by cases h
  | .str _ :: _, _, h => by cases h
  | .tup _ :: _, _, h => by cases h
  | .lst _ :: _, _, h => by cases h
  | .dic _ _ :: _, _, h => by cases h
theorem intsOf_map : ∀ zs : List Int, intsOf (zs.map Dat.int) = some zs
  | [] => rfl
  | z :: zs => by simp [intsOf, intsOf_map zs]
theorem DvL.ints {K : PySem.W.Frag} {S : Addr → Prop} {H : Hp} : ∀ {l : List Int} {vs : List V}, DvL K S H (l.map Dat.int) vs → vs = l.map V.int
  | [], _, e => e
  | x :: l, vs, e => by
    obtain ⟨v, r, rfl, h1, h2⟩ := (e : ∃ v r, vs = v :: r ∧ Dv K S H (.int x) v ∧ DvL K S H (l.map Dat.int) r)
    rw [List.map_cons, DvL.ints h2, dv_int h1]
def intsD (d : Dat) (P : List Int → Prop) : Prop := match d with
  | .lst xs => someD (intsOf xs) P
  | _ => False
theorem intsD_inv {d : Dat} {P : List Int → Prop} (h : intsD d P) : ∃ ns, d = .lst (ns.map Dat.int) ∧ P ns := by
  unfold intsD at h
  split at h
  · obtain ⟨ns, e, hp⟩ := someD_inv h
    exact ⟨ns, by rw [intsOf_eq e], hp⟩
  · exact h.elim
theorem intsD_lst {ns : List Int} {P : List Int → Prop} (h : P ns) : intsD (.lst (ns.map Dat.int)) P := by
  show someD (intsOf _) P
  rw [intsOf_map]
  exact h
def maxLD : RCD
  | [d], P => intsD d fun ns => 0 < ns.length ∧ ∀ m, m ∈ ns → (∀ y, y ∈ ns → y ≤ m) → P (.int m)
  | _, _ => False
def sumLD : RCD
  | [d], P => intsD d fun ns => P (.int ns.sum)
  | _, _ => False
def max2D : RCD
  | [.int i, .int j], P => P (.int (if j > i then j else i))
  | _, _ => False
def int1D : RCD
  | [.int i], P => P (.int i)
  | [.bl b], P => P (.int (if b then 1 else 0))
  | _, _ => False
section
variable {G : Ctx} {S S' : Addr → Prop} {σ : L2.St} {H H' : Hp} {ρ : List Slot} {pos : Pos} {a b : Expr} {Fa Fb : FE}
theorem serves_maxL : ServesC G (rMax G.X.K) maxLD := by
  intro S σ ρ H vs ds P Q g hv h q
  unfold maxLD at h
  split at h
  · obtain ⟨ns, rfl, h0, hm⟩ := intsD_inv h
    obtain ⟨v, rfl, h1⟩ := dvl1 hv
    obtain ⟨p, xs, rfl, n, e, hl⟩ := dv_lst h1
    cases hl.ints
    exact ⟨p, ns, rfl, .inl (.inl e), h0, fun m h1 h2 => q _ (.int m) H (Stp.refl g.wld) rfl (hm m h1 h2)⟩
  · exact h.elim
theorem serves_sumL : ServesC G (rSum G.X.K) sumLD := by
  intro S σ ρ H vs ds P Q g hv h q
  unfold sumLD at h
  split at h
  · obtain ⟨ns, rfl, hm⟩ := intsD_inv h
    obtain ⟨v, rfl, h1⟩ := dvl1 hv
    obtain ⟨p, xs, rfl, n, e, hl⟩ := dv_lst h1
    cases hl.ints
    exact ⟨p, ns, rfl, .inl (.inl e), q _ (.int _) H (Stp.refl g.wld) rfl hm⟩
  · exact h.elim
theorem serves_max2 : ServesC G (fun xs H Q => ∃ i j, xs = [.int i, .int j] ∧ Q (.int (if j > i then j else i)) H) max2D := by
  intro S σ ρ H vs ds P Q g hv h q
  unfold max2D at h
  split at h
  · obtain ⟨v, w, rfl, h1, h2⟩ := dvl2 hv
    cases dv_int h1; cases dv_int h2
    exact ⟨_, _, rfl, q _ (.int _) H (Stp.refl g.wld) rfl h⟩
  · exact h.elim
theorem serves_int1 : ServesC G (fun xs H Q => (∃ i, xs = [.int i] ∧ Q (.int i) H) ∨ ∃ k, xs = [.bl k] ∧ Q (.int (if k then 1 else 0)) H) int1D := by
  intro S σ ρ H vs ds P Q g hv h q
  unfold int1D at h
  split at h
  · obtain ⟨v, rfl, h1⟩ := dvl1 hv
    cases dv_int h1
    exact .inl ⟨_, rfl, q _ (.int _) H (Stp.refl g.wld) rfl h⟩
  · obtain ⟨v, rfl, h1⟩ := dvl1 hv
    cases (show v = V.bl _ from h1)
    exact .inr ⟨_, rfl, q _ (.int _) H (Stp.refl g.wld) rfl h⟩
  · exact h.elim
theorem de_maxL {p : Pos} {Fs : FA} (hc : G.X.calm = true) (hm : G.X.mg "max" = none) (ha : DA G [a] Fs) (hg : Gl G.X "max" := by rfl) (he : starEach [a] G.X.env = (false, eval a G.X.env) :: starEach [] G.X.env := by rfl) : DE G (.Call (.Name "max" p) [a] [] pos) (fun ρ P => Fs ρ fun ds => maxLD ds P) := de_cb (cr_max hc) serves_maxL hm (by decide +kernel) ha hg (he := he)
theorem de_sumL {p : Pos} {Fs : FA} (hc : G.X.calm = true) (hm : G.X.mg "sum" = none) (ha : DA G [a] Fs) (hg : Gl G.X "sum" := by rfl) (he : starEach [a] G.X.env = (false, eval a G.X.env) :: starEach [] G.X.env := by rfl) : DE G (.Call (.Name "sum" p) [a] [] pos) (fun ρ P => Fs ρ fun ds => sumLD ds P) := de_cb (cr_sum hc) serves_sumL hm (by decide +kernel) ha hg (he := he)
theorem de_max2 {p : Pos} {Fs : FA} (hc : G.X.calm = true) (hm : G.X.mg "max" = none) (ha : DA G [a, b] Fs) (hg : Gl G.X "max" := by rfl) (he : starEach [a, b] G.X.env = (false, eval a G.X.env) :: starEach [b] G.X.env := by rfl) (hpl : (backTo pos (starEach [b] G.X.env)).any (·.1) = false := by rfl) : DE G (.Call (.Name "max" p) [a, b] [] pos) (fun ρ P => Fs ρ fun ds => max2D ds P) := de_cb (call_max2 hc) serves_max2 hm (by decide +kernel) ha hg (he := he) (hpl := hpl)
theorem de_int1 {p : Pos} {Fs : FA} (hm : G.X.mg "int" = none) (ha : DA G [a] Fs) (hg : Gl G.X "int" := by rfl) (he : starEach [a] G.X.env = (false, eval a G.X.env) :: starEach [] G.X.env := by rfl) : DE G (.Call (.Name "int" p) [a] [] pos) (fun ρ P => Fs ρ fun ds => int1D ds P) := de_ct call_int1 serves_int1 hm (by decide +kernel) ha hg (he := he)
/-! ### max(l, default=d) -/
def rMaxDef (K : PySem.W.Frag) : List V → List V → Hp → VK → Prop := fun xs zs H Q => ∃ (a : Addr) (ns : List Int) (d : Int), xs = [.ref a] ∧ zs = [.int d] ∧ SqL K H a (ns.map V.int) ∧ (ns = [] → Q (.int d) H) ∧ ∀ m, m ∈ ns → (∀ y, y ∈ ns → y ≤ m) → Q (.int m) H
theorem holdInts {h : Heap} : ∀ {us : List Value} {ns : List Int}, IntsAre us ns → PySem.W.HoldAll h us ns
  | _, _, r => PySem.W.HoldAll.of_ints r
theorem maxOf_int (y : Int) (ys : List Int) : PySem.W.maxOf y ys ∈ y :: ys ∧ ∀ z, z ∈ y :: ys → z ≤ PySem.W.maxOf y ys := by
  induction ys generalizing y with
  | nil => exact ⟨List.mem_cons_self, fun z hz => by
      rcases List.mem_cons.mp hz with rfl | hz
      · exact Int.le_refl _
      · cases hz⟩
  | cons x xs ih =>
    have e : PySem.W.maxOf y (x :: xs) = PySem.W.maxOf (if PySem.W.DatumOrd.lt y x = true then x else y) xs := rfl
    rw [e]
    have hl : (PySem.W.DatumOrd.lt y x = true) ↔ y < x := by
      show (decide (y < x) = true) ↔ _
      exact decide_eq_true_iff
    by_cases c : y < x
    · rw [if_pos (hl.mpr c)]
      obtain ⟨h1, h2⟩ := ih x
      refine ⟨List.mem_cons_of_mem _ h1, fun z hz => ?_⟩
      rcases List.mem_cons.mp hz with rfl | hz
      · have := h2 x List.mem_cons_self
        omega
      · exact h2 z hz
    · rw [if_neg (fun z => c (hl.mp z))]
      obtain ⟨h1, h2⟩ := ih y
      refine ⟨?_, fun z hz => ?_⟩
      · rcases List.mem_cons.mp h1 with h1 | h1
        · rw [h1]; exact List.mem_cons_self
        · exact List.mem_cons_of_mem _ (List.mem_cons_of_mem _ h1)
      · rcases List.mem_cons.mp hz with rfl | hz
        · exact h2 _ List.mem_cons_self
        · rcases List.mem_cons.mp hz with rfl | hz
          · have := h2 y List.mem_cons_self
            omega
          · exact h2 z (List.mem_cons_of_mem _ hz)
theorem relInt {h : Heap} {v : Value} {m : Int} {ns : List Int} {us : List Value} {i : Nat} (r : IntsAre us ns) (e : us.toArray[i]? = some v) (hh : PySem.W.Holds h v m) : RelV (.int m) v := by
  obtain ⟨n, hn, hx⟩ := PySem.W.HoldAll.at (h := h) (holdInts r) (i := i) (v := v) (by simpa using e)
  have hv : ∃ k t, v = .int k t := by
    clear hx hn hh
    have e' : us[i]? = some v := by simpa using e
    clear e
    induction r generalizing i with
    | nil => simp at e'
    | cons n t r' ih =>
      cases i with
      | zero =>
        simp at e'
        exact ⟨_, _, e'.symm⟩
      | succ i => exact ih (by simpa using e')
  obtain ⟨k, t, rfl⟩ := hv
  obtain ⟨as, hr⟩ := hh
  cases hr
  exact ⟨_, rfl⟩
theorem call_maxDef {X : Cx} (hc : X.calm = true) (hu : X.A.units + 1 < cLine) : CallRK X (.builtin "max") [("default" : Str)] (rMaxDef X.K) := by
  intro pins s σ H xs zs us ws Q I r1 r2 h
  obtain ⟨a, ns, d, rfl, rfl, hs, h0, hm⟩ := h
  obtain ⟨its, rv, hl, _⟩ := I.list hs
  rw [Vals.ref1 r1]
  obtain ⟨w, rfl, t, rfl⟩ := vals1 r2
  refine PySem.W.max_list_datum_default (α := Int) (xs := ns) (d := .int d t) (I.ok.hd hc) hl.isList (holdInts rv.ints) (by show X.A.units + 1 + 0 < cLine; omega) (fun e h' tk k => ⟨.int d, H, I.kept k, ⟨_, rfl⟩, h0 e⟩) fun y ys i v h' tk e hv hh k => ?_
  have q := maxOf_int y ys
  rw [← e] at q
  exact ⟨.int (PySem.W.maxOf y ys), H, I.kept k, relInt rv.ints hv hh, hm _ q.1 q.2⟩
def maxDefD (x y : Dat) (P : Dat → Prop) : Prop := intsD x fun ns => isI y fun d => (ns = [] → P (.int d)) ∧ ∀ m, m ∈ ns → (∀ y, y ∈ ns → y ≤ m) → P (.int m)
theorem de_maxDef {p kp : Pos} (hc : G.X.calm = true) (hu : G.X.A.units + 1 < cLine) (hm : G.X.mg "max" = none) (ha : DE G a Fa) (hb : DE G b Fb) (hg : Gl G.X "max" := by rfl) (hst : starEach [a] G.X.env = (false, eval a G.X.env) :: starEach [] G.X.env := by rfl)
    (he : backTo pos (starEach [a] G.X.env) = (false, eval a G.X.env) :: backTo pos (starEach [] G.X.env) := by rfl) (hpl : (backTo pos (starEach [a] G.X.env)).any (·.1) = false := by rfl)
    (hall : (backToKw pos (keywordEach [⟨some ("default" : Str), b, kp⟩] G.X.env)).all (·.1.isSome) = true := by rfl) (hnone : (backToKw pos (keywordEach [⟨some ("default" : Str), b, kp⟩] G.X.env)).any (·.1.isNone) = false := by rfl) (hks : (backToKw pos (keywordEach [⟨some ("default" : Str), b, kp⟩] G.X.env)).filterMap (·.1) = [("default" : Str)] := by rfl) :
    DE G (.Call (.Name "max" p) [a] [⟨some ("default" : Str), b, kp⟩] pos) (fun ρ P => Fa ρ fun x => Fb ρ fun y => maxDefD x y P) := by
  obtain ⟨t1, h1, l1⟩ := ha.ex
  obtain ⟨t2, h2, l2⟩ := hb.ex
  refine ⟨⟨_, pe_callBK (call_maxDef hc hu) hg hm (by decide +kernel) (pa_cons h1 pa_nil hst) (pk_cons h2 pk_nil) (by decide) (by decide) he hpl hall hnone hks, fun S σ H ρ P Q g h q => ?_⟩⟩
  refine l1 S σ H ρ _ _ g h fun v d H1 st hv hp => ?_
  have g1 := g.step st
  refine l2 S σ H1 ρ _ _ g1 hp fun v2 d2 H2 st2 hv2 hp => ?_
  obtain ⟨ns, rfl, hq⟩ := intsD_inv hp
  obtain ⟨z, rfl, hz⟩ := isI_inv hq
  cases dv_int hv2
  obtain ⟨p', xs, rfl, n, e, hl⟩ := dv_lst (st2.dv g1 hv)
  cases hl.ints
  exact ⟨p', ns, z, rfl, rfl, .inl (.inl e), fun e => q _ (.int z) H2 (st.trans st2) rfl (hz.1 e), fun m h1 h2 => q _ (.int m) H2 (st.trans st2) rfl (hz.2 m h1 h2)⟩
/-! ### x in a list, of whatever can be compared -/
def rInM (K : PySem.W.Frag) (neg : Bool) : R2 := fun x y H Q => ∃ d ds, Dp K H x d ∧ Dp K H y (.list ds) ∧ d.canLay0 = true ∧ (PyData.list ds).canLay0 = true ∧ min (PyData.depthAll ds) d.depth ≤ 60 ∧ Q (.bl (if neg then !ds.any fun z => PyData.eqv z d else ds.any fun z => PyData.eqv z d)) H
theorem op_inM {X : Cx} (hu : X.A.units + 65 < cLine) : OpR X (compareOp .In) (rInM X.K false) := by
  intro pins s σ H x y v u Q I rx ry h
  obtain ⟨d, ds, hd, he, sd, se, hm, q⟩ := h
  obtain ⟨as, r1⟩ := Dp.reads I d x v hd rx
  obtain ⟨bs, r2⟩ := Dp.reads I (.list ds) y u he ry
  exact SeqAt.in_list_reads r2 r1 se sd (by omega) ⟨.bl _, H, I, rfl, q⟩
theorem op_notInM {X : Cx} (hu : X.A.units + 65 < cLine) : OpR X (compareOp .NotIn) (rInM X.K true) := by
  intro pins s σ H x y v u Q I rx ry h
  obtain ⟨d, ds, hd, he, sd, se, hm, q⟩ := h
  obtain ⟨as, r1⟩ := Dp.reads I d x v hd rx
  obtain ⟨bs, r2⟩ := Dp.reads I (.list ds) y u he ry
  exact SeqAt.notIn_list_reads r2 r1 se sd (by omega) ⟨.bl _, H, I, rfl, q⟩
def inDD (neg : Bool) : R2D := fun x y P => match y with
  | .lst ds => (toP x).canLay0 = true ∧ (toP (.lst ds)).canLay0 = true ∧ min (PyData.depthAll (toPs ds)) (toP x).depth ≤ 60 ∧ P (.bl (if neg then !((toPs ds).any fun z => PyData.eqv z (toP x)) else ((toPs ds).any fun z => PyData.eqv z (toP x))))
  | _ => False
theorem serves_inDD {neg : Bool} : Serves G (rInM G.X.K neg) (inDD neg) := by
  intro S σ ρ H x y dx dy P Q g hx hy h q
  cases dy with
  | lst ds =>
    obtain ⟨s1, s2, s3, h⟩ := h
    exact ⟨toP dx, toPs ds, dp_of dx x hx s1, dp_of (.lst ds) y hy s2, s1, s2, s3, q _ (.bl _) H (Stp.refl g.wld) rfl h⟩
  | _ => exact h.elim
theorem dt_ninDD (hu : G.X.A.units + 65 < cLine) (ha : DE G a Fa) (hb : DE G b Fb) (hm : behindInMarks .NotIn b = false := by rfl) : DT G (.Compare a [.NotIn] [b] pos) (fun ρ P => Fa ρ fun x => Fb ρ fun y => inDD true x y fun z => isB z P) := dt_cmp (op_notInM hu) serves_inDD ha hb hm
theorem dt_inDD (hu : G.X.A.units + 65 < cLine) (ha : DE G a Fa) (hb : DE G b Fb) (hm : behindInMarks .In b = false := by rfl) : DT G (.Compare a [.In] [b] pos) (fun ρ P => Fa ρ fun x => Fb ρ fun y => inDD false x y fun z => isB z P) := dt_cmp (op_inM hu) serves_inDD ha hb hm
/-! ### d.get(key, other) -/
theorem de_get2 {Fo Fe Ff : FE} {o e f : Expr} {apos cpos : Pos} (hu : G.X.A.units + 1 < cLine) (ho : DE G o Fo) (he : DE G e Fe) (hf : DE G f Ff) (m : M2 G.X o "get" apos e f cpos := by exact ⟨rfl, rfl, rfl, rfl⟩) :
    DE G (.Call (.Attribute o "get" apos) [e, f] [] cpos) (fun ρ P => Fo ρ fun x => dicD x fun ks ds => Fe ρ fun y => isS y fun z => Ff ρ fun w => P ((getK ks ds (.inr z)).getD w)) := by
  obtain ⟨t1, h1, l1⟩ := ho.ex
  obtain ⟨t2, h2, l2⟩ := he.ex
  obtain ⟨t3, h3, l3⟩ := hf.ex
  refine ⟨⟨_, pe_dget2 hu h1 h2 h3 m, fun S σ H ρ P Q g h q => ?_⟩⟩
  refine l1 S σ H ρ _ _ g h fun v d H1 st hv hp => ?_
  have g1 := g.step st
  cases d with
  | dic ks ds =>
    obtain ⟨p, kvs, rfl, n, e1, ek, hl⟩ := dv_dic hv
    refine ⟨p, rfl, .inl ⟨kvs, .inl e1⟩, l2 S σ H1 ρ _ _ g1 hp fun v2 d2 H2 st2 hv2 hp => ?_⟩
    obtain ⟨z, rfl, hp'⟩ := isS_inv hp
    clear hp
    cases dv_str hv2
    have g2 := g1.step st2
    refine l3 S σ H2 ρ _ _ g2 hp' fun v3 d3 H3 st3 hv3 hp3 => ?_
    obtain ⟨p', kvs, ep, n, e1, ek, hl⟩ := dv_dic (st3.dv g2 (st2.dv g1 hv))
    cases ep
    have hp2 : P ((getK ks ds (.inr z)).getD d3) := hp3
    cases hk : getK ks ds (.inr z) with
    | none =>
      rw [hk] at hp2
      refine ⟨none, ?_, q v3 d3 H3 ((st.trans st2).trans st3) hv3 hp2⟩
      rw [← dkey_none ek hl hk]
      exact DGet.k (k := Sum.inr z) e1
    | some d =>
      rw [hk] at hp2
      obtain ⟨w, ew, hw⟩ := dkey ek hl hk
      refine ⟨some w, ?_, q w d H3 ((st.trans st2).trans st3) hw hp2⟩
      rw [← ew]
      exact DGet.k (k := Sum.inr z) e1
  | _ => exact hp.elim
end
end DL
namespace DL
open PySem PySem.Spec PyProof.Rows L2
/-! ### a list of numbers as a state -/
def listSta (a : Addr) : Sta (List Int) where
  fp := fun b => b = a
  M := fun r H => H a = some (.lst (r.map V.int)) ∧ r.length ≤ 1000
  loc := fun r H H' h q _ => ⟨q a _ rfl h.1, h.2⟩
  noc := fun r H h b φ e z => by rw [e, h.1] at z; cases z
  dom := fun r H h b e => by rw [e]; exact ⟨_, h.1⟩
section
variable {ι κ : Type} {G : Fam ι} {S S' : Addr → Prop} {σ : L2.St} {H H' H2 : Hp} {ρ : List Slot} {i j k : ι} {pos : Pos} {a b c e : Expr} {es rest : List Expr} {Fa Fb : FR ι} {st : Stmt} {sts : List Stmt}
/-- room[k] -/
theorem dr_cell {π : ι → List Int} {u : ι → List Int → ι} {x : Str} {p : Pos} {z} {ra : Addr} {kk : Nat} (gs : GS G (listSta ra) π u) (n : Nat) (hN : G.X.N[n]? = some x := by rfl) (hv : Vis G.X.env.scope x := by first | exact Or.inl rfl | exact Or.inr (Or.inl rfl) | exact Or.inr (Or.inr rfl)) (hd : (x == ("__debug__" : Str)) = false := by decide)
    (hcd : (x == ("__classdict__" : Str)) = false := by decide) {pc : Pos} (hs : PlainIx (Expr.Constant (.int (kk : Nat)) z pc) := by exact fun _ _ => rfl) : DR G (.Subscript (.Name x p) (.Constant (.int (kk : Nat)) z pc) pos) (fun ρ i P => rdRaw ρ n fun v => v = .ref ra ∧ ∃ y, (π i)[kk]? = some y ∧ P (.int y) i) := by
  refine ⟨⟨_, pe_ix ix_list (pe_var hN hv hd hcd) pe_int hs, fun S σ H ρ i P Q g h q => ?_⟩⟩
  obtain ⟨v, e, rfl, y, ey, h⟩ := rdRaw_inv h
  have m := gs.get i H g.wld
  refine ⟨.ref ra, g.slot_raw e, ra, (π i).map V.int, (kk : Nat), .int y, rfl, rfl, .inl (.inl m.1), ?_, q (.int y) (.int y) H i (.refl g.wld) rfl h⟩
  exact atI_nat (by rw [List.getElem?_map, ey]; rfl)
/-- room[k] = e -/
theorem dsr_cellSet {π : ι → List Int} {u : ι → List Int → ι} {x : Str} {np sp pc : Pos} {z} {ra : Addr} {kk : Nat} (gs : GS G (listSta ra) π u) (n : Nat) (he : DR G e Fa) (hN : G.X.N[n]? = some x := by rfl) (hv : Vis G.X.env.scope x := by first | exact Or.inl rfl | exact Or.inr (Or.inl rfl) | exact Or.inr (Or.inr rfl)) (hd : (x == ("__debug__" : Str)) = false := by decide)
    (hcd : (x == ("__classdict__" : Str)) = false := by decide) (hs : swapsWithSole [.Subscript (.Name x np) (.Constant (.int (kk : Nat)) z pc) sp] e pos.line G.X.env = pure false := by rfl) (hw : swappedStores [.Subscript (.Name x np) (.Constant (.int (kk : Nat)) z pc) sp] e G.X.env = pure none := by rfl)
    (h1 : (assignEach [.Subscript (.Name x np) (.Constant (.int (kk : Nat)) z pc) sp] G.X.env).map (·.2) = [assign (.Subscript (.Name x np) (.Constant (.int (kk : Nat)) z pc) sp) G.X.env] := by rfl)
    (hw2 : ∀ y, assign (.Subscript (.Name x np) (.Constant (.int (kk : Nat)) z pc) sp) G.X.env y = (do let u ← holding [y] (eval (.Name x np) G.X.env); let k ← holding [y, u] (eval (.Constant (.int (kk : Nat)) z pc) G.X.env); standAt sp; holding [y, u, k] (setItem u k y); release [y, u, k] []) := by intro _; rfl) :
    DSR G (.Assign [.Subscript (.Name x np) (.Constant (.int (kk : Nat)) z pc) sp] e pos) (fun D ρ i => Fa ρ i fun d j => isI d fun r => rdRaw ρ n fun v => v = .ref ra ∧ kk < (π j).length ∧ D.nx ρ (u j ((π j).set kk r))) := by
  obtain ⟨t, h, l⟩ := he.ex
  refine ⟨⟨_, ps_asg h (pg_sub (pe_var hN hv hd hcd) pe_int set_list hw2) hs hw h1, fun S σ H ρ i D Dh g hf q => ?_⟩⟩
  refine l S σ H ρ i _ _ g hf fun v d H1 j s1 hv' hp => ?_
  obtain ⟨r, rfl, hp⟩ := isI_inv hp
  cases dv_int hv'
  obtain ⟨v, e, rfl, hk, hp⟩ := rdRaw_inv hp
  have g1 := g.stepI s1
  have m := gs.get j H1 g1.wld
  have s2 : StpI G (u j ((π j).set kk r)) H1 (upd H1 ra (.lst (((π j).set kk r).map V.int))) := gs.stp g1.wld (fun a o n q => by rw [upd_ne (show a ≠ ra from n)]; exact q) ⟨upd_same, by rw [List.length_set]; exact m.2⟩
  have hl := m.2
  refine ⟨.ref ra, g1.slot_raw e, ra, (π j).map V.int, (kk : Nat), kk, rfl, rfl, m.1, ?_, ?_⟩
  · rw [List.length_map]
    exact Evl.ixN_nat hk
  · rw [show ((π j).map V.int).set kk (.int r) = ((π j).set kk r).map V.int by rw [List.map_set]]
    exact q.nx S σ _ ρ (u j ((π j).set kk r)) (g1.stepI s2) (Fr.trans (s1.fr g) (s2.fr g1)) hp
/-! ### arguments of which the last one is a new list of two numbers -/
def LiftSlG {ι : Type} (G : Fam ι) (t : TA) (F : List Slot → ι → (List Slot → List Int → ι → Prop) → Prop) : Prop := ∀ S σ H ρ i P (Q : List V → Hp → Prop), Gd (G.at i) S σ H ρ → F ρ i P →
  (∀ vs sl Hb j p r, StpI G j H Hb → Hb p = none → r.length ≤ 1000 → SlL G.X.K (fun a => S a ∨ a = p) (upd Hb p (.lst (r.map V.int))) sl vs → P sl r j → Q (vs ++ [.ref p]) (upd Hb p (.lst (r.map V.int)))) → t σ H Q
structure DSlG {ι : Type} (G : Fam ι) (es : List Expr) (F : List Slot → ι → (List Slot → List Int → ι → Prop) → Prop) : Prop where
  ex : ∃ t, PA G.X es t ∧ LiftSlG G t F
theorem dslG_two {lp : Pos} (ha : DR G a Fa) (hb : DR G b Fb) (hs : starEach [.List [a, b] lp] G.X.env = (false, eval (.List [a, b] lp) G.X.env) :: starEach [] G.X.env := by rfl) (hs2 : starEach [a, b] G.X.env = (false, eval a G.X.env) :: starEach [b] G.X.env := by rfl) (hs3 : starEach [b] G.X.env = (false, eval b G.X.env) :: starEach [] G.X.env := by rfl) : DSlG G [.List [a, b] lp] (fun ρ i P => Fa ρ i fun d j => isI d fun r => Fb ρ j fun d2 k => isI d2 fun r2 => P [] [r, r2] k) := by
  obtain ⟨t, h1, l1⟩ := ha.ex
  obtain ⟨t2, h2, l2⟩ := hb.ex
  refine ⟨⟨_, pa_cons (pe_lst (pa_cons h1 (pa_cons h2 pa_nil hs3) hs2)) pa_nil hs, fun S σ H ρ i P Q g h q => ?_⟩⟩
  refine l1 S σ H ρ i _ _ g h fun v d H1 j s1 hv hp => ?_
  obtain ⟨r, rfl, hp⟩ := isI_inv hp
  cases dv_int hv
  refine l2 S σ H1 ρ j _ _ (g.stepI s1) hp fun v d H2 k s2 hv hp => ⟨(show (2 : Nat) ≤ sizeLine by decide), fun p np => ?_⟩
  obtain ⟨r2, rfl, hp⟩ := isI_inv hp
  cases dv_int hv
  exact q [] [] H2 k p [r, r2] (s1.trans s2) np (by simp) rfl hp
theorem dslG_d {Fs : List Slot → ι → (List Slot → List Int → ι → Prop) → Prop} (ha : DR G e Fa) (hr : DSlG G es Fs) (hs : starEach (e :: es) G.X.env = (false, eval e G.X.env) :: starEach es G.X.env := by rfl) :
    DSlG G (e :: es) (fun ρ i P => Fa ρ i fun x j => Fs ρ j fun xs r k => P (.d x :: xs) r k) := by
  obtain ⟨t, h1, l1⟩ := ha.ex
  obtain ⟨u, h2, l2⟩ := hr.ex
  refine ⟨⟨_, pa_cons h1 h2 hs, fun S σ H ρ i P Q g h q => ?_⟩⟩
  refine l1 S σ H ρ i _ _ g h fun v d H1 j s1 hv h' => ?_
  have g1 := g.stepI s1
  refine l2 S σ H1 ρ j _ _ g1 h' fun vs sl Hb k p r s2 np hl hvs hp => ?_
  exact q (v :: vs) (.d d :: sl) Hb k p r (s1.trans s2) np hl ⟨v, vs, rfl, Dv.move (fr_new s2 g1 np) d v hv, hvs⟩ hp
theorem dslG_raw {x : Str} {p : Pos} {Fs : List Slot → ι → (List Slot → List Int → ι → Prop) → Prop} (n : Nat) (hr : DSlG G es Fs) (hN : G.X.N[n]? = some x := by rfl) (hv : Vis G.X.env.scope x := by first | exact Or.inl rfl | exact Or.inr (Or.inl rfl) | exact Or.inr (Or.inr rfl)) (hd : (x == ("__debug__" : Str)) = false := by decide)
    (hcd : (x == ("__classdict__" : Str)) = false := by decide) (hs : starEach (Expr.Name x p :: es) G.X.env = (false, eval (.Name x p) G.X.env) :: starEach es G.X.env := by rfl) :
    DSlG G (.Name x p :: es) (fun ρ i P => rdRaw ρ n fun w => Fs ρ i fun xs r k => P (.raw w :: xs) r k) := by
  obtain ⟨u, h2, l2⟩ := hr.ex
  refine ⟨⟨_, pa_cons (pe_var hN hv hd hcd) h2 hs, fun S σ H ρ i P Q g h q => ?_⟩⟩
  obtain ⟨w, e, h⟩ := rdRaw_inv h
  exact ⟨w, g.slot_raw e, l2 S σ H ρ i _ _ g h fun vs sl Hb k p r s2 np hl hvs hp => q (w :: vs) (.raw w :: sl) Hb k p r s2 np hl ⟨w, vs, rfl, rfl, hvs⟩ hp⟩
theorem dr_fnSL {st : Sta κ} {π : ι → κ} {u : ι → κ → ι} {x : Str} {k m : Nat} {ps : List Str} {C : ConS (κ × List Int)} {p : Pos} {Fs : List Slot → ι → (List Slot → List Int → ι → Prop) → Prop} (gs : GS G st π u) (h : CalleeS G.X.prog G.X.w G.X.K G.X.mg G.X.base x k ps C) (hr : Room m G.X.A) (ha : DSlG G (e :: es) Fs) (hk : k ≤ m := by decide) (hg : Gl G.X x := by rfl) (hdb : (x == ("__debug__" : Str)) = false := by decide)
    (he : starEach (e :: es) G.X.env = (false, eval e G.X.env) :: starEach es G.X.env := by rfl) (hpl : (backTo pos (starEach es G.X.env)).any (·.1) = false := by rfl) :
    DR G (.Call (.Name x p) (e :: es) [] pos) (fun ρ i P => Fs ρ i fun sl r j => ∀ ra, ¬ st.fp ra → C.C (staAnd st (listSta ra)) (π j, r) (sl ++ [.raw (.ref ra)]) fun d j' => P d (u j j'.1)) := by
  obtain ⟨f, fd, F, hm, hkp, hb⟩ := h.ex
  obtain ⟨t, h, l⟩ := ha.ex
  refine ⟨⟨_, pe_call F (hr.mono hk) hg hm hkp hb .nil pass0 h hdb he hpl, fun S σ H ρ i P Q g h q => ?_⟩⟩
  refine l S σ H ρ i _ _ g h fun vs sl Hb j p r s1 np hl hv hp => ?_
  rw [List.append_nil]
  have g1 := g.stepI s1
  have nfp : ¬ st.fp p := fun z => by
    obtain ⟨o, e⟩ := st.dom (π j) Hb (gs.get j Hb g1.wld) p z
    rw [np] at e; cases e
  have m1 : st.M (π j) (upd Hb p (.lst (r.map V.int))) := st.loc _ Hb _ (gs.get j Hb g1.wld) (fun a o z e => by rw [upd_ne (fun y => nfp (by rw [← y]; exact z))]; exact e) (keepX_upd fun φ z => by rw [np] at z; cases z)
  refine ⟨fun a => S a ∨ a = p, staAnd st (listSta p), (π j, r), sl ++ [.raw (.ref p)], fun a z => ?_, fun a z => ?_, ⟨m1, upd_same, hl⟩, hv.snoc (s := .raw (.ref p)) rfl, C.mono _ _ _ _ _ (hp p nfp) fun d j' hp v H2 e m hd => ?_⟩
  · by_cases y : a = p
    · exact ⟨_, by rw [y]; exact upd_same⟩
    · obtain ⟨o, e⟩ := g1.all a (z.resolve_right y)
      exact ⟨o, by rw [upd_ne y]; exact e⟩
  · exact z.imp (fun z => g1.sub a (gs.sub a z)) id
  · have ex : ExF st.fp Hb H2 := fun a o n q => e a o (fun z => z.elim n (ne_of_none q np)) (by rw [upd_ne (ne_of_none q np)]; exact q)
    exact q v d H2 (u j j'.1) (s1.trans (gs.stp g1.wld ex m.1)) (hd.move fun a o n e => ⟨fun z => n (.inl z), e⟩) hp
/-- a call of a def that asks nothing of the state, its arguments of the state -/
theorem dr_fnD {x : Str} {k m : Nat} {ps : List Str} {C : Con} {p : Pos} {Fs : FAR ι} (h : Callee G.X.prog G.X.w G.X.K G.X.mg G.X.base x k ps C) (hr : Room m G.X.A) (ha : DAR G (e :: es) Fs) (hk : k ≤ m := by decide) (hg : Gl G.X x := by rfl) (hdb : (x == ("__debug__" : Str)) = false := by decide)
    (he : starEach (e :: es) G.X.env = (false, eval e G.X.env) :: starEach es G.X.env := by rfl) (hpl : (backTo pos (starEach es G.X.env)).any (·.1) = false := by rfl) :
    DR G (.Call (.Name x p) (e :: es) [] pos) (fun ρ i P => Fs ρ i fun ds j => C.C ds (fun d => P d j) (fun _ => False)) := by
  obtain ⟨f, fd, F, hm, hkp, hb⟩ := h.ex
  obtain ⟨t, h, l⟩ := ha.ex
  refine ⟨⟨_, pe_call F (hr.mono hk) hg hm hkp hb .nil pass0 h hdb he hpl, fun S σ H ρ i P Q g h q => ?_⟩⟩
  refine l S σ H ρ i _ _ g h fun vs ds H1 j st hv hp => ?_
  rw [List.append_nil]
  exact spD_use (G := G.at j) (g.stepI st) hv hp fun v d H2 st2 hd hp => q v d H2 j (st.trans (StpI.of st2)) hd hp
/-! ### a state that is opened amid a def -/
abbrev famOpen (G : Fam ι) (c : Sta κ) (p : Addr) (hc : ∀ a, c.fp a ↔ a = p) : Fam (ι × κ) where
  X := G.X
  H0 := upd G.H0 p (.lst [])
  S0 := fun a => G.S0 a ∨ a = p
  W := fun i H => G.W i.1 H ∧ c.M i.2 H
  clo := fun i H H' h k x => ⟨G.clo i.1 H H' h.1 (fun a o o0 e0 e => by
      by_cases y : a = p
      · exact k a o (.lst []) (by rw [y]; exact upd_same) e
      · exact k a o o0 (by rw [upd_ne y]; exact e0) e) x, c.loc i.2 H H' h.2 (fun a o z e => k a o (.lst []) (by rw [(hc a).mp z]; exact upd_same) e) x⟩
  top := fun i H h a o e => by
    by_cases y : a = p
    · exact c.dom i.2 H h.2 a ((hc a).mpr y)
    · rw [upd_ne y] at e
      exact G.top i.1 H h.1 a o e
  s0 := fun a z => by
    by_cases y : a = p
    · exact ⟨_, by rw [y]; exact upd_same⟩
    · obtain ⟨o, e⟩ := G.s0 a (z.resolve_right y)
      exact ⟨o, by rw [upd_ne y]; exact e⟩
theorem gs_open {μ : Type} {st : Sta μ} {π : ι → μ} {u : ι → μ → ι} {c : Sta κ} {p : Addr} {hc : ∀ a, c.fp a ↔ a = p} (gs : GS G st π u) (hp : G.H0 p = none) (nf : ¬ st.fp p) : GS (famOpen G c p hc) (staAnd st c) (fun i => (π i.1, i.2)) (fun i j => (u i.1 j.1, j.2)) where
  sub := fun a z => z.elim (fun z => .inl (gs.sub a z)) (fun z => .inr ((hc a).mp z))
  get := fun i H h => ⟨gs.get i.1 H h.1, h.2⟩
  put := fun i j H H' h ex m => by
    refine ⟨?_, m.2⟩
    obtain ⟨o, eo⟩ := c.dom i.2 H h.2 p ((hc p).mpr rfl)
    have nx : ∀ φ, H p ≠ some (.ext φ) := fun φ => c.noc i.2 H h.2 p φ ((hc p).mpr rfl)
    have nx' : ∀ φ, H' p ≠ some (.ext φ) := fun φ => c.noc j.2 H' m.2 p φ ((hc p).mpr rfl)
    have w1 : G.W (u i.1 j.1) (upd H' p o) := by
      refine gs.put i.1 j.1 H (upd H' p o) h.1 (fun a o' n e => ?_) (st.loc _ H' _ m.1 (fun a o' z e => by rw [upd_ne (fun y => nf (by rw [← y]; exact z))]; exact e) (keepX_upd nx'))
      by_cases y : a = p
      · rw [y] at e ⊢
        rw [upd_same, ← eo, e]
      · rw [upd_ne y]
        exact ex a o' (fun z => z.elim n fun z => y ((hc a).mp z)) e
    refine G.clo _ _ H' w1 (fun a o' o0 e0 e => ?_) (fun a φ e => ?_)
    · have y : a ≠ p := fun y => by rw [y, hp] at e0; cases e0
      rw [upd_ne y] at e
      exact e
    · by_cases y : a = p
      · rw [y, upd_same] at e
        rw [← eo] at e
        exact absurd e (nx φ)
      · rw [upd_ne y] at e
        exact e
theorem gs_openFst {μ : Type} {st : Sta μ} {π : ι → μ} {u : ι → μ → ι} {c : Sta κ} {p : Addr} {hc : ∀ a, c.fp a ↔ a = p} (gs : GS G st π u) (hp : G.H0 p = none) (nf : ¬ st.fp p) : GS (famOpen G c p hc) st (fun i => π i.1) (fun i j => (u i.1 j, i.2)) :=
  (gs_open (hc := hc) gs hp nf).subS (sub_fst fun a ha z => nf (by rw [← (hc a).mp ha]; exact z))
theorem dtr_ge (ha : DR G a Fa) (hb : DR G b Fb) : DTR G (.Compare a [.GtE] [b] pos) (fun ρ i P => Fa ρ i fun x j => Fb ρ j fun y k => int0 (fun i j => .bl (decide (j ≤ i))) x y fun z => isB z fun z => P z k) := dtr_cmp op_ge (fun i => serves_B0) ha hb
theorem gd_open {c : Sta κ} {p : Addr} {hc : ∀ a, c.fp a ↔ a = p} {r : κ} {o : HO} (g : Gd (G.at j) S σ H ρ) (np : H p = none) (nx : ∀ φ, o ≠ .ext φ) (m : c.M r (upd H p o)) : Gd ((famOpen G c p hc).at (j, r)) (fun a => S a ∨ a = p) σ (upd H p o) ρ := by
  obtain ⟨g1, fr⟩ := g.grow (o := o) np
  refine ⟨⟨g1.wld, m⟩, g1.all, fun a z => z.elim (fun z => g1.sub a z) (fun z => .inr z), g1.len, fun i s hs => ?_, g1.apart⟩
  have q := g1.slots i s hs
  have np0 : ∀ a, G.H0 a = none → a ≠ p → (upd G.H0 p (.lst []) : Hp) a = none := fun a e y => by rw [upd_ne y]; exact e
  cases s with
  | own ds =>
    cases ev : σ[i]?.join with
    | none => rw [ev] at q; exact q.elim
    | some v =>
      rw [ev] at q
      obtain ⟨a, xs, rfl, h1, h2, h3, h4⟩ := q
      have := g.slots i (.own ds) hs
      rw [ev] at this
      obtain ⟨a', xs', e', _, _, h3', _⟩ := this
      cases e'
      exact ⟨a, xs, rfl, h1, np0 a h2 (ne_of_none h3' np), h3, h4⟩
  | ownp pp ds =>
    cases ev : σ[i]?.join with
    | none => rw [ev] at q; exact q.elim
    | some v =>
      rw [ev] at q
      obtain ⟨a, xs, ⟨rfl, epp⟩, h1, h2, h3, h4⟩ := q
      have := g.slots i (.ownp pp ds) hs
      rw [ev] at this
      obtain ⟨a', xs', ⟨e', _⟩, _, _, h3', _⟩ := this
      cases e'
      exact ⟨a, xs, ⟨rfl, epp⟩, h1, np0 a h2 (ne_of_none h3' np), h3, h4⟩
  | ownd ks ds =>
    cases ev : σ[i]?.join with
    | none => rw [ev] at q; exact q.elim
    | some v =>
      rw [ev] at q
      obtain ⟨a, xs, rfl, h1, h2, h3, h4⟩ := q
      have := g.slots i (.ownd ks ds) hs
      rw [ev] at this
      obtain ⟨a', xs', e', _, _, h3', _⟩ := this
      cases e'
      exact ⟨a, xs, rfl, h1, np0 a h2 (ne_of_none h3' np), h3, h4⟩
  | ownt ks ds =>
    cases ev : σ[i]?.join with
    | none => rw [ev] at q; exact q.elim
    | some v =>
      rw [ev] at q
      obtain ⟨a, xs, rfl, h1, h2, h3, h4⟩ := q
      have := g.slots i (.ownt ks ds) hs
      rw [ev] at this
      obtain ⟨a', xs', e', _, _, h3', _⟩ := this
      cases e'
      exact ⟨a, xs, rfl, h1, np0 a h2 (ne_of_none h3' np), h3, h4⟩
  | _ => cases ev : σ[i]?.join <;> rw [ev] at q <;> first | exact q | exact q.elim
theorem gd_shut {c : Sta κ} {p : Addr} {hc : ∀ a, c.fp a ↔ a = p} {i : ι × κ} (g : Gd ((famOpen G c p hc).at i) S σ H ρ) : Gd (G.at i.1) S σ H ρ := by
  refine ⟨g.wld.1, g.all, fun a z => g.sub a (.inl z), g.len, fun n s hs => ?_, g.apart⟩
  have q := g.slots n s hs
  have back : ∀ a, (upd G.H0 p (.lst []) : Hp) a = none → G.H0 a = none := fun a e => by
    by_cases y : a = p
    · rw [y, upd_same] at e; cases e
    · rw [upd_ne y] at e; exact e
  cases s with
  | own ds =>
    cases ev : σ[n]?.join with
    | none => rw [ev] at q; exact q.elim
    | some v =>
      rw [ev] at q
      obtain ⟨a, xs, rfl, h1, h2, h3, h4⟩ := q
      exact ⟨a, xs, rfl, h1, back a h2, h3, h4⟩
  | ownp pp ds =>
    cases ev : σ[n]?.join with
    | none => rw [ev] at q; exact q.elim
    | some v =>
      rw [ev] at q
      obtain ⟨a, xs, ⟨rfl, epp⟩, h1, h2, h3, h4⟩ := q
      exact ⟨a, xs, ⟨rfl, epp⟩, h1, back a h2, h3, h4⟩
  | ownd ks ds =>
    cases ev : σ[n]?.join with
    | none => rw [ev] at q; exact q.elim
    | some v =>
      rw [ev] at q
      obtain ⟨a, xs, rfl, h1, h2, h3, h4⟩ := q
      exact ⟨a, xs, rfl, h1, back a h2, h3, h4⟩
  | ownt ks ds =>
    cases ev : σ[n]?.join with
    | none => rw [ev] at q; exact q.elim
    | some v =>
      rw [ev] at q
      obtain ⟨a, xs, rfl, h1, h2, h3, h4⟩ := q
      exact ⟨a, xs, rfl, h1, back a h2, h3, h4⟩
  | _ => cases ev : σ[n]?.join <;> rw [ev] at q <;> first | exact q | exact q.elim
theorem Gd.setRaw {G : Ctx} (g : Gd G S σ H ρ) {n : Nat} {v : V} : Gd G S (σ.set n (some v)) H (ρ.set n (.raw v)) := by
  refine ⟨g.wld, g.all, g.sub, by rw [List.length_set, List.length_set]; exact g.len, fun i s hs => ?_, fun i j si sj u h1 h2 o1 o2 e1 e2 => ?_⟩
  · rw [getset] at hs ⊢
    by_cases y : i = n
    · rw [if_pos y] at hs ⊢
      by_cases l : n < ρ.length
      · rw [if_pos l] at hs
        rw [if_pos (by rw [g.len]; exact l)]
        cases hs
        exact (rfl : v = v)
      · rw [if_neg l] at hs; cases hs
    · rw [if_neg y] at hs ⊢
      exact g.slots i s hs
  · rw [getset] at h1 h2 e1 e2
    by_cases y : i = n
    · rw [if_pos y] at h1
      split at h1
      · cases h1; cases o1
      · cases h1
    · by_cases y2 : j = n
      · rw [if_pos y2] at h2
        split at h2
        · cases h2; cases o2
        · cases h2
      · rw [if_neg y] at h1 e1
        rw [if_neg y2] at h2 e2
        exact g.apart i j si sj u h1 h2 o1 o2 e1 e2
/-- x, y = e, [number]; the rest, in which y's list is a state -/
theorem dbr_parOpen {x y : Str} {px py pt lp : Pos} {kt k2 pt2} {Frest : Addr → FSR (ι × Int)} (n m : Nat) (ha : DR G a Fa) (hb : DR G b Fb) (hrest : ∀ p (hp0 : G.H0 p = none) (nf : ∀ (μ : Type) (s : Sta μ) (π : ι → μ) (u : ι → μ → ι), GS G s π u → ¬ s.fp p), DBR (famOpen G (roomSta p) p fun _ => Iff.rfl) sts (Frest p)) (hN : G.X.N.Nodup) (hc : G.X.calm = true := by rfl) (hi : G.X.N[n]? = some x := by rfl) (hj : G.X.N[m]? = some y := by rfl) (hij : n ≠ m := by decide)
    (hx : G.X.env.scope.names.lookup x = some .local := by rfl) (hy : G.X.env.scope.names.lookup y = some .local := by rfl)
    (hw : swappedStores [.Tuple [.Name x px, .Name y py] kt pt] (.Tuple [a, .List [b] lp] k2 pt2) G.X.env = pure (some [x, y]) := by rfl)
    (hs : swapsWithSole [.Tuple [.Name x px, .Name y py] kt pt] (.Tuple [a, .List [b] lp] k2 pt2) pos.line G.X.env = pure false := by rfl)
    (hst : starEach [a, .List [b] lp] G.X.env = (false, eval a G.X.env) :: starEach [.List [b] lp] G.X.env := by rfl) (hst2 : starEach [.List [b] lp] G.X.env = (false, eval (.List [b] lp) G.X.env) :: starEach [] G.X.env := by rfl) (hst3 : starEach [b] G.X.env = (false, eval b G.X.env) :: starEach [] G.X.env := by rfl) :
    DBR G (.Assign [.Tuple [.Name x px, .Name y py] kt pt] (.Tuple [a, .List [b] lp] k2 pt2) pos :: sts) (fun D ρ i => Fa ρ i fun d j => Fb ρ j fun d2 k => isI d2 fun r => ∀ p, G.H0 p = none → (∀ (μ : Type) (s : Sta μ) (π : ι → μ) (u : ι → μ → ι), GS G s π u → ¬ s.fp p) →
      Frest p { nx := fun ρ z => D.nx ρ z.1, rt := fun d z => D.rt d z.1, bk := fun ρ z => D.bk ρ z.1, ct := fun ρ z => D.ct ρ z.1 } ((ρ.set n (.d d)).set m (.raw (.ref p))) (k, r)) := by
  obtain ⟨t, h, l⟩ := ha.ex
  obtain ⟨t2, h2, l2⟩ := hb.ex
  refine ⟨⟨_, pss_cons (ps_par hc hN hi hj hij hx hy (pa_cons h (pa_cons (pe_lst (pa_cons h2 pa_nil hst3)) pa_nil hst2) hst) hw hs) pss_any, fun S σ H ρ i D Dh g h q => ?_⟩⟩
  refine l S σ H ρ i _ _ g h fun v d H1 j s1 hv hp => ?_
  have g1 := g.stepI s1
  refine l2 S σ H1 ρ j _ _ g1 hp fun v2 d2 H2 k s2 hv2 hp => ⟨(show (1 : Nat) ≤ sizeLine by decide), fun p np => ?_⟩
  obtain ⟨r, rfl, hp⟩ := isI_inv hp
  cases dv_int hv2
  have g2 := g1.stepI s2
  have hp0 : G.H0 p = none := g2.fresh0 np
  have nf : ∀ (μ : Type) (s : Sta μ) (π : ι → μ) (u : ι → μ → ι), GS G s π u → ¬ s.fp p := fun μ s π u gs z => by
    obtain ⟨o, e⟩ := s.dom (π k) H2 (gs.get k H2 g2.wld) p z
    rw [np] at e; cases e
  have hr := hp p hp0 nf
  obtain ⟨t3, h3, l3⟩ := (hrest p hp0 nf).ex
  refine ⟨v, .ref p, rfl, t3, h3, ?_⟩
  have gn : Gd (G.at k) S (σ.set n (some v)) H2 (ρ.set n (.d d)) := g2.set (s2.dv g1 hv)
  have go : Gd ((famOpen G (roomSta p) p fun _ => Iff.rfl).at (k, r)) (fun a => S a ∨ a = p) (σ.set n (some v)) (upd H2 p (.lst [.int r])) (ρ.set n (.d d)) := gd_open gn np (fun φ z => by cases z) upd_same
  have fr : Fr S H (fun a => S a ∨ a = p) (upd H2 p (.lst [.int r])) := Fr.trans (s1.fr g) (fr_new s2 g1 np)
  refine l3 _ _ _ _ (k, r) _ _ go.setRaw hr ⟨fun S' σ' H' ρ' z g' fr' hn => q.nx S' σ' H' ρ' z.1 (gd_shut g') (Fr.trans fr fr') hn, fun v' d' H' z hw hd hz => q.rt v' d' H' z.1 hw.1 (hd.move fun a o n e => ⟨fun y => n (.inl y), e⟩) hz,
    fun S' σ' H' ρ' z g' fr' hn => q.bk S' σ' H' ρ' z.1 (gd_shut g') (Fr.trans fr fr') hn, fun S' σ' H' ρ' z g' fr' hn => q.ct S' σ' H' ρ' z.1 (gd_shut g') (Fr.trans fr fr') hn⟩
end
/-! ### what asks for no state, with one of its own -/
def staNil : Sta Unit where
  fp := fun _ => False
  M := fun _ _ => True
  loc := fun _ _ _ _ _ _ => trivial
  noc := fun _ _ _ _ _ h => h.elim
  dom := fun _ _ _ _ h => h.elim
abbrev famOf (G : Ctx) : Fam Unit where
  X := G.X
  H0 := G.H0
  S0 := G.S0
  W := fun _ => G.W
  clo := fun _ => G.clo
  top := fun _ => G.top
  s0 := G.s0
theorem gs_nil {G : Ctx} : GS (famOf G) staNil (fun _ => ()) (fun _ _ => ()) where
  sub := fun _ h => h.elim
  get := fun _ _ _ => trivial
  put := fun _ _ H H' h ex _ => G.clo H H' h (fun a o o0 _ e => ex a o (fun z => z) e) (fun a φ e => ex a _ (fun z => z) e)
theorem gd_of {G : Ctx} {S : Addr → Prop} {σ : L2.St} {H : Hp} {ρ : List Slot} (g : Gd G S σ H ρ) : Gd ((famOf G).at ()) S σ H ρ := ⟨g.wld, g.all, g.sub, g.len, g.slots, g.apart⟩
theorem de_ofR {G : Ctx} {e : Expr} {F : FR Unit} (h : DR (famOf G) e F) : DE G e (fun ρ P => F ρ () fun d _ => P d) := by
  obtain ⟨t, h, l⟩ := h.ex
  exact ⟨⟨t, h, fun S σ H ρ P Q g h q => l S σ H ρ () _ _ (gd_of g) h fun v d H' j s hv hp => q v d H' ⟨s.wld, s.keep, s.has⟩ hv hp⟩⟩
theorem dr_ofE {G : Ctx} {e : Expr} {F : FE} (h : DE G e F) : DR (famOf G) e (fun ρ _ P => F ρ fun d => P d ()) := by
  obtain ⟨t, h, l⟩ := h.ex
  exact ⟨⟨t, h, fun S σ H ρ i P Q g h q => l S σ H ρ _ _ ⟨g.wld, g.all, g.sub, g.len, g.slots, g.apart⟩ h fun v d H' s hv hp => q v d H' () ⟨s.wld, s.keep, s.has⟩ hv hp⟩⟩
end DL
namespace K01
open PySem PySem.Spec PyProof.Rows L2 DL
theorem rdRaw_here {ρ : List DL.Slot} {n : Nat} {v : V} {P : V → Prop} (e : ρ[n]? = some (.raw v)) (h : P v) : rdRaw ρ n P := by unfold rdRaw; rw [e]; exact h
theorem draw_use {st : Sta Nat} {n : Nat} {v : V} {top : Int} {P : Dat → Nat → Prop} (hd : IsDraw st v) (h0 : 0 < top) (h1 : top < 1000000000) (hn : n < manyDraws) (h : ∀ x : Int, 0 ≤ x → x < top → P (.int x) (n + 1)) : conDraw.C st n [.raw v, .d (.int top)] P := ⟨v, top, hd, rfl, h0, h1, hn, h⟩
/-- numbers not too great, and no great many of them -/
def SmT (d : Dat) : Prop := SmV d ∧ shortT d
/-- a number in lowest terms, of few bits -/
def NumOk (d : Dat) : Prop := fracB d = true ∧ (ratN d).natAbs ≤ 10 ^ 20 ∧ (ratD d).natAbs ≤ 10 ^ 20
theorem num_smR {d : Dat} (h : NumOk d) : smR d := by
  have e : (10 : Nat) ^ 20 < 2 ^ 240 := by decide
  exact ⟨Nat.lt_of_le_of_lt h.2.1 e, Nat.lt_of_le_of_lt h.2.2 e⟩
theorem num_smT {d : Dat} (h : NumOk d) : SmT d := by
  have r := num_smR h
  obtain ⟨a, b, rfl, _⟩ := frac_inv h.1
  refine ⟨smV_tup.mpr fun x hx => ?_, show 2 ≤ 10000 by decide⟩
  simp only [List.mem_cons, List.not_mem_nil, or_false] at hx
  rcases hx with rfl | rfl
  · exact r.1
  · exact r.2
def rk (z : Str) (deep : Nat) : Nat := if z = "tree" then deep else if z = "set" then 1 else 0
def wc (z : Str) (deep : Nat) : Nat := if z = "tree" then 10 * 3 ^ deep else if z = "set" then 10 else 2
def WorthOk (z : Str) (d : Dat) : Prop := SmT d ∧ (z = "num" → NumOk d)
def conWorth (N : Nat) : ConS Nat := ⟨fun st n sl P => ∃ (v : V) (z : Str) (deep : Nat), IsDraw st v ∧ sl = [.raw v, .d (.str z), .d (.int (deep : Nat))] ∧ z ∈ sorts ∧ 1 ≤ deep ∧ rk z deep < N ∧ n + wc z deep < manyDraws ∧ ∀ (d : Dat) (j : Nat), WorthOk z d → j ≤ n + wc z deep → P d j,
  fun _ _ _ _ _ ⟨v, z, deep, h0, e, h1, h2, h3, h4, h⟩ m => ⟨v, z, deep, h0, e, h1, h2, h3, h4, fun x j a b => m _ _ (h x j a b)⟩⟩
theorem ixL_use {ds : List Dat} {x : Int} {P : Dat → Prop} (h0 : 0 ≤ x) (h1 : x < (ds.length : Nat)) (h : ∀ d ∈ ds, P d) : ixD (.lst ds) (.int x) P := by
  have hl : x.toNat < ds.length := by omega
  rw [ixD_lst]
  have e : atI ds ((x.toNat : Nat) : Int) = some ds[x.toNat] := atI_nat (List.getElem?_eq_getElem hl)
  rw [Int.toNat_of_nonneg h0] at e
  rw [e, someD_some]
  exact h _ (List.getElem_mem hl)
theorem sm_small {i : Int} (h : i.natAbs < 2 ^ 200) : SmT (.int i) := ⟨sml_of h, trivial⟩
theorem low_num {h l : Int} (hh : h.natAbs ≤ 10 ^ 20) (hl : 0 < l) (hl2 : l.natAbs ≤ 10 ^ 20) : NumOk (lowF h l) := by
  refine ⟨low_frac hl, ?_, ?_⟩
  · show (h / (Nat.gcd h.natAbs l.natAbs : Nat)).natAbs ≤ 10 ^ 20
    have g0 : 0 < Nat.gcd h.natAbs l.natAbs := Nat.gcd_pos_of_pos_right _ (by omega)
    exact Nat.le_trans (Int.natAbs_ediv_le_natAbs _ _) hh
  · show (l / (Nat.gcd h.natAbs l.natAbs : Nat)).natAbs ≤ 10 ^ 20
    exact Nat.le_trans (Int.natAbs_ediv_le_natAbs _ _) hl2
section
variable {P : Program} {w : World} {K : PySem.W.Frag} {mg : Str → Option Value} {base : Heap} {f f2 : Addr} {fd fd2 : FuncData} {k : Nat}
abbrev s__law_worth : Stmt := topS 32
theorem sc__law_worth : FnScope ["m", "kind", "deep", "k"] ["m", "kind", "deep"] (defScope s__law_worth) := ⟨rfl, rfl, rfl, by decide +kernel, rfl, by decide +kernel, by decide +kernel⟩
-- calls ['_law_draw', '_law_risen', '_law_worth', '_law_lowest'] consts []
theorem ok_law_worth {N : Nat} (B : Bt mg) (F__law_draw : CalleeS P w K mg base "_law_draw" k ["m", "top"] conDraw) (F__law_worth : CalleeS P w K mg base "_law_worth" k ["m", "kind", "deep"] (conWorth N)) (F__law_lowest : Callee P w K mg base "_law_lowest" k ["high", "low"] c_lowest) (F__law_risen : Callee P w K mg base "_law_risen" k ["some"] c_risen) (F : Fun K "_law_worth" "_law_worth" s__law_worth f fd) : FnOk P w K mg base CX0 (k + 1) f fd ["m", "kind", "deep"] (spS K (conWorth (N + 1))) := by
  refine fn_pureS F sc__law_worth (fun st i sl P ⟨v, _, _, _, e, _⟩ => by rw [e]; rfl) fun cdv A outer s H S hS st i0 h0 hf hr sl R hc => ?_
  have nd := sc__law_worth.nd
  have gs := gs_self (P := P) (w := w) (K := K) (mg := mg) (base := base) (N := ["m", "kind", "deep", "k"]) (qual := "_law_worth") (sc := defScope s__law_worth) (f := f) (cdv := cdv) (A := A) (outer := outer) (s := s) (hS := hS) (h0 := h0) hf
  refine ⟨_, (dbr_cons (dsr_if (dtr_of fun i => (dt_eq hr.units (de_var 1) de_str)) (dbr_one (dsr_ret (dr_ix (dr_of fun i => (de_lst (da_cons de_int (da_cons de_int (da_cons de_int (da_cons (de_pow de_int de_int) da_nil)))))) (dr_fnS gs F__law_draw hr (dsl_raw 0 (dsl_d (dr_of fun i => de_int) dsl_nil)) (by omega))))) dbr_nil) (dbr_cons (dsr_if (dtr_of fun i => (dt_eq hr.units (de_var 1) de_str)) (dbr_one (dsr_ret (dr_fnS gs F__law_draw hr (dsl_raw 0 (dsl_d (dr_of fun i => de_int) dsl_nil)) (by omega)))) dbr_nil) (dbr_cons (dsr_if (dtr_of fun i => (dt_eq hr.units (de_var 1) de_str)) (dbr_one (dsr_ret (dr_fnD F__law_risen hr (dar_cons (dr_lc 3 (x := "k") rfl nd (dir_range B.range (dar_cons (dr_fnS gs F__law_draw hr (dsl_raw 0 (dsl_d (dr_of fun i => de_int) dsl_nil)) (by omega)) dar_nil)) (blkOk_by (own := [("k", 3)]) (N := ["m", "kind", "deep", "k"]) (sc := defScope s__law_worth) (by decide +kernel)) (fun _ _ _ _ _ => pg_name (i := 3) nd rfl (Or.inl rfl)) (fun _ _ _ _ _ => (dr_fnS (gs_blk gs) F__law_worth hr (dsl_raw 0 (dsl_d (dr_of fun i => de_str) (dsl_d (dr_of fun i => de_int) dsl_nil))) (by omega)))) dar_nil) (by omega)))) dbr_nil) (dbr_cons (dsr_if (dtr_of fun i => (dt_eq hr.units (de_var 1) de_str)) (dbr_one (dsr_ret (dr_fnD F__law_lowest hr (dar_cons (dr_sub (dr_fnS gs F__law_draw hr (dsl_raw 0 (dsl_d (dr_of fun i => de_int) dsl_nil)) (by omega)) (dr_of fun i => de_int)) (dar_cons (dr_ix (dr_of fun i => (de_lst (da_cons de_int (da_cons de_int (da_cons de_int (da_cons de_int (da_cons de_int (da_cons (de_pow de_int de_int) da_nil)))))))) (dr_fnS gs F__law_draw hr (dsl_raw 0 (dsl_d (dr_of fun i => de_int) dsl_nil)) (by omega))) dar_nil)) (by omega)))) dbr_nil) (dbr_cons (dsr_if (dtr_w (dwr_or (dtr_of fun i => (dt_lt (de_var 2) de_int)) (dwr_or1 (dtr_eq hr.units (dr_fnS gs F__law_draw hr (dsl_raw 0 (dsl_d (dr_of fun i => de_int) dsl_nil)) (by omega)) (dr_of fun i => de_int))))) (dbr_one (dsr_ret (dr_tup (dar_cons (dr_of fun i => de_str) (dar_cons (dr_fnS gs F__law_worth hr (dsl_raw 0 (dsl_d (dr_of fun i => de_str) (dsl_d (dr_of fun i => de_int) dsl_nil))) (by omega)) dar_nil))))) dbr_nil) (dbr_one (dsr_ret (dr_tup (dar_cons (dr_of fun i => de_str) (dar_cons (dr_fnS gs F__law_worth hr (dsl_raw 0 (dsl_d (dr_of fun i => de_str) (dsl_d (dr_of fun i => (de_sub (de_var 2) de_int)) dsl_nil))) (by omega)) (dar_cons (dr_fnS gs F__law_worth hr (dsl_raw 0 (dsl_d (dr_of fun i => de_str) (dsl_d (dr_of fun i => (de_sub (de_var 2) de_int)) dsl_nil))) (by omega)) dar_nil))))))))))), ?_⟩
  obtain ⟨v, z, deep, hd, rfl, hz, hdp, hrk, hn, h⟩ := hc
  refine ⟨fun b j => j = i0 ∧ b = decide (z = "thing"), ?_, fun j hp => ?_, fun j hp => ?_⟩
  · repeat (first | refine rd_here rfl ?_ | refine ownL_here rfl ?_ | rw [isI_int] | rw [addD_int] | rw [int0_int] | rw [someD_some] | refine rdRaw_here rfl ?_ | rw [isB_bl] | rw [eqD_str] | rw [eqD_int] | refine And.intro (show CPow _ _ from ⟨by decide, by decide, by decide⟩) ?_ | refine And.intro (show 2 ≤ sizeLine by decide) ?_ | refine And.intro (show 1 ≤ sizeLine by decide) ?_ | refine And.intro (show 3 ≤ sizeLine by decide) ?_ | refine And.intro (show 4 ≤ sizeLine by decide) ?_ | refine And.intro (show 5 ≤ sizeLine by decide) ?_ | refine And.intro (show 6 ≤ sizeLine by decide) ?_ | dsimp only)
    exact ⟨rfl, rfl⟩
  · obtain ⟨rfl, e0⟩ := hp
    obtain rfl : z = "thing" := of_decide_eq_true e0.symm
    rw [show wc "thing" deep = 2 from rfl] at *
    repeat (first | refine rd_here rfl ?_ | refine ownL_here rfl ?_ | rw [isI_int] | rw [addD_int] | rw [int0_int] | rw [someD_some] | refine rdRaw_here rfl ?_ | rw [isB_bl] | rw [eqD_str] | rw [eqD_int] | refine And.intro (show CPow _ _ from ⟨by decide, by decide, by decide⟩) ?_ | refine And.intro (show 2 ≤ sizeLine by decide) ?_ | refine And.intro (show 1 ≤ sizeLine by decide) ?_ | refine And.intro (show 3 ≤ sizeLine by decide) ?_ | refine And.intro (show 4 ≤ sizeLine by decide) ?_ | refine And.intro (show 5 ≤ sizeLine by decide) ?_ | refine And.intro (show 6 ≤ sizeLine by decide) ?_ | dsimp only)
    refine draw_use hd (by decide) (by decide) (by omega) fun x hx0 hx1 => ?_
    repeat (first | refine rd_here rfl ?_ | refine ownL_here rfl ?_ | rw [isI_int] | rw [addD_int] | rw [int0_int] | rw [someD_some] | refine rdRaw_here rfl ?_ | rw [isB_bl] | rw [eqD_str] | rw [eqD_int] | refine And.intro (show CPow _ _ from ⟨by decide, by decide, by decide⟩) ?_ | refine And.intro (show 2 ≤ sizeLine by decide) ?_ | refine And.intro (show 1 ≤ sizeLine by decide) ?_ | refine And.intro (show 3 ≤ sizeLine by decide) ?_ | refine And.intro (show 4 ≤ sizeLine by decide) ?_ | refine And.intro (show 5 ≤ sizeLine by decide) ?_ | refine And.intro (show 6 ≤ sizeLine by decide) ?_ | dsimp only)
    refine ixL_use hx0 hx1 fun y hy => h y _ ⟨?_, (fun e => nomatch e)⟩ (by omega)
    simp only [List.mem_cons, List.not_mem_nil, or_false] at hy
    rcases hy with rfl | rfl | rfl | rfl
    all_goals exact sm_small (by decide)
  obtain ⟨rfl, e1⟩ := hp
  have n1 : ¬ z = "thing" := of_decide_eq_false e1.symm
  refine ⟨fun b j2 => j2 = j ∧ b = decide (z = "bits"), ?_, fun j2 hp => ?_, fun j2 hp => ?_⟩
  · repeat (first | refine rd_here rfl ?_ | refine ownL_here rfl ?_ | rw [isI_int] | rw [addD_int] | rw [int0_int] | rw [someD_some] | refine rdRaw_here rfl ?_ | rw [isB_bl] | rw [eqD_str] | rw [eqD_int] | refine And.intro (show CPow _ _ from ⟨by decide, by decide, by decide⟩) ?_ | refine And.intro (show 2 ≤ sizeLine by decide) ?_ | refine And.intro (show 1 ≤ sizeLine by decide) ?_ | refine And.intro (show 3 ≤ sizeLine by decide) ?_ | refine And.intro (show 4 ≤ sizeLine by decide) ?_ | refine And.intro (show 5 ≤ sizeLine by decide) ?_ | refine And.intro (show 6 ≤ sizeLine by decide) ?_ | dsimp only)
    exact ⟨rfl, rfl⟩
  · obtain ⟨rfl, e0⟩ := hp
    obtain rfl : z = "bits" := of_decide_eq_true e0.symm
    rw [show wc "bits" deep = 2 from rfl] at *
    repeat (first | refine rd_here rfl ?_ | refine ownL_here rfl ?_ | rw [isI_int] | rw [addD_int] | rw [int0_int] | rw [someD_some] | refine rdRaw_here rfl ?_ | rw [isB_bl] | rw [eqD_str] | rw [eqD_int] | refine And.intro (show CPow _ _ from ⟨by decide, by decide, by decide⟩) ?_ | refine And.intro (show 2 ≤ sizeLine by decide) ?_ | refine And.intro (show 1 ≤ sizeLine by decide) ?_ | refine And.intro (show 3 ≤ sizeLine by decide) ?_ | refine And.intro (show 4 ≤ sizeLine by decide) ?_ | refine And.intro (show 5 ≤ sizeLine by decide) ?_ | refine And.intro (show 6 ≤ sizeLine by decide) ?_ | dsimp only)
    refine draw_use hd (by decide) (by decide) (by omega) fun x hx0 hx1 => ?_
    exact h _ _ ⟨sm_small (Nat.lt_of_lt_of_le (show x.natAbs < 16 by omega) (by decide)), (fun e => nomatch e)⟩ (by omega)
  obtain ⟨rfl, e2⟩ := hp
  have n2 : ¬ z = "bits" := of_decide_eq_false e2.symm
  refine ⟨fun b j3 => j3 = j2 ∧ b = decide (z = "set"), ?_, fun j3 hp => ?_, fun j3 hp => ?_⟩
  · repeat (first | refine rd_here rfl ?_ | refine ownL_here rfl ?_ | rw [isI_int] | rw [addD_int] | rw [int0_int] | rw [someD_some] | refine rdRaw_here rfl ?_ | rw [isB_bl] | rw [eqD_str] | rw [eqD_int] | refine And.intro (show CPow _ _ from ⟨by decide, by decide, by decide⟩) ?_ | refine And.intro (show 2 ≤ sizeLine by decide) ?_ | refine And.intro (show 1 ≤ sizeLine by decide) ?_ | refine And.intro (show 3 ≤ sizeLine by decide) ?_ | refine And.intro (show 4 ≤ sizeLine by decide) ?_ | refine And.intro (show 5 ≤ sizeLine by decide) ?_ | refine And.intro (show 6 ≤ sizeLine by decide) ?_ | dsimp only)
    exact ⟨rfl, rfl⟩
  · obtain ⟨rfl, e3⟩ := hp
    obtain rfl : z = "set" := of_decide_eq_true e3.symm
    rw [show wc "set" deep = 10 from rfl] at *
    rw [show rk "set" deep = 1 from rfl] at hrk
    repeat (first | refine rd_here rfl ?_ | refine ownL_here rfl ?_ | rw [isI_int] | rw [addD_int] | rw [int0_int] | rw [someD_some] | refine rdRaw_here rfl ?_ | rw [isB_bl] | rw [eqD_str] | rw [eqD_int] | refine And.intro (show CPow _ _ from ⟨by decide, by decide, by decide⟩) ?_ | refine And.intro (show 2 ≤ sizeLine by decide) ?_ | refine And.intro (show 1 ≤ sizeLine by decide) ?_ | refine And.intro (show 3 ≤ sizeLine by decide) ?_ | refine And.intro (show 4 ≤ sizeLine by decide) ?_ | refine And.intro (show 5 ≤ sizeLine by decide) ?_ | refine And.intro (show 6 ≤ sizeLine by decide) ?_ | dsimp only)
    refine ⟨fun items acc j => j ≤ j3 + 1 + 2 * acc.length ∧ acc.length + items.length ≤ 3 ∧ ∀ d ∈ acc, NumOk d, ?_, ?_, ?_⟩
    · repeat (first | refine rd_here rfl ?_ | refine ownL_here rfl ?_ | rw [isI_int] | rw [addD_int] | rw [int0_int] | rw [someD_some] | refine rdRaw_here rfl ?_ | rw [isB_bl] | rw [eqD_str] | rw [eqD_int] | refine And.intro (show CPow _ _ from ⟨by decide, by decide, by decide⟩) ?_ | refine And.intro (show 2 ≤ sizeLine by decide) ?_ | refine And.intro (show 1 ≤ sizeLine by decide) ?_ | refine And.intro (show 3 ≤ sizeLine by decide) ?_ | refine And.intro (show 4 ≤ sizeLine by decide) ?_ | refine And.intro (show 5 ≤ sizeLine by decide) ?_ | refine And.intro (show 6 ≤ sizeLine by decide) ?_ | dsimp only)
      refine draw_use hd (by decide) (by decide) (by omega) fun x hx0 hx1 => ?_
      refine ⟨⟨by omega, by omega⟩, by simp, by simp [rints]; omega, fun d hd => (List.not_mem_nil hd).elim⟩
    · rintro acc j ⟨hj, hl, hacc⟩
      simp only [List.length_nil] at hl
      have hf : Fr acc := fun d hd => (hacc d hd).1
      have hs : ∀ d ∈ acc, SmV d := fun d hd => (num_smT (hacc d hd)).1
      refine ⟨(false, acc), rfl, ⟨⟨hf, hs⟩, by show acc.length ≤ 10000; omega⟩, ?_⟩
      refine h _ _ ⟨⟨smV_tup.mpr fun d hd => hs d ((risF_ok hf).2.2 d hd), ?_⟩, (fun e => nomatch e)⟩ (by omega)
      have := risF_len (ds := acc)
      show (risF acc).length ≤ 10000
      omega
    · rintro d ds acc j ⟨hj, hl, hacc⟩
      simp only [List.length_cons] at hl
      repeat (first | refine rd_here rfl ?_ | refine ownL_here rfl ?_ | rw [isI_int] | rw [addD_int] | rw [int0_int] | rw [someD_some] | refine rdRaw_here rfl ?_ | rw [isB_bl] | rw [eqD_str] | rw [eqD_int] | refine And.intro (show CPow _ _ from ⟨by decide, by decide, by decide⟩) ?_ | refine And.intro (show 2 ≤ sizeLine by decide) ?_ | refine And.intro (show 1 ≤ sizeLine by decide) ?_ | refine And.intro (show 3 ≤ sizeLine by decide) ?_ | refine And.intro (show 4 ≤ sizeLine by decide) ?_ | refine And.intro (show 5 ≤ sizeLine by decide) ?_ | refine And.intro (show 6 ≤ sizeLine by decide) ?_ | dsimp only)
      refine ⟨v, "num", 1, hd, rfl, by decide, by omega, show 0 < N by omega, show j + 2 < manyDraws by omega, fun x j2 hx hj2 => ?_⟩
      replace hj2 : j2 ≤ j + 2 := hj2
      refine ⟨by have := line_big; omega, by simp; omega, by simp; omega, fun y hy => ?_⟩
      rcases List.mem_append.mp hy with hy | hy
      · exact hacc y hy
      · rw [List.mem_singleton.mp hy]
        exact hx.2 rfl
  obtain ⟨rfl, e3⟩ := hp
  have n3 : ¬ z = "set" := of_decide_eq_false e3.symm
  refine ⟨fun b j4 => j4 = j3 ∧ b = decide (z = "num"), ?_, fun j4 hp => ?_, fun j4 hp => ?_⟩
  · repeat (first | refine rd_here rfl ?_ | refine ownL_here rfl ?_ | rw [isI_int] | rw [addD_int] | rw [int0_int] | rw [someD_some] | refine rdRaw_here rfl ?_ | rw [isB_bl] | rw [eqD_str] | rw [eqD_int] | refine And.intro (show CPow _ _ from ⟨by decide, by decide, by decide⟩) ?_ | refine And.intro (show 2 ≤ sizeLine by decide) ?_ | refine And.intro (show 1 ≤ sizeLine by decide) ?_ | refine And.intro (show 3 ≤ sizeLine by decide) ?_ | refine And.intro (show 4 ≤ sizeLine by decide) ?_ | refine And.intro (show 5 ≤ sizeLine by decide) ?_ | refine And.intro (show 6 ≤ sizeLine by decide) ?_ | dsimp only)
    exact ⟨rfl, rfl⟩
  · obtain ⟨rfl, e4⟩ := hp
    obtain rfl : z = "num" := of_decide_eq_true e4.symm
    rw [show wc "num" deep = 2 from rfl] at *
    repeat (first | refine rd_here rfl ?_ | refine ownL_here rfl ?_ | rw [isI_int] | rw [addD_int] | rw [int0_int] | rw [someD_some] | refine rdRaw_here rfl ?_ | rw [isB_bl] | rw [eqD_str] | rw [eqD_int] | refine And.intro (show CPow _ _ from ⟨by decide, by decide, by decide⟩) ?_ | refine And.intro (show 2 ≤ sizeLine by decide) ?_ | refine And.intro (show 1 ≤ sizeLine by decide) ?_ | refine And.intro (show 3 ≤ sizeLine by decide) ?_ | refine And.intro (show 4 ≤ sizeLine by decide) ?_ | refine And.intro (show 5 ≤ sizeLine by decide) ?_ | refine And.intro (show 6 ≤ sizeLine by decide) ?_ | dsimp only)
    refine draw_use hd (by decide) (by decide) (by omega) fun x hx0 hx1 => ?_
    repeat (first | refine rd_here rfl ?_ | refine ownL_here rfl ?_ | rw [isI_int] | rw [addD_int] | rw [int0_int] | rw [someD_some] | refine rdRaw_here rfl ?_ | rw [isB_bl] | rw [eqD_str] | rw [eqD_int] | refine And.intro (show CPow _ _ from ⟨by decide, by decide, by decide⟩) ?_ | refine And.intro (show 2 ≤ sizeLine by decide) ?_ | refine And.intro (show 1 ≤ sizeLine by decide) ?_ | refine And.intro (show 3 ≤ sizeLine by decide) ?_ | refine And.intro (show 4 ≤ sizeLine by decide) ?_ | refine And.intro (show 5 ≤ sizeLine by decide) ?_ | refine And.intro (show 6 ≤ sizeLine by decide) ?_ | dsimp only)
    refine draw_use hd (by decide) (by decide) (by omega) fun y hy0 hy1 => ?_
    refine ixL_use hy0 hy1 fun u hu => ?_
    obtain ⟨l, rfl, hl, hl2⟩ : ∃ l : Int, u = .int l ∧ 0 < l ∧ l.natAbs ≤ 10 ^ 20 := by
      simp only [List.mem_cons, List.not_mem_nil, or_false] at hu
      rcases hu with rfl | rfl | rfl | rfl | rfl | rfl <;> exact ⟨_, rfl, by decide, by decide⟩
    refine ⟨(x - 4, l), rfl, ⟨hl, Nat.lt_of_le_of_lt hl2 (by decide)⟩, ?_⟩
    have hn := low_num (h := x - 4) (l := l) (Nat.le_trans (show (x - 4).natAbs ≤ 5 by omega) (by decide)) hl hl2
    exact h _ _ ⟨num_smT hn, fun _ => hn⟩ (by omega)
  obtain ⟨rfl, e4⟩ := hp
  have n4 : ¬ z = "num" := of_decide_eq_false e4.symm
  obtain rfl : z = "tree" := by
    simp only [sorts, List.mem_cons, List.not_mem_nil, or_false] at hz
    rcases hz with e | e | e | e | e
    · exact (n1 e).elim
    · exact (n4 e).elim
    · exact e
    · exact (n3 e).elim
    · exact (n2 e).elim
  obtain ⟨m, rfl⟩ : ∃ m, deep = m + 1 := ⟨deep - 1, by omega⟩
  have h3 : 1 ≤ 3 ^ m := Nat.pow_pos (by decide)
  rw [show wc "tree" (m + 1) = 10 * (3 ^ m * 3) from rfl] at *
  rw [show rk "tree" (m + 1) = m + 1 from rfl] at hrk
  dsimp only
  refine ⟨fun b j => j ≤ j4 + 1 ∧ (b = false → 1 ≤ m), ?_, fun j hp => ?_, fun j hp => ?_⟩
  · repeat (first | refine rd_here rfl ?_ | refine ownL_here rfl ?_ | rw [isI_int] | rw [addD_int] | rw [int0_int] | rw [someD_some] | refine rdRaw_here rfl ?_ | rw [isB_bl] | rw [eqD_str] | rw [eqD_int] | refine And.intro (show CPow _ _ from ⟨by decide, by decide, by decide⟩) ?_ | refine And.intro (show 2 ≤ sizeLine by decide) ?_ | refine And.intro (show 1 ≤ sizeLine by decide) ?_ | refine And.intro (show 3 ≤ sizeLine by decide) ?_ | refine And.intro (show 4 ≤ sizeLine by decide) ?_ | refine And.intro (show 5 ≤ sizeLine by decide) ?_ | refine And.intro (show 6 ≤ sizeLine by decide) ?_ | dsimp only)
    by_cases c : ((m + 1 : Nat) : Int) < 2
    · rw [if_pos (decide_eq_true c)]
      exact ⟨by omega, fun e => nomatch e⟩
    · rw [if_neg (fun z => c (of_decide_eq_true z))]
      repeat (first | refine rd_here rfl ?_ | refine ownL_here rfl ?_ | rw [isI_int] | rw [addD_int] | rw [int0_int] | rw [someD_some] | refine rdRaw_here rfl ?_ | rw [isB_bl] | rw [eqD_str] | rw [eqD_int] | refine And.intro (show CPow _ _ from ⟨by decide, by decide, by decide⟩) ?_ | refine And.intro (show 2 ≤ sizeLine by decide) ?_ | refine And.intro (show 1 ≤ sizeLine by decide) ?_ | refine And.intro (show 3 ≤ sizeLine by decide) ?_ | refine And.intro (show 4 ≤ sizeLine by decide) ?_ | refine And.intro (show 5 ≤ sizeLine by decide) ?_ | refine And.intro (show 6 ≤ sizeLine by decide) ?_ | dsimp only)
      refine draw_use hd (by decide) (by decide) (by omega) fun x hx0 hx1 => ?_
      repeat (first | refine rd_here rfl ?_ | refine ownL_here rfl ?_ | rw [isI_int] | rw [addD_int] | rw [int0_int] | rw [someD_some] | refine rdRaw_here rfl ?_ | rw [isB_bl] | rw [eqD_str] | rw [eqD_int] | refine And.intro (show CPow _ _ from ⟨by decide, by decide, by decide⟩) ?_ | refine And.intro (show 2 ≤ sizeLine by decide) ?_ | refine And.intro (show 1 ≤ sizeLine by decide) ?_ | refine And.intro (show 3 ≤ sizeLine by decide) ?_ | refine And.intro (show 4 ≤ sizeLine by decide) ?_ | refine And.intro (show 5 ≤ sizeLine by decide) ?_ | refine And.intro (show 6 ≤ sizeLine by decide) ?_ | dsimp only)
      exact ⟨by omega, fun _ => by omega⟩
  · have hj := hp.1
    repeat (first | refine rd_here rfl ?_ | refine ownL_here rfl ?_ | rw [isI_int] | rw [addD_int] | rw [int0_int] | rw [someD_some] | refine rdRaw_here rfl ?_ | rw [isB_bl] | rw [eqD_str] | rw [eqD_int] | refine And.intro (show CPow _ _ from ⟨by decide, by decide, by decide⟩) ?_ | refine And.intro (show 2 ≤ sizeLine by decide) ?_ | refine And.intro (show 1 ≤ sizeLine by decide) ?_ | refine And.intro (show 3 ≤ sizeLine by decide) ?_ | refine And.intro (show 4 ≤ sizeLine by decide) ?_ | refine And.intro (show 5 ≤ sizeLine by decide) ?_ | refine And.intro (show 6 ≤ sizeLine by decide) ?_ | dsimp only)
    refine ⟨v, "num", 1, hd, rfl, by decide, by omega, show 0 < N by omega, show j + 2 < manyDraws by omega, fun x j2 hx hj2 => ?_⟩
    replace hj2 : j2 ≤ j + 2 := hj2
    repeat (first | refine rd_here rfl ?_ | refine ownL_here rfl ?_ | rw [isI_int] | rw [addD_int] | rw [int0_int] | rw [someD_some] | refine rdRaw_here rfl ?_ | rw [isB_bl] | rw [eqD_str] | rw [eqD_int] | refine And.intro (show CPow _ _ from ⟨by decide, by decide, by decide⟩) ?_ | refine And.intro (show 2 ≤ sizeLine by decide) ?_ | refine And.intro (show 1 ≤ sizeLine by decide) ?_ | refine And.intro (show 3 ≤ sizeLine by decide) ?_ | refine And.intro (show 4 ≤ sizeLine by decide) ?_ | refine And.intro (show 5 ≤ sizeLine by decide) ?_ | refine And.intro (show 6 ≤ sizeLine by decide) ?_ | dsimp only)
    refine h _ _ ⟨⟨smV_tup.mpr fun y hy => ?_, show 2 ≤ 10000 by decide⟩, (fun e => nomatch e)⟩ (by omega)
    simp only [List.mem_cons, List.not_mem_nil, or_false] at hy
    rcases hy with rfl | rfl
    · trivial
    · exact hx.1.1
  · have hj := hp.1
    have hm := hp.2 rfl
    repeat (first | refine rd_here rfl ?_ | refine ownL_here rfl ?_ | rw [isI_int] | rw [addD_int] | rw [int0_int] | rw [someD_some] | refine rdRaw_here rfl ?_ | rw [isB_bl] | rw [eqD_str] | rw [eqD_int] | refine And.intro (show CPow _ _ from ⟨by decide, by decide, by decide⟩) ?_ | refine And.intro (show 2 ≤ sizeLine by decide) ?_ | refine And.intro (show 1 ≤ sizeLine by decide) ?_ | refine And.intro (show 3 ≤ sizeLine by decide) ?_ | refine And.intro (show 4 ≤ sizeLine by decide) ?_ | refine And.intro (show 5 ≤ sizeLine by decide) ?_ | refine And.intro (show 6 ≤ sizeLine by decide) ?_ | dsimp only)
    have hs : (((m + 1 : Nat) : Int) - 1) = ((m : Nat) : Int) := by omega
    refine ⟨v, "tree", m, hd, by rw [hs], by decide, hm, show m < N by omega, show j + 10 * 3 ^ m < manyDraws by omega, fun x j2 hx hj2 => ?_⟩
    replace hj2 : j2 ≤ j + 10 * 3 ^ m := hj2
    repeat (first | refine rd_here rfl ?_ | refine ownL_here rfl ?_ | rw [isI_int] | rw [addD_int] | rw [int0_int] | rw [someD_some] | refine rdRaw_here rfl ?_ | rw [isB_bl] | rw [eqD_str] | rw [eqD_int] | refine And.intro (show CPow _ _ from ⟨by decide, by decide, by decide⟩) ?_ | refine And.intro (show 2 ≤ sizeLine by decide) ?_ | refine And.intro (show 1 ≤ sizeLine by decide) ?_ | refine And.intro (show 3 ≤ sizeLine by decide) ?_ | refine And.intro (show 4 ≤ sizeLine by decide) ?_ | refine And.intro (show 5 ≤ sizeLine by decide) ?_ | refine And.intro (show 6 ≤ sizeLine by decide) ?_ | dsimp only)
    refine ⟨v, "tree", m, hd, by rw [hs], by decide, hm, show m < N by omega, show j2 + 10 * 3 ^ m < manyDraws by omega, fun y j3 hy hj3 => ?_⟩
    replace hj3 : j3 ≤ j2 + 10 * 3 ^ m := hj3
    repeat (first | refine rd_here rfl ?_ | refine ownL_here rfl ?_ | rw [isI_int] | rw [addD_int] | rw [int0_int] | rw [someD_some] | refine rdRaw_here rfl ?_ | rw [isB_bl] | rw [eqD_str] | rw [eqD_int] | refine And.intro (show CPow _ _ from ⟨by decide, by decide, by decide⟩) ?_ | refine And.intro (show 2 ≤ sizeLine by decide) ?_ | refine And.intro (show 1 ≤ sizeLine by decide) ?_ | refine And.intro (show 3 ≤ sizeLine by decide) ?_ | refine And.intro (show 4 ≤ sizeLine by decide) ?_ | refine And.intro (show 5 ≤ sizeLine by decide) ?_ | refine And.intro (show 6 ≤ sizeLine by decide) ?_ | dsimp only)
    refine h _ _ ⟨⟨smV_tup.mpr fun u hu => ?_, show 3 ≤ 10000 by decide⟩, (fun e => nomatch e)⟩ (by omega)
    simp only [List.mem_cons, List.not_mem_nil, or_false] at hu
    rcases hu with rfl | rfl | rfl
    · trivial
    · exact hx.1.1
    · exact hy.1.1
end
end K01
namespace K01
open PySem PySem.Spec PyProof.Rows L2 DL
theorem worth_use {st : Sta Nat} {n N : Nat} {v : V} {z : Str} {deep : Nat} {P : Dat → Nat → Prop} (hd : IsDraw st v) (hz : z ∈ sorts) (h1 : 1 ≤ deep) (h2 : rk z deep < N) (h3 : n + wc z deep < manyDraws) (h : ∀ (d : Dat) (j : Nat), WorthOk z d → j ≤ n + wc z deep → P d j) : (conWorth N).C st n [.raw v, .d (.str z), .d (.int (deep : Nat))] P := ⟨v, z, deep, hd, rfl, hz, h1, h2, h3, h⟩
theorem num_use {st : Sta Nat} {n N : Nat} {v : V} {P : Dat → Nat → Prop} (hd : IsDraw st v) (h2 : 0 < N) (h3 : n + 2 < manyDraws) (h : ∀ (d : Dat) (j : Nat), NumOk d → j ≤ n + 2 → P d j) : (conWorth N).C st n [.raw v, .d (.str "num"), .d (.int 1)] P := ⟨v, "num", 1, hd, rfl, by decide, by omega, h2, h3, fun d j a b => h d j (a.2 rfl) b⟩
theorem smT_tup {ds : List Dat} (h : ∀ d ∈ ds, SmT d) (hl : ds.length ≤ 10000) : SmT (.tup ds) := ⟨smV_tup.mpr fun d hd => (h d hd).1, hl⟩
theorem smT_lst {ds : List Dat} (h : ∀ d ∈ ds, SmT d) : SmT (.lst ds) := ⟨smV_lst.mpr fun d hd => (h d hd).1, trivial⟩
theorem smT_str {z : Str} : SmT (.str z) := ⟨trivial, trivial⟩
theorem sm_int {i : Int} (h : i.natAbs ≤ 10 ^ 40) : SmT (.int i) := sm_small (Nat.lt_of_le_of_lt h (by decide))
theorem compF_inv {Good : Dat → Prop} {j : Nat} {Fe : FE} {ρ : List DL.Slot} : ∀ {items acc : List Dat} {P : List Dat → Prop}, (∀ d ∈ items, ∀ R : Dat → Prop, (∀ y, Good y → R y) → Fe (ρ.set j (.d d)) R) → acc.length + items.length ≤ sizeLine → (∀ ys, ys.length = items.length → (∀ y ∈ ys, Good y) → P (acc ++ ys)) → compF (gNm j) (fun _ P => P true) Fe ρ items acc P
  | [], acc, P, _, _, h => by
    have := h [] rfl fun y hy => (List.not_mem_nil hy).elim
    rw [List.append_nil] at this
    exact this
  | d :: ds, acc, P, he, hl, h => by
    refine he d List.mem_cons_self _ fun y hy => ⟨by simp at hl; omega, ?_⟩
    refine compF_inv (fun x hx => he x (List.mem_cons_of_mem _ hx)) (by simp at hl ⊢; omega) fun ys hl2 hys => ?_
    have := h (y :: ys) (by simp [hl2]) fun z hz => by
      rcases List.mem_cons.mp hz with rfl | e
      · exact hy
      · exact hys z e
    simpa using this
theorem rints_mem {n : Nat} {d : Dat} (h : d ∈ rints 0 n) : ∃ k : Nat, k < n ∧ d = .int (k : Nat) := by
  obtain ⟨k, hk, rfl⟩ := List.mem_map.mp h
  exact ⟨k, List.mem_range.mp hk, by rw [Int.zero_add]⟩
theorem rints_len {n : Nat} : (rints 0 n).length = n := by simp [rints]
theorem tip_sm {d : Dat} (h : SmV d) : SmT (.tup [.str "tip", d]) := by
  refine ⟨smV_tup.mpr fun x hx => ?_, show 2 ≤ 10000 by decide⟩
  simp only [List.mem_cons, List.not_mem_nil, or_false] at hx
  rcases hx with rfl | rfl
  · trivial
  · exact h
theorem node_sm {d e : Dat} (h : SmV d) (h2 : SmV e) : SmT (.tup [.str "node", d, e]) := by
  refine ⟨smV_tup.mpr fun x hx => ?_, show 3 ≤ 10000 by decide⟩
  simp only [List.mem_cons, List.not_mem_nil, or_false] at hx
  rcases hx with rfl | rfl | rfl
  · trivial
  · exact h
  · exact h2
theorem pair_sm {i j : Int} (hi : i.natAbs ≤ 10 ^ 40) (hj : j.natAbs ≤ 10 ^ 40) : SmT (.tup [.int i, .int j]) := by
  refine ⟨smV_tup.mpr fun x hx => ?_, show 2 ≤ 10000 by decide⟩
  simp only [List.mem_cons, List.not_mem_nil, or_false] at hx
  rcases hx with rfl | rfl
  · exact (sm_int hi).1
  · exact (sm_int hj).1
theorem ixL_nat {ds : List Dat} {x : Int} {P : Dat → Prop} (h0 : 0 ≤ x) (h1 : x < (ds.length : Nat)) (h : ∀ d ∈ ds, P d) : ixD (.lst ds) (.int x) P := ixL_use h0 h1 h
def conChain : ConS Nat := ⟨fun st n sl P => ∃ (v : V) (deep : Nat), IsDraw st v ∧ sl = [.raw v, .d (.int (deep : Nat))] ∧ 7 ≤ deep ∧ deep ≤ 1000 ∧ n + 2000 < manyDraws ∧ ∀ (d : Dat) (j : Nat), SmT d → j ≤ n + 2000 → P d j,
  fun _ _ _ _ _ ⟨v, deep, h0, e, h1, h2, h3, h⟩ m => ⟨v, deep, h0, e, h1, h2, h3, fun x j a b => m _ _ (h x j a b)⟩⟩
section
variable {P : Program} {w : World} {K : PySem.W.Frag} {mg : Str → Option Value} {base : Heap} {f f2 : Addr} {fd fd2 : FuncData} {k : Nat}
abbrev s__law_chain : Stmt := topS 38
theorem sc__law_chain : FnScope ["m", "deep", "found", "k"] ["m", "deep"] (defScope s__law_chain) := ⟨rfl, rfl, rfl, by decide +kernel, rfl, by decide +kernel, by decide +kernel⟩
-- calls ['_law_worth', '_law_draw'] consts []
theorem ok_law_chain {N : Nat} (hN : 0 < N) (B : Bt mg) (F__law_draw : CalleeS P w K mg base "_law_draw" k ["m", "top"] conDraw) (F__law_worth : CalleeS P w K mg base "_law_worth" k ["m", "kind", "deep"] (conWorth N)) (F : Fun K "_law_chain" "_law_chain" s__law_chain f fd) : FnOk P w K mg base CX0 (k + 1) f fd ["m", "deep"] (spS K conChain) := by
  refine fn_pureS F sc__law_chain (fun st i sl P ⟨v, _, _, e, _⟩ => by rw [e]; rfl) fun cdv A outer s H S hS st i0 h0 hf hr sl R hc => ?_
  have nd := sc__law_chain.nd
  have gs := gs_self (P := P) (w := w) (K := K) (mg := mg) (base := base) (N := ["m", "deep", "found", "k"]) (qual := "_law_chain") (sc := defScope s__law_chain) (f := f) (cdv := cdv) (A := A) (outer := outer) (s := s) (hS := hS) (h0 := h0) hf
  refine ⟨_, (dbr_cons (dsr_set 2 (dr_tup (dar_cons (dr_of fun i => de_str) (dar_cons (dr_fnS gs F__law_worth hr (dsl_raw 0 (dsl_d (dr_of fun i => de_str) (dsl_d (dr_of fun i => de_int) dsl_nil))) (by omega)) dar_nil))) nd) (dbr_cons (dsr_forRange 3 B.range PassesOwn.never rfl (dar_cons (dr_of fun i => (de_sub (de_var 1) de_int)) dar_nil) (dbr_one (dsr_set 2 (dr_if (dtr_eq hr.units (dr_fnS gs F__law_draw hr (dsl_raw 0 (dsl_d (dr_of fun i => de_int) dsl_nil)) (by omega)) (dr_of fun i => de_int)) (dr_of fun i => (de_tup (da_cons de_str (da_cons (de_var 2) (da_cons (de_tup (da_cons de_str (da_cons (de_tup (da_cons (de_var 3) (da_cons de_int da_nil))) da_nil))) da_nil))))) (dr_of fun i => (de_tup (da_cons de_str (da_cons (de_tup (da_cons de_str (da_cons (de_tup (da_cons (de_var 3) (da_cons de_int da_nil))) da_nil))) (da_cons (de_var 2) da_nil)))))) nd)) nd) (dbr_one (dsr_ret (dr_of fun i => (de_var 2)))))), ?_⟩
  obtain ⟨v, deep, hd, rfl, h1, h2, hn, h⟩ := hc
  repeat (first | refine rd_here rfl ?_ | refine ownL_here rfl ?_ | rw [isI_int] | rw [addD_int] | rw [int0_int] | rw [someD_some] | refine rdRaw_here rfl ?_ | rw [isB_bl] | rw [eqD_str] | rw [eqD_int] | refine And.intro (show CPow _ _ from ⟨by decide, by decide, by decide⟩) ?_ | refine And.intro (show 2 ≤ sizeLine by decide) ?_ | refine And.intro (show 1 ≤ sizeLine by decide) ?_ | refine And.intro (show 3 ≤ sizeLine by decide) ?_ | refine And.intro (show 4 ≤ sizeLine by decide) ?_ | refine And.intro (show 5 ≤ sizeLine by decide) ?_ | refine And.intro (show 6 ≤ sizeLine by decide) ?_ | dsimp only)
  refine num_use hd hN (by omega) fun x j hx hj => ?_
  repeat (first | refine rd_here rfl ?_ | refine ownL_here rfl ?_ | rw [isI_int] | rw [addD_int] | rw [int0_int] | rw [someD_some] | refine rdRaw_here rfl ?_ | rw [isB_bl] | rw [eqD_str] | rw [eqD_int] | refine And.intro (show CPow _ _ from ⟨by decide, by decide, by decide⟩) ?_ | refine And.intro (show 2 ≤ sizeLine by decide) ?_ | refine And.intro (show 1 ≤ sizeLine by decide) ?_ | refine And.intro (show 3 ≤ sizeLine by decide) ?_ | refine And.intro (show 4 ≤ sizeLine by decide) ?_ | refine And.intro (show 5 ≤ sizeLine by decide) ?_ | refine And.intro (show 6 ≤ sizeLine by decide) ?_ | dsimp only)
  refine ⟨fun items ρ j2 => ∃ (d : Dat) (a : DL.Slot), ρ = [.raw v, .d (.int (deep : Nat)), .d d, a] ∧ SmT d ∧ (∀ y ∈ items, ∃ k : Nat, k < 1000 ∧ y = .int (k : Nat)) ∧ j2 + items.length ≤ i0 + 2 + deep, ?_, ?_, ?_⟩
  · repeat (first | refine rd_here rfl ?_ | refine ownL_here rfl ?_ | rw [isI_int] | rw [addD_int] | rw [int0_int] | rw [someD_some] | refine rdRaw_here rfl ?_ | rw [isB_bl] | rw [eqD_str] | rw [eqD_int] | refine And.intro (show CPow _ _ from ⟨by decide, by decide, by decide⟩) ?_ | refine And.intro (show 2 ≤ sizeLine by decide) ?_ | refine And.intro (show 1 ≤ sizeLine by decide) ?_ | refine And.intro (show 3 ≤ sizeLine by decide) ?_ | refine And.intro (show 4 ≤ sizeLine by decide) ?_ | refine And.intro (show 5 ≤ sizeLine by decide) ?_ | refine And.intro (show 6 ≤ sizeLine by decide) ?_ | dsimp only)
    refine ⟨⟨by omega, by omega⟩, _, .un, rfl, tip_sm (num_smT hx).1, fun y hy => ?_, ?_⟩
    · obtain ⟨k, hk, e⟩ := rints_mem hy
      exact ⟨k, by omega, e⟩
    · rw [rints_len]; omega
  · rintro ρ j2 ⟨d, a, rfl, hd2, _, hj2⟩
    repeat (first | refine rd_here rfl ?_ | refine ownL_here rfl ?_ | rw [isI_int] | rw [addD_int] | rw [int0_int] | rw [someD_some] | refine rdRaw_here rfl ?_ | rw [isB_bl] | rw [eqD_str] | rw [eqD_int] | refine And.intro (show CPow _ _ from ⟨by decide, by decide, by decide⟩) ?_ | refine And.intro (show 2 ≤ sizeLine by decide) ?_ | refine And.intro (show 1 ≤ sizeLine by decide) ?_ | refine And.intro (show 3 ≤ sizeLine by decide) ?_ | refine And.intro (show 4 ≤ sizeLine by decide) ?_ | refine And.intro (show 5 ≤ sizeLine by decide) ?_ | refine And.intro (show 6 ≤ sizeLine by decide) ?_ | dsimp only)
    exact h _ _ hd2 (by simp at hj2; omega)
  rintro y ys ρ j2 ⟨d, a, rfl, hd2, hy, hj2⟩
  obtain ⟨q, hq, rfl⟩ := hy y List.mem_cons_self
  rw [List.length_cons] at hj2
  have hys : ∀ z ∈ ys, ∃ k : Nat, k < 1000 ∧ z = .int (k : Nat) := fun z hz => hy z (List.mem_cons_of_mem _ hz)
  have hqt : SmV (.tup [.str "tip", .tup [.int (q : Nat), .int 1]]) := (tip_sm (pair_sm (i := (q : Nat)) (j := 1) (Nat.le_trans (show ((q : Nat) : Int).natAbs ≤ 1000 by omega) (by decide)) (by decide)).1).1
  repeat (first | refine rd_here rfl ?_ | refine ownL_here rfl ?_ | rw [isI_int] | rw [addD_int] | rw [int0_int] | rw [someD_some] | refine rdRaw_here rfl ?_ | rw [isB_bl] | rw [eqD_str] | rw [eqD_int] | refine And.intro (show CPow _ _ from ⟨by decide, by decide, by decide⟩) ?_ | refine And.intro (show 2 ≤ sizeLine by decide) ?_ | refine And.intro (show 1 ≤ sizeLine by decide) ?_ | refine And.intro (show 3 ≤ sizeLine by decide) ?_ | refine And.intro (show 4 ≤ sizeLine by decide) ?_ | refine And.intro (show 5 ≤ sizeLine by decide) ?_ | refine And.intro (show 6 ≤ sizeLine by decide) ?_ | dsimp only)
  refine draw_use hd (by decide) (by decide) (by omega) fun u hu0 hu1 => ?_
  repeat (first | refine rd_here rfl ?_ | refine ownL_here rfl ?_ | rw [isI_int] | rw [addD_int] | rw [int0_int] | rw [someD_some] | refine rdRaw_here rfl ?_ | rw [isB_bl] | rw [eqD_str] | rw [eqD_int] | refine And.intro (show CPow _ _ from ⟨by decide, by decide, by decide⟩) ?_ | refine And.intro (show 2 ≤ sizeLine by decide) ?_ | refine And.intro (show 1 ≤ sizeLine by decide) ?_ | refine And.intro (show 3 ≤ sizeLine by decide) ?_ | refine And.intro (show 4 ≤ sizeLine by decide) ?_ | refine And.intro (show 5 ≤ sizeLine by decide) ?_ | refine And.intro (show 6 ≤ sizeLine by decide) ?_ | dsimp only)
  split
  · repeat (first | refine rd_here rfl ?_ | refine ownL_here rfl ?_ | rw [isI_int] | rw [addD_int] | rw [int0_int] | rw [someD_some] | refine rdRaw_here rfl ?_ | rw [isB_bl] | rw [eqD_str] | rw [eqD_int] | refine And.intro (show CPow _ _ from ⟨by decide, by decide, by decide⟩) ?_ | refine And.intro (show 2 ≤ sizeLine by decide) ?_ | refine And.intro (show 1 ≤ sizeLine by decide) ?_ | refine And.intro (show 3 ≤ sizeLine by decide) ?_ | refine And.intro (show 4 ≤ sizeLine by decide) ?_ | refine And.intro (show 5 ≤ sizeLine by decide) ?_ | refine And.intro (show 6 ≤ sizeLine by decide) ?_ | dsimp only)
    exact ⟨_, _, rfl, node_sm hd2.1 hqt, hys, by omega⟩
  · repeat (first | refine rd_here rfl ?_ | refine ownL_here rfl ?_ | rw [isI_int] | rw [addD_int] | rw [int0_int] | rw [someD_some] | refine rdRaw_here rfl ?_ | rw [isB_bl] | rw [eqD_str] | rw [eqD_int] | refine And.intro (show CPow _ _ from ⟨by decide, by decide, by decide⟩) ?_ | refine And.intro (show 2 ≤ sizeLine by decide) ?_ | refine And.intro (show 1 ≤ sizeLine by decide) ?_ | refine And.intro (show 3 ≤ sizeLine by decide) ?_ | refine And.intro (show 4 ≤ sizeLine by decide) ?_ | refine And.intro (show 5 ≤ sizeLine by decide) ?_ | refine And.intro (show 6 ≤ sizeLine by decide) ?_ | dsimp only)
    exact ⟨_, _, rfl, node_sm hqt hd2.1, hys, by omega⟩
abbrev s__law_grown : Stmt := topS 37
theorem sc__law_grown : FnScope ["m", "leaves", "row", "k", "pairs"] ["m", "leaves"] (defScope s__law_grown) := ⟨rfl, rfl, rfl, by decide +kernel, rfl, by decide +kernel, by decide +kernel⟩
-- calls ['_law_worth'] consts []
theorem ok_law_grown {N : Nat} (hN : 0 < N) (B : Bt mg) (F__law_worth : CalleeS P w K mg base "_law_worth" k ["m", "kind", "deep"] (conWorth N)) (F : Fun K "_law_grown" "_law_grown" s__law_grown f fd) : FnOk P w K mg base CX0 (k + 1) f fd ["m", "leaves"] (spS K conChain) := by
  refine fn_pureS F sc__law_grown (fun st i sl P ⟨v, _, _, e, _⟩ => by rw [e]; rfl) fun cdv A outer s H S hS st i0 h0 hf hr sl R hc => ?_
  have nd := sc__law_grown.nd
  have gs := gs_self (P := P) (w := w) (K := K) (mg := mg) (base := base) (N := ["m", "leaves", "row", "k", "pairs"]) (qual := "_law_grown") (sc := defScope s__law_grown) (f := f) (cdv := cdv) (A := A) (outer := outer) (s := s) (hS := hS) (h0 := h0) hf
  refine ⟨_, (dbr_cons (dsr_set 2 (dr_add (dr_lc 3 (x := "k") rfl nd (dir_range B.range (dar_cons (dr_of fun i => de_int) dar_nil)) (blkOk_by (own := [("k", 3)]) (N := ["m", "leaves", "row", "k", "pairs"]) (sc := defScope s__law_grown) (by decide +kernel)) (fun _ _ _ _ _ => pg_name (i := 3) nd rfl (Or.inl rfl)) (fun _ _ _ _ _ => (dr_tup (dar_cons (dr_of fun i => de_str) (dar_cons (dr_fnS (gs_blk gs) F__law_worth hr (dsl_raw 0 (dsl_d (dr_of fun i => de_str) (dsl_d (dr_of fun i => de_int) dsl_nil))) (by omega)) dar_nil))))) (dr_of fun i => (de_repL (de_lst (da_cons (de_tup (da_cons de_str (da_cons (de_tup (da_cons de_int (da_cons de_int da_nil))) da_nil))) da_nil)) (de_sub (de_var 1) de_int)))) nd) (dbr_cons (dsr_of fun i => (ds_while PassesOwn.never (dt_gt (de_len B.len (da_cons (de_var 2) da_nil)) de_int) (db_cons (ds_setLc 4 3 (x := "k") rfl nd (sw_true rfl rfl rfl (by decide +kernel)) (di_range1 B.range (da_cons (de_fdiv (de_len B.len (da_cons (de_var 2) da_nil)) de_int) da_nil)) (blkOk_by (own := [("k", 3)]) (N := ["m", "leaves", "row", "k", "pairs"]) (sc := defScope s__law_grown) (by decide +kernel)) (fun _ _ _ _ _ => pg_name (i := 3) nd rfl (Or.inl rfl)) (fun _ _ _ _ _ => dts_nil) (fun _ _ _ _ _ => (de_tup (da_cons de_str (da_cons (de_ix (de_var 2) (de_mulI de_int (de_var 3))) (da_cons (de_ix (de_var 2) (de_add (de_mulI de_int (de_var 3)) de_int)) da_nil)))))) (db_one (ds_set 2 (de_add (de_var 4) (de_sl (de_var 2) (do_some (de_mulI de_int (de_len B.len (da_cons (de_var 4) da_nil)))) do_none)) nd))))) (dbr_one (dsr_ret (dr_of fun i => (de_ix (de_var 2) de_int)))))), ?_⟩
  obtain ⟨v, deep, hd, rfl, h1, h2, hn, h⟩ := hc
  repeat (first | refine rd_here rfl ?_ | refine ownL_here rfl ?_ | rw [isI_int] | rw [addD_int] | rw [int0_int] | rw [someD_some] | refine rdRaw_here rfl ?_ | rw [isB_bl] | rw [eqD_str] | rw [eqD_int] | refine And.intro (show CPow _ _ from ⟨by decide, by decide, by decide⟩) ?_ | refine And.intro (show 2 ≤ sizeLine by decide) ?_ | refine And.intro (show 1 ≤ sizeLine by decide) ?_ | refine And.intro (show 3 ≤ sizeLine by decide) ?_ | refine And.intro (show 4 ≤ sizeLine by decide) ?_ | refine And.intro (show 5 ≤ sizeLine by decide) ?_ | refine And.intro (show 6 ≤ sizeLine by decide) ?_ | dsimp only)
  have big := line_big
  refine ⟨fun items acc j => j ≤ i0 + 2 * acc.length ∧ acc.length + items.length = 7 ∧ ∀ d ∈ acc, SmT d, ?_, ?_, ?_⟩
  · exact ⟨⟨by omega, by omega⟩, by simp, rfl, fun d hd => (List.not_mem_nil hd).elim⟩
  · rintro acc j ⟨hj, hl, hacc⟩
    rw [List.length_nil, Nat.add_zero] at hl
    repeat (first | refine rd_here rfl ?_ | refine ownL_here rfl ?_ | rw [isI_int] | rw [addD_int] | rw [int0_int] | rw [someD_some] | refine rdRaw_here rfl ?_ | rw [isB_bl] | rw [eqD_str] | rw [eqD_int] | refine And.intro (show CPow _ _ from ⟨by decide, by decide, by decide⟩) ?_ | refine And.intro (show 2 ≤ sizeLine by decide) ?_ | refine And.intro (show 1 ≤ sizeLine by decide) ?_ | refine And.intro (show 3 ≤ sizeLine by decide) ?_ | refine And.intro (show 4 ≤ sizeLine by decide) ?_ | refine And.intro (show 5 ≤ sizeLine by decide) ?_ | refine And.intro (show 6 ≤ sizeLine by decide) ?_ | dsimp only)
    have tip1 : SmT (.tup [.str "tip", .tup [.int 0, .int 1]]) := tip_sm (pair_sm (i := 0) (j := 1) (by decide) (by decide)).1
    refine ⟨by omega, by omega, show 1 ≤ 1000 by decide, ?_⟩
    have el : (List.replicate (((deep : Nat) : Int) - 7).toNat [Dat.tup [.str "tip", .tup [.int 0, .int 1]]]).flatten.length = deep - 7 := by simp; omega
    dsimp only
    rw [addD_lst]
    refine ⟨by omega, ?_⟩
    refine ⟨fun m ρ => ∃ (row : List Dat) (a b : DL.Slot), ρ = [.raw v, .d (.int (deep : Nat)), .d (.lst row), a, b] ∧ m = row.length ∧ 1 ≤ row.length ∧ row.length ≤ 1000 ∧ ∀ d ∈ row, SmT d, ⟨_, _, _, _, rfl, rfl, ?_, ?_, fun d hd => ?_⟩, ?_⟩
    · rw [List.length_append]; omega
    · rw [List.length_append]; omega
    · rcases List.mem_append.mp hd with hd | hd
      · exact hacc d hd
      · obtain ⟨l, h1, h2⟩ := List.mem_flatten.mp hd
        rw [(List.mem_replicate.mp h1).2] at h2
        rw [List.mem_singleton.mp h2]
        exact tip1
    rintro m ρ ⟨row, a, b, rfl, rfl, hl1, hl2, hrow⟩
    refine ⟨fun c => c = decide ((1 : Int) < (row.length : Nat)), ?_, fun e => ?_, fun e => ?_⟩
    · repeat (first | refine rd_here rfl ?_ | refine ownL_here rfl ?_ | rw [isI_int] | rw [addD_int] | rw [int0_int] | rw [someD_some] | refine rdRaw_here rfl ?_ | rw [isB_bl] | rw [eqD_str] | rw [eqD_int] | refine And.intro (show CPow _ _ from ⟨by decide, by decide, by decide⟩) ?_ | refine And.intro (show 2 ≤ sizeLine by decide) ?_ | refine And.intro (show 1 ≤ sizeLine by decide) ?_ | refine And.intro (show 3 ≤ sizeLine by decide) ?_ | refine And.intro (show 4 ≤ sizeLine by decide) ?_ | refine And.intro (show 5 ≤ sizeLine by decide) ?_ | refine And.intro (show 6 ≤ sizeLine by decide) ?_ | dsimp only)
      rw [lenD_lst]
      repeat (first | refine rd_here rfl ?_ | refine ownL_here rfl ?_ | rw [isI_int] | rw [addD_int] | rw [int0_int] | rw [someD_some] | refine rdRaw_here rfl ?_ | rw [isB_bl] | rw [eqD_str] | rw [eqD_int] | refine And.intro (show CPow _ _ from ⟨by decide, by decide, by decide⟩) ?_ | refine And.intro (show 2 ≤ sizeLine by decide) ?_ | refine And.intro (show 1 ≤ sizeLine by decide) ?_ | refine And.intro (show 3 ≤ sizeLine by decide) ?_ | refine And.intro (show 4 ≤ sizeLine by decide) ?_ | refine And.intro (show 5 ≤ sizeLine by decide) ?_ | refine And.intro (show 6 ≤ sizeLine by decide) ?_ | dsimp only)
    · repeat (first | refine rd_here rfl ?_ | refine ownL_here rfl ?_ | rw [isI_int] | rw [addD_int] | rw [int0_int] | rw [someD_some] | refine rdRaw_here rfl ?_ | rw [isB_bl] | rw [eqD_str] | rw [eqD_int] | refine And.intro (show CPow _ _ from ⟨by decide, by decide, by decide⟩) ?_ | refine And.intro (show 2 ≤ sizeLine by decide) ?_ | refine And.intro (show 1 ≤ sizeLine by decide) ?_ | refine And.intro (show 3 ≤ sizeLine by decide) ?_ | refine And.intro (show 4 ≤ sizeLine by decide) ?_ | refine And.intro (show 5 ≤ sizeLine by decide) ?_ | refine And.intro (show 6 ≤ sizeLine by decide) ?_ | dsimp only)
      exact ixL_use (by omega) (by omega) fun d hd => h _ _ (hrow d hd) (by omega)
    · have h2 : 1 < row.length := by have := of_decide_eq_true e.symm; omega
      repeat (first | refine rd_here rfl ?_ | refine ownL_here rfl ?_ | rw [isI_int] | rw [addD_int] | rw [int0_int] | rw [someD_some] | refine rdRaw_here rfl ?_ | rw [isB_bl] | rw [eqD_str] | rw [eqD_int] | refine And.intro (show CPow _ _ from ⟨by decide, by decide, by decide⟩) ?_ | refine And.intro (show 2 ≤ sizeLine by decide) ?_ | refine And.intro (show 1 ≤ sizeLine by decide) ?_ | refine And.intro (show 3 ≤ sizeLine by decide) ?_ | refine And.intro (show 4 ≤ sizeLine by decide) ?_ | refine And.intro (show 5 ≤ sizeLine by decide) ?_ | refine And.intro (show 6 ≤ sizeLine by decide) ?_ | dsimp only)
      rw [lenD_lst]
      refine ⟨⟨by decide, by decide⟩, ?_⟩
      have ed : ((row.length : Nat) : Int) / 2 = ((row.length / 2 : Nat) : Int) := by omega
      dsimp only
      rw [ed]
      refine ⟨⟨by omega, by omega⟩, ?_⟩
      rw [Int.toNat_natCast]
      refine compF_inv (Good := SmT) (fun d hd R hR => ?_) (by rw [rints_len]; simp; omega) fun ys hly hys => ?_
      · obtain ⟨q, hq, rfl⟩ := rints_mem hd
        repeat (first | refine rd_here rfl ?_ | refine ownL_here rfl ?_ | rw [isI_int] | rw [addD_int] | rw [int0_int] | rw [someD_some] | refine rdRaw_here rfl ?_ | rw [isB_bl] | rw [eqD_str] | rw [eqD_int] | refine And.intro (show CPow _ _ from ⟨by decide, by decide, by decide⟩) ?_ | refine And.intro (show 2 ≤ sizeLine by decide) ?_ | refine And.intro (show 1 ≤ sizeLine by decide) ?_ | refine And.intro (show 3 ≤ sizeLine by decide) ?_ | refine And.intro (show 4 ≤ sizeLine by decide) ?_ | refine And.intro (show 5 ≤ sizeLine by decide) ?_ | refine And.intro (show 6 ≤ sizeLine by decide) ?_ | dsimp only)
        refine ⟨.inl ⟨by decide, by decide⟩, ?_⟩
        dsimp only
        refine ixL_use (by omega) (by omega) fun x hx => ?_
        repeat (first | refine rd_here rfl ?_ | refine ownL_here rfl ?_ | rw [isI_int] | rw [addD_int] | rw [int0_int] | rw [someD_some] | refine rdRaw_here rfl ?_ | rw [isB_bl] | rw [eqD_str] | rw [eqD_int] | refine And.intro (show CPow _ _ from ⟨by decide, by decide, by decide⟩) ?_ | refine And.intro (show 2 ≤ sizeLine by decide) ?_ | refine And.intro (show 1 ≤ sizeLine by decide) ?_ | refine And.intro (show 3 ≤ sizeLine by decide) ?_ | refine And.intro (show 4 ≤ sizeLine by decide) ?_ | refine And.intro (show 5 ≤ sizeLine by decide) ?_ | refine And.intro (show 6 ≤ sizeLine by decide) ?_ | dsimp only)
        refine ⟨.inl ⟨by decide, by decide⟩, ?_⟩
        repeat (first | refine rd_here rfl ?_ | refine ownL_here rfl ?_ | rw [isI_int] | rw [addD_int] | rw [int0_int] | rw [someD_some] | refine rdRaw_here rfl ?_ | rw [isB_bl] | rw [eqD_str] | rw [eqD_int] | refine And.intro (show CPow _ _ from ⟨by decide, by decide, by decide⟩) ?_ | refine And.intro (show 2 ≤ sizeLine by decide) ?_ | refine And.intro (show 1 ≤ sizeLine by decide) ?_ | refine And.intro (show 3 ≤ sizeLine by decide) ?_ | refine And.intro (show 4 ≤ sizeLine by decide) ?_ | refine And.intro (show 5 ≤ sizeLine by decide) ?_ | refine And.intro (show 6 ≤ sizeLine by decide) ?_ | dsimp only)
        refine ixL_use (by omega) (by omega) fun y hy => ?_
        repeat (first | refine rd_here rfl ?_ | refine ownL_here rfl ?_ | rw [isI_int] | rw [addD_int] | rw [int0_int] | rw [someD_some] | refine rdRaw_here rfl ?_ | rw [isB_bl] | rw [eqD_str] | rw [eqD_int] | refine And.intro (show CPow _ _ from ⟨by decide, by decide, by decide⟩) ?_ | refine And.intro (show 2 ≤ sizeLine by decide) ?_ | refine And.intro (show 1 ≤ sizeLine by decide) ?_ | refine And.intro (show 3 ≤ sizeLine by decide) ?_ | refine And.intro (show 4 ≤ sizeLine by decide) ?_ | refine And.intro (show 5 ≤ sizeLine by decide) ?_ | refine And.intro (show 6 ≤ sizeLine by decide) ?_ | dsimp only)
        exact hR _ (node_sm (hrow x hx).1 (hrow y hy).1)
      rw [rints_len] at hly
      rw [List.nil_append]
      repeat (first | refine rd_here rfl ?_ | refine ownL_here rfl ?_ | rw [isI_int] | rw [addD_int] | rw [int0_int] | rw [someD_some] | refine rdRaw_here rfl ?_ | rw [isB_bl] | rw [eqD_str] | rw [eqD_int] | refine And.intro (show CPow _ _ from ⟨by decide, by decide, by decide⟩) ?_ | refine And.intro (show 2 ≤ sizeLine by decide) ?_ | refine And.intro (show 1 ≤ sizeLine by decide) ?_ | refine And.intro (show 3 ≤ sizeLine by decide) ?_ | refine And.intro (show 4 ≤ sizeLine by decide) ?_ | refine And.intro (show 5 ≤ sizeLine by decide) ?_ | refine And.intro (show 6 ≤ sizeLine by decide) ?_ | dsimp only)
      rw [lenD_lst]
      refine ⟨.inl ⟨by decide, by decide⟩, ?_⟩
      repeat (first | refine rd_here rfl ?_ | refine ownL_here rfl ?_ | rw [isI_int] | rw [addD_int] | rw [int0_int] | rw [someD_some] | refine rdRaw_here rfl ?_ | rw [isB_bl] | rw [eqD_str] | rw [eqD_int] | refine And.intro (show CPow _ _ from ⟨by decide, by decide, by decide⟩) ?_ | refine And.intro (show 2 ≤ sizeLine by decide) ?_ | refine And.intro (show 1 ≤ sizeLine by decide) ?_ | refine And.intro (show 3 ≤ sizeLine by decide) ?_ | refine And.intro (show 4 ≤ sizeLine by decide) ?_ | refine And.intro (show 5 ≤ sizeLine by decide) ?_ | refine And.intro (show 6 ≤ sizeLine by decide) ?_ | dsimp only)
      rw [slD_lst, show (2 : Int) * ((ys.length : Nat) : Int) = ((2 * ys.length : Nat) : Int) by omega, cut_from, addD_lst]
      refine ⟨by rw [List.length_drop]; omega, _, ?_, _, _, _, rfl, rfl, ?_, ?_, fun d hd => ?_⟩
      · rw [List.length_append, List.length_drop]; omega
      · rw [List.length_append, List.length_drop]; omega
      · rw [List.length_append, List.length_drop]; omega
      · rcases List.mem_append.mp hd with hd | hd
        · exact hys d hd
        · exact hrow d (List.mem_of_mem_drop hd)
  · rintro d ds acc j ⟨hj, hl, hacc⟩
    rw [List.length_cons] at hl
    repeat (first | refine rd_here rfl ?_ | refine ownL_here rfl ?_ | rw [isI_int] | rw [addD_int] | rw [int0_int] | rw [someD_some] | refine rdRaw_here rfl ?_ | rw [isB_bl] | rw [eqD_str] | rw [eqD_int] | refine And.intro (show CPow _ _ from ⟨by decide, by decide, by decide⟩) ?_ | refine And.intro (show 2 ≤ sizeLine by decide) ?_ | refine And.intro (show 1 ≤ sizeLine by decide) ?_ | refine And.intro (show 3 ≤ sizeLine by decide) ?_ | refine And.intro (show 4 ≤ sizeLine by decide) ?_ | refine And.intro (show 5 ≤ sizeLine by decide) ?_ | refine And.intro (show 6 ≤ sizeLine by decide) ?_ | dsimp only)
    refine num_use hd hN (by omega) fun x j2 hx hj2 => ?_
    repeat (first | refine rd_here rfl ?_ | refine ownL_here rfl ?_ | rw [isI_int] | rw [addD_int] | rw [int0_int] | rw [someD_some] | refine rdRaw_here rfl ?_ | rw [isB_bl] | rw [eqD_str] | rw [eqD_int] | refine And.intro (show CPow _ _ from ⟨by decide, by decide, by decide⟩) ?_ | refine And.intro (show 2 ≤ sizeLine by decide) ?_ | refine And.intro (show 1 ≤ sizeLine by decide) ?_ | refine And.intro (show 3 ≤ sizeLine by decide) ?_ | refine And.intro (show 4 ≤ sizeLine by decide) ?_ | refine And.intro (show 5 ≤ sizeLine by decide) ?_ | refine And.intro (show 6 ≤ sizeLine by decide) ?_ | dsimp only)
    refine ⟨by omega, by simp; omega, by simp; omega, fun y hy => ?_⟩
    rcases List.mem_append.mp hy with hy | hy
    · exact hacc y hy
    · rw [List.mem_singleton.mp hy]
      exact tip_sm (num_smT hx).1
end
end K01
namespace K01
open PySem PySem.Spec PyProof.Rows L2 DL
/-- far things: no sort, no number -/
def FarOk (d : Dat) : Prop := SmT d ∧ isSort d = false
def c_far : Con := ⟨fun ds P _ => ds = [] ∧ ∀ ys : List Dat, ys.length = 12 → (∀ y ∈ ys, FarOk y) → P (.lst ys), fun _ _ _ _ _ ⟨e, h⟩ m _ => ⟨e, fun ys a b => m _ (h ys a b)⟩⟩
theorem atI_in {ds : List Dat} {x : Int} (h0 : 0 ≤ x) (h1 : x < (ds.length : Nat)) : ∃ y, atI ds x = some y ∧ y ∈ ds := by
  have hl : x.toNat < ds.length := by omega
  have e : atI ds ((x.toNat : Nat) : Int) = some ds[x.toNat] := atI_nat (List.getElem?_eq_getElem hl)
  rw [Int.toNat_of_nonneg h0] at e
  exact ⟨_, e, List.getElem_mem hl⟩
theorem atI_end {ds : List Dat} (h : 0 < ds.length) : ∃ y, atI ds (-1) = some y ∧ y ∈ ds := by
  have hn : ds ≠ [] := List.ne_nil_of_length_pos h
  have e := List.dropLast_concat_getLast hn
  refine ⟨ds.getLast hn, ?_, List.getLast_mem hn⟩
  conv => lhs; rw [← e]
  exact atI_last _ _
section
variable {P : Program} {w : World} {K : PySem.W.Frag} {mg : Str → Option Value} {base : Heap} {f f2 : Addr} {fd fd2 : FuncData} {k : Nat}
abbrev s__law_far : Stmt := topS 39
theorem sc__law_far : FnScope ["deep", "row", "endless", "twice", "k", "far"] [] (defScope s__law_far) := ⟨rfl, rfl, rfl, by decide +kernel, rfl, by decide +kernel, by decide +kernel⟩
-- calls [] consts []
theorem ok_law_far (B : Bt mg) (F : Fun K "_law_far" "_law_far" s__law_far f fd) : FnOk P w K mg base CX0 (k + 1) f fd [] (spD K c_far) := by
  refine fn_pure F sc__law_far (fun ds P X ⟨e, _⟩ => by rw [e]; rfl) fun cdv A outer s H S hS hr => ?_
  have nd := sc__law_far.nd
  refine ⟨_, (db_cons (ds_asgLL 0 1 2 3 (de_tup (da_cons de_str (da_cons (de_tup (da_cons de_int (da_cons de_int da_nil))) da_nil))) (de_lst da_nil) (de_tup (da_cons de_str (da_cons (de_tup (da_cons de_int (da_cons de_int da_nil))) da_nil))) nd rfl (by decide)) (db_cons (ds_forI PassesOwn.never rfl (di_range1 B.range (da_cons de_int da_nil)) (dg_name 4 nd) (db_one (ds_par 0 1 (da_cons (de_tup (da_cons de_str (da_cons (de_var 0) (da_cons (de_tup (da_cons de_str (da_cons (de_tup (da_cons de_int (da_cons de_int da_nil))) da_nil))) da_nil)))) (da_cons (de_lst (da_cons (de_var 1) da_nil)) da_nil)) nd))) (db_cons (ds_forI PassesOwn.never rfl (di_range1 B.range (da_cons de_int da_nil)) (dg_name 4 nd) (db_one (ds_append 3 (he := (de_tup (da_cons de_str (da_cons (de_ixOwn 3 (de_neg de_int)) (da_cons (de_ixOwn 3 (de_neg de_int)) da_nil)))))))) (db_cons (ds_selfAppend 2) (db_cons (ds_set 5 (de_lst (da_cons (de_var 0) (da_cons (de_var 1) (da_cons (de_var 2) (da_cons (de_ixOwn 3 de_int) (da_cons (de_ixOwn 3 de_int) (da_cons (de_ixOwn 3 de_int) (da_cons (de_tup (da_cons de_str (da_cons (de_var 0) da_nil))) (da_cons (de_tup (da_cons de_str (da_cons (de_tup (da_cons de_str (da_cons (de_tup (da_cons de_int (da_cons de_int da_nil))) da_nil))) (da_cons (de_var 1) da_nil)))) da_nil))))))))) nd) (db_one (ds_freeze (ds_ret (de_add (de_var 5) (de_lst (da_cons (de_tup (da_cons (de_var 1) (da_cons de_int da_nil))) (da_cons (de_tup (da_cons de_int (da_cons (de_var 1) da_nil))) (da_cons (de_tup (da_cons (de_ix (de_var 3) de_int) da_nil)) (da_cons (de_tup (da_cons de_str (da_cons (de_ix (de_var 3) de_int) (da_cons (de_ix (de_var 3) de_int) da_nil)))) da_nil)))))))))))))), ?_⟩
  rintro ds R X ⟨rfl, h⟩
  repeat (first | refine rd_here rfl ?_ | refine ownL_here rfl ?_ | rw [isI_int] | rw [addD_int] | rw [int0_int] | rw [someD_some] | refine rdRaw_here rfl ?_ | rw [isB_bl] | rw [eqD_str] | rw [eqD_int] | refine And.intro (show CPow _ _ from ⟨by decide, by decide, by decide⟩) ?_ | refine And.intro (show 2 ≤ sizeLine by decide) ?_ | refine And.intro (show 1 ≤ sizeLine by decide) ?_ | refine And.intro (show 3 ≤ sizeLine by decide) ?_ | refine And.intro (show 4 ≤ sizeLine by decide) ?_ | refine And.intro (show 5 ≤ sizeLine by decide) ?_ | refine And.intro (show 6 ≤ sizeLine by decide) ?_ | refine And.intro (show 8 ≤ sizeLine by decide) ?_ | dsimp only)
  have big := line_big
  have p01 : SmT (.tup [.int 0, .int 1]) := pair_sm (i := 0) (j := 1) (by decide) (by decide)
  have tip1 : SmT (.tup [.str "tip", .tup [.int 0, .int 1]]) := tip_sm p01.1
  refine ⟨by decide, ?_⟩
  repeat (first | refine rd_here rfl ?_ | refine ownL_here rfl ?_ | rw [isI_int] | rw [addD_int] | rw [int0_int] | rw [someD_some] | refine rdRaw_here rfl ?_ | rw [isB_bl] | rw [eqD_str] | rw [eqD_int] | refine And.intro (show CPow _ _ from ⟨by decide, by decide, by decide⟩) ?_ | refine And.intro (show 2 ≤ sizeLine by decide) ?_ | refine And.intro (show 1 ≤ sizeLine by decide) ?_ | refine And.intro (show 3 ≤ sizeLine by decide) ?_ | refine And.intro (show 4 ≤ sizeLine by decide) ?_ | refine And.intro (show 5 ≤ sizeLine by decide) ?_ | refine And.intro (show 6 ≤ sizeLine by decide) ?_ | refine And.intro (show 8 ≤ sizeLine by decide) ?_ | dsimp only)
  refine ⟨fun items ρ => ∃ (xs rs : List Dat) (a b : DL.Slot), ρ = [.d (.tup xs), .d (.lst rs), .own [], .own [.tup [.str "tip", .tup [.int 0, .int 1]]], a, b] ∧ SmT (.tup xs) ∧ SmT (.lst rs), ?_, ?_, ?_⟩
  · exact ⟨⟨by decide, by decide⟩, _, _, _, _, rfl, tip1, smT_lst fun d hd => (List.not_mem_nil hd).elim⟩
  · rintro ρ ⟨xs, rs, a, b, rfl, hx, hrr⟩
    refine ⟨fun items ρ => ∃ (tw : List Dat) (a b : DL.Slot), ρ = [.d (.tup xs), .d (.lst rs), .own [], .own tw, a, b] ∧ tw.length + items.length = 61 ∧ 0 < tw.length ∧ ∀ y ∈ tw, FarOk y, ?_, ?_, ?_⟩
    · exact ⟨⟨by decide, by decide⟩, _, _, _, rfl, by rw [rints_len]; rfl, by decide, fun y hy => by rw [List.mem_singleton.mp hy]; exact ⟨tip1, rfl⟩⟩
    · rintro ρ ⟨tw, c, e, rfl, hl, _, htw⟩
      rw [List.length_nil, Nat.add_zero] at hl
      obtain ⟨t60, e60, m60⟩ := atI_in (ds := tw) (x := 60) (by decide) (by omega)
      obtain ⟨t20, e20, m20⟩ := atI_in (ds := tw) (x := 20) (by decide) (by omega)
      obtain ⟨t9, e9, m9⟩ := atI_in (ds := tw) (x := 9) (by decide) (by omega)
      obtain ⟨t30, e30, m30⟩ := atI_in (ds := tw) (x := 30) (by decide) (by omega)
      obtain ⟨t8, e8, m8⟩ := atI_in (ds := tw) (x := 8) (by decide) (by omega)
      obtain ⟨t5, e5, m5⟩ := atI_in (ds := tw) (x := 5) (by decide) (by omega)
      repeat (first | refine rd_here rfl ?_ | refine ownL_here rfl ?_ | rw [isI_int] | rw [addD_int] | rw [int0_int] | rw [someD_some] | refine rdRaw_here rfl ?_ | rw [isB_bl] | rw [eqD_str] | rw [eqD_int] | refine And.intro (show CPow _ _ from ⟨by decide, by decide, by decide⟩) ?_ | refine And.intro (show 2 ≤ sizeLine by decide) ?_ | refine And.intro (show 1 ≤ sizeLine by decide) ?_ | refine And.intro (show 3 ≤ sizeLine by decide) ?_ | refine And.intro (show 4 ≤ sizeLine by decide) ?_ | refine And.intro (show 5 ≤ sizeLine by decide) ?_ | refine And.intro (show 6 ≤ sizeLine by decide) ?_ | refine And.intro (show 8 ≤ sizeLine by decide) ?_ | dsimp only)
      rw [e60]
      repeat (first | refine rd_here rfl ?_ | refine ownL_here rfl ?_ | rw [isI_int] | rw [addD_int] | rw [int0_int] | rw [someD_some] | refine rdRaw_here rfl ?_ | rw [isB_bl] | rw [eqD_str] | rw [eqD_int] | refine And.intro (show CPow _ _ from ⟨by decide, by decide, by decide⟩) ?_ | refine And.intro (show 2 ≤ sizeLine by decide) ?_ | refine And.intro (show 1 ≤ sizeLine by decide) ?_ | refine And.intro (show 3 ≤ sizeLine by decide) ?_ | refine And.intro (show 4 ≤ sizeLine by decide) ?_ | refine And.intro (show 5 ≤ sizeLine by decide) ?_ | refine And.intro (show 6 ≤ sizeLine by decide) ?_ | refine And.intro (show 8 ≤ sizeLine by decide) ?_ | dsimp only)
      rw [e20]
      repeat (first | refine rd_here rfl ?_ | refine ownL_here rfl ?_ | rw [isI_int] | rw [addD_int] | rw [int0_int] | rw [someD_some] | refine rdRaw_here rfl ?_ | rw [isB_bl] | rw [eqD_str] | rw [eqD_int] | refine And.intro (show CPow _ _ from ⟨by decide, by decide, by decide⟩) ?_ | refine And.intro (show 2 ≤ sizeLine by decide) ?_ | refine And.intro (show 1 ≤ sizeLine by decide) ?_ | refine And.intro (show 3 ≤ sizeLine by decide) ?_ | refine And.intro (show 4 ≤ sizeLine by decide) ?_ | refine And.intro (show 5 ≤ sizeLine by decide) ?_ | refine And.intro (show 6 ≤ sizeLine by decide) ?_ | refine And.intro (show 8 ≤ sizeLine by decide) ?_ | dsimp only)
      rw [e9]
      repeat (first | refine rd_here rfl ?_ | refine ownL_here rfl ?_ | rw [isI_int] | rw [addD_int] | rw [int0_int] | rw [someD_some] | refine rdRaw_here rfl ?_ | rw [isB_bl] | rw [eqD_str] | rw [eqD_int] | refine And.intro (show CPow _ _ from ⟨by decide, by decide, by decide⟩) ?_ | refine And.intro (show 2 ≤ sizeLine by decide) ?_ | refine And.intro (show 1 ≤ sizeLine by decide) ?_ | refine And.intro (show 3 ≤ sizeLine by decide) ?_ | refine And.intro (show 4 ≤ sizeLine by decide) ?_ | refine And.intro (show 5 ≤ sizeLine by decide) ?_ | refine And.intro (show 6 ≤ sizeLine by decide) ?_ | refine And.intro (show 8 ≤ sizeLine by decide) ?_ | dsimp only)
      rw [ixD_lst, e30]
      repeat (first | refine rd_here rfl ?_ | refine ownL_here rfl ?_ | rw [isI_int] | rw [addD_int] | rw [int0_int] | rw [someD_some] | refine rdRaw_here rfl ?_ | rw [isB_bl] | rw [eqD_str] | rw [eqD_int] | refine And.intro (show CPow _ _ from ⟨by decide, by decide, by decide⟩) ?_ | refine And.intro (show 2 ≤ sizeLine by decide) ?_ | refine And.intro (show 1 ≤ sizeLine by decide) ?_ | refine And.intro (show 3 ≤ sizeLine by decide) ?_ | refine And.intro (show 4 ≤ sizeLine by decide) ?_ | refine And.intro (show 5 ≤ sizeLine by decide) ?_ | refine And.intro (show 6 ≤ sizeLine by decide) ?_ | refine And.intro (show 8 ≤ sizeLine by decide) ?_ | dsimp only)
      rw [ixD_lst, e8]
      repeat (first | refine rd_here rfl ?_ | refine ownL_here rfl ?_ | rw [isI_int] | rw [addD_int] | rw [int0_int] | rw [someD_some] | refine rdRaw_here rfl ?_ | rw [isB_bl] | rw [eqD_str] | rw [eqD_int] | refine And.intro (show CPow _ _ from ⟨by decide, by decide, by decide⟩) ?_ | refine And.intro (show 2 ≤ sizeLine by decide) ?_ | refine And.intro (show 1 ≤ sizeLine by decide) ?_ | refine And.intro (show 3 ≤ sizeLine by decide) ?_ | refine And.intro (show 4 ≤ sizeLine by decide) ?_ | refine And.intro (show 5 ≤ sizeLine by decide) ?_ | refine And.intro (show 6 ≤ sizeLine by decide) ?_ | refine And.intro (show 8 ≤ sizeLine by decide) ?_ | dsimp only)
      rw [ixD_lst, e5]
      repeat (first | refine rd_here rfl ?_ | refine ownL_here rfl ?_ | rw [isI_int] | rw [addD_int] | rw [int0_int] | rw [someD_some] | refine rdRaw_here rfl ?_ | rw [isB_bl] | rw [eqD_str] | rw [eqD_int] | refine And.intro (show CPow _ _ from ⟨by decide, by decide, by decide⟩) ?_ | refine And.intro (show 2 ≤ sizeLine by decide) ?_ | refine And.intro (show 1 ≤ sizeLine by decide) ?_ | refine And.intro (show 3 ≤ sizeLine by decide) ?_ | refine And.intro (show 4 ≤ sizeLine by decide) ?_ | refine And.intro (show 5 ≤ sizeLine by decide) ?_ | refine And.intro (show 6 ≤ sizeLine by decide) ?_ | refine And.intro (show 8 ≤ sizeLine by decide) ?_ | dsimp only)
      rw [addD_lst]
      refine ⟨show 12 ≤ sizeLine by decide, h _ rfl fun y hy => ?_⟩
      have i1 : SmV (.int 1) := (sm_int (i := 1) (by decide)).1
      have tup2 : ∀ a b : Dat, SmV a → SmV b → FarOk (.tup [a, b]) := fun a b ha hb => ⟨⟨smV_tup.mpr fun z hz => by
        simp only [List.mem_cons, List.not_mem_nil, or_false] at hz
        rcases hz with rfl | rfl
        · exact ha
        · exact hb, show 2 ≤ 10000 by decide⟩, rfl⟩
      simp only [List.cons_append, List.nil_append, List.mem_cons, List.not_mem_nil, or_false] at hy
      rcases hy with rfl | rfl | rfl | rfl | rfl | rfl | rfl | rfl | rfl | rfl | rfl | rfl
      · exact ⟨hx, rfl⟩
      · exact ⟨hrr, rfl⟩
      · exact ⟨⟨trivial, trivial⟩, rfl⟩
      · exact htw _ m60
      · exact htw _ m20
      · exact htw _ m9
      · exact ⟨tip_sm hx.1, rfl⟩
      · exact ⟨node_sm tip1.1 hrr.1, rfl⟩
      · exact tup2 _ _ hrr.1 i1
      · exact tup2 _ _ i1 hrr.1
      · exact ⟨⟨smV_tup.mpr fun z hz => by rw [List.mem_singleton.mp hz]; exact (htw _ m30).1.1, show 1 ≤ 10000 by decide⟩, rfl⟩
      · exact ⟨node_sm (htw _ m8).1.1 (htw _ m5).1.1, rfl⟩
    · rintro d ds ρ ⟨tw, c, e, rfl, hl, h0, htw⟩
      obtain ⟨t, et, mt⟩ := atI_end h0
      rw [List.length_cons] at hl
      repeat (first | refine rd_here rfl ?_ | refine ownL_here rfl ?_ | rw [isI_int] | rw [addD_int] | rw [int0_int] | rw [someD_some] | refine rdRaw_here rfl ?_ | rw [isB_bl] | rw [eqD_str] | rw [eqD_int] | refine And.intro (show CPow _ _ from ⟨by decide, by decide, by decide⟩) ?_ | refine And.intro (show 2 ≤ sizeLine by decide) ?_ | refine And.intro (show 1 ≤ sizeLine by decide) ?_ | refine And.intro (show 3 ≤ sizeLine by decide) ?_ | refine And.intro (show 4 ≤ sizeLine by decide) ?_ | refine And.intro (show 5 ≤ sizeLine by decide) ?_ | refine And.intro (show 6 ≤ sizeLine by decide) ?_ | refine And.intro (show 8 ≤ sizeLine by decide) ?_ | dsimp only)
      show someD (atI tw (-1)) _
      rw [et]
      repeat (first | refine rd_here rfl ?_ | refine ownL_here rfl ?_ | rw [isI_int] | rw [addD_int] | rw [int0_int] | rw [someD_some] | refine rdRaw_here rfl ?_ | rw [isB_bl] | rw [eqD_str] | rw [eqD_int] | refine And.intro (show CPow _ _ from ⟨by decide, by decide, by decide⟩) ?_ | refine And.intro (show 2 ≤ sizeLine by decide) ?_ | refine And.intro (show 1 ≤ sizeLine by decide) ?_ | refine And.intro (show 3 ≤ sizeLine by decide) ?_ | refine And.intro (show 4 ≤ sizeLine by decide) ?_ | refine And.intro (show 5 ≤ sizeLine by decide) ?_ | refine And.intro (show 6 ≤ sizeLine by decide) ?_ | refine And.intro (show 8 ≤ sizeLine by decide) ?_ | dsimp only)
      show someD (atI tw (-1)) _
      rw [et]
      repeat (first | refine rd_here rfl ?_ | refine ownL_here rfl ?_ | rw [isI_int] | rw [addD_int] | rw [int0_int] | rw [someD_some] | refine rdRaw_here rfl ?_ | rw [isB_bl] | rw [eqD_str] | rw [eqD_int] | refine And.intro (show CPow _ _ from ⟨by decide, by decide, by decide⟩) ?_ | refine And.intro (show 2 ≤ sizeLine by decide) ?_ | refine And.intro (show 1 ≤ sizeLine by decide) ?_ | refine And.intro (show 3 ≤ sizeLine by decide) ?_ | refine And.intro (show 4 ≤ sizeLine by decide) ?_ | refine And.intro (show 5 ≤ sizeLine by decide) ?_ | refine And.intro (show 6 ≤ sizeLine by decide) ?_ | refine And.intro (show 8 ≤ sizeLine by decide) ?_ | dsimp only)
      refine ⟨by omega, _, _, _, rfl, by simp; omega, by simp, fun y hy => ?_⟩
      rcases List.mem_append.mp hy with hy | hy
      · exact htw y hy
      · rw [List.mem_singleton.mp hy]
        exact ⟨node_sm (htw t mt).1.1 (htw t mt).1.1, rfl⟩
  · rintro d ds ρ ⟨xs, rs, a, b, rfl, hx, hrr⟩
    repeat (first | refine rd_here rfl ?_ | refine ownL_here rfl ?_ | rw [isI_int] | rw [addD_int] | rw [int0_int] | rw [someD_some] | refine rdRaw_here rfl ?_ | rw [isB_bl] | rw [eqD_str] | rw [eqD_int] | refine And.intro (show CPow _ _ from ⟨by decide, by decide, by decide⟩) ?_ | refine And.intro (show 2 ≤ sizeLine by decide) ?_ | refine And.intro (show 1 ≤ sizeLine by decide) ?_ | refine And.intro (show 3 ≤ sizeLine by decide) ?_ | refine And.intro (show 4 ≤ sizeLine by decide) ?_ | refine And.intro (show 5 ≤ sizeLine by decide) ?_ | refine And.intro (show 6 ≤ sizeLine by decide) ?_ | refine And.intro (show 8 ≤ sizeLine by decide) ?_ | dsimp only)
    refine ⟨_, _, _, _, rfl, node_sm hx.1 tip1.1, smT_lst fun y hy => ?_⟩
    rw [List.mem_singleton.mp hy]
    exact hrr
end
end K01
namespace DL
open PySem PySem.Spec PyProof.Rows L2
section
variable {ι : Type} {G : Fam ι} {Fa : FR ι} {e : Expr}
/-- for name in a list or a tuple, by a word of what is left, the slots and the index -/
theorem dsr_forSeq {x : Str} {xp fp : Pos} {body : List Stmt} {Fb : FSR ι} (n : Nat) (hp : PassesOwn (model G.X.prog G.X.w) G.X.A G.X.env G.X.xe) (hc : G.X.calm = true) (ha : DR G e Fa) (hb : DBR G body Fb) (hN : G.X.N.Nodup) (hi : G.X.N[n]? = some x := by rfl) (hx : Loc G.X.env.scope x := by first | exact Or.inl rfl | exact Or.inr rfl)
    (hf : G.X.fn x = true ∨ G.X.env.scope.names.lookup x = some .local := by first | exact .inl rfl | exact .inr rfl) (hs2 : ∀ z, foldedSetIterable e G.X.env z = pure z := by intro _; rfl) :
    DSR G (.For (.Name x xp) e body [] fp) (fun D ρ i => ∃ Inv : List Dat → List Slot → ι → Prop, (Fa ρ i fun d j => seqOf d fun ds => Inv ds ρ j) ∧ (∀ ρ j, Inv [] ρ j → D.nx ρ j) ∧ ∀ d ds ρ j, Inv (d :: ds) ρ j → Fb { nx := Inv ds, ct := Inv ds, bk := D.nx, rt := D.rt } (ρ.set n (.d d)) j) := by
  obtain ⟨t, h1, l1⟩ := ha.ex
  obtain ⟨u, h3, lb⟩ := hb.ex
  refine ⟨⟨_, ps_for hp hc (pi_seq h1) (pg_name (i := n) hN hi hx hf) h3 hs2, fun S σ H ρ i D Dh gd h q => ?_⟩⟩
  obtain ⟨Inv, h, k0, ks⟩ := h
  refine l1 S σ H ρ i _ _ gd h fun v d H1 j0 st hv hl => ?_
  have g1 := gd.stepI st
  have fr1 : Fr S H S H1 := st.fr gd
  cases d with
  | lst ds =>
    obtain ⟨p, xs, rfl, np, ep, hxs⟩ := dv_lst hv
    refine ⟨p, rfl, .inl ⟨⟨xs, .inl (.inl ep)⟩, ?_⟩⟩
    have wk : ∀ j : ι, WalkOk (G.at j) (Itl G.X.K p) ds S H1 := fun j => walk_lst np ep hxs
    refine ⟨fun r m σ' H' => m = ds.length - r ∧ r ≤ ds.length ∧ ∃ S' ρ' j, Gd (G.at j) S' σ' H' ρ' ∧ Fr S H1 S' H' ∧ Inv (ds.drop r) ρ' j, ⟨_, rfl, Nat.zero_le _, S, ρ, j0, g1, Fr.refl _ _, hl⟩, ?_⟩
    rintro r m σ' H' ⟨rfl, hr, S', ρ', j, g', fr, hf'⟩
    by_cases hlt : r < ds.length
    · refine .inr ⟨(wk j).go r S' H' hlt fr, fun σ2 H2 => ∃ S2 ρ2 j2, Gd (G.at j2) S2 σ2 H2 ρ2 ∧ Fr S H1 S2 H2 ∧ Inv (ds.drop (r + 1)) ρ2 j2, fun σ2 H2 ⟨S2, ρ2, j2, a1, a2, a3⟩ => ⟨_, by omega, rfl, hlt, S2, ρ2, j2, a1, a2, a3⟩, fun z H2 y => ?_⟩
      obtain ⟨s2, hd⟩ := (wk j).yld r _ S' σ' ρ' H' z H2 (List.getElem?_eq_getElem hlt) g' fr y
      have g2 := g'.step s2
      rw [List.drop_eq_getElem_cons hlt] at hf'
      have frx : Fr S' H' S' H2 := s2.fr g'
      refine lb S' _ H2 _ j _ _ (g2.set hd) (ks _ _ _ _ hf') ⟨fun S4 σ4 H4 ρ4 j4 g4 fr4 hn => ⟨S4, ρ4, j4, g4, (fr.trans frx).trans fr4, hn⟩, q.rt, fun S4 σ4 H4 ρ4 j4 g4 fr4 hn => q.nx S4 σ4 H4 ρ4 j4 g4 (fr1.trans ((fr.trans frx).trans fr4)) hn, fun S4 σ4 H4 ρ4 j4 g4 fr4 hn => ⟨S4, ρ4, j4, g4, (fr.trans frx).trans fr4, hn⟩⟩
    · have e : r = ds.length := by omega
      subst e
      rw [List.drop_length] at hf'
      exact .inl ⟨(wk j).stop S' H' fr, q.nx S' σ' H' ρ' j g' (fr1.trans fr) (k0 _ _ hf')⟩
  | tup ds =>
    obtain ⟨p, xs, rfl, ep, hxs⟩ := dv_tup hv
    refine ⟨p, rfl, .inr ⟨⟨xs, sqT_of ep⟩, ?_⟩⟩
    have wk : ∀ j : ι, WalkOk (G.at j) (Itt G.X.K p) ds S H1 := fun j => walk_tup ep hxs
    refine ⟨fun r m σ' H' => m = ds.length - r ∧ r ≤ ds.length ∧ ∃ S' ρ' j, Gd (G.at j) S' σ' H' ρ' ∧ Fr S H1 S' H' ∧ Inv (ds.drop r) ρ' j, ⟨_, rfl, Nat.zero_le _, S, ρ, j0, g1, Fr.refl _ _, hl⟩, ?_⟩
    rintro r m σ' H' ⟨rfl, hr, S', ρ', j, g', fr, hf'⟩
    by_cases hlt : r < ds.length
    · refine .inr ⟨(wk j).go r S' H' hlt fr, fun σ2 H2 => ∃ S2 ρ2 j2, Gd (G.at j2) S2 σ2 H2 ρ2 ∧ Fr S H1 S2 H2 ∧ Inv (ds.drop (r + 1)) ρ2 j2, fun σ2 H2 ⟨S2, ρ2, j2, a1, a2, a3⟩ => ⟨_, by omega, rfl, hlt, S2, ρ2, j2, a1, a2, a3⟩, fun z H2 y => ?_⟩
      obtain ⟨s2, hd⟩ := (wk j).yld r _ S' σ' ρ' H' z H2 (List.getElem?_eq_getElem hlt) g' fr y
      have g2 := g'.step s2
      rw [List.drop_eq_getElem_cons hlt] at hf'
      have frx : Fr S' H' S' H2 := s2.fr g'
      refine lb S' _ H2 _ j _ _ (g2.set hd) (ks _ _ _ _ hf') ⟨fun S4 σ4 H4 ρ4 j4 g4 fr4 hn => ⟨S4, ρ4, j4, g4, (fr.trans frx).trans fr4, hn⟩, q.rt, fun S4 σ4 H4 ρ4 j4 g4 fr4 hn => q.nx S4 σ4 H4 ρ4 j4 g4 (fr1.trans ((fr.trans frx).trans fr4)) hn, fun S4 σ4 H4 ρ4 j4 g4 fr4 hn => ⟨S4, ρ4, j4, g4, (fr.trans frx).trans fr4, hn⟩⟩
    · have e : r = ds.length := by omega
      subst e
      rw [List.drop_length] at hf'
      exact .inl ⟨(wk j).stop S' H' fr, q.nx S' σ' H' ρ' j g' (fr1.trans fr) (k0 _ _ hf')⟩
  | _ => exact hl.elim
end
end DL
namespace DL
open PySem PySem.Spec PyProof.Rows L2
section
variable {ι : Type} {G : Fam ι} {pos : Pos} {e : Expr}
/-- a name set by a cut, over draws -/
theorem dsr_setc {x : Str} {pos' : Pos} {F : FR ι} (n : Nat) (he : DR G e F) (hN : G.X.N.Nodup) (hi : G.X.N[n]? = some x := by rfl) (hx : Loc G.X.env.scope x := by first | exact Or.inl rfl | exact Or.inr rfl) (hs : swapsWith e (some (.Name x pos')) pos.line G.X.env = pure false := by rfl)
    (hf : G.X.fn x = true ∨ G.X.env.scope.names.lookup x = some .local := by first | exact .inl rfl | exact .inr rfl) : DSR G (.Assign [.Name x pos'] e pos) (fun D ρ i => ∃ Pc : Dat → ι → Prop, F ρ i Pc ∧ ∀ d j, Pc d j → D.nx (ρ.set n (.d d)) j) := by
  obtain ⟨t, h, l⟩ := he.ex
  refine ⟨⟨_, ps_set (i := n) hN hi hx h hs hf, fun S σ H ρ i D Dh g h q => ?_⟩⟩
  obtain ⟨Pc, hc, h1⟩ := h
  exact l S σ H ρ i _ _ g hc fun v d H1 j st hv hp => q.nx S _ H1 _ j ((g.stepI st).set hv) (st.fr g) (h1 d j hp)
end
end DL
namespace K01
open PySem PySem.Spec PyProof.Rows L2 DL
theorem line_small : 1000 ≤ sizeLine := by decide
theorem small_line {n : Nat} (h : n ≤ 1000) : n ≤ sizeLine := Nat.le_trans h line_small
/-- plainly not too great -/
def fineB : Nat → Dat → Bool
  | 0, _ => false
  | n + 1, d => match d with
    | .int i => decide (i.natAbs ≤ 10 ^ 40)
    | .tup ds => decide (ds.length ≤ 100) && ds.all (fineB n)
    | .lst ds => ds.all (fineB n)
    | .str _ => true
    | .non => true
    | .bl _ => true
    | .dic [] [] => true
    | _ => false
theorem fine_smT : ∀ {n : Nat} {d : Dat}, fineB n d = true → SmT d
  | 0, _, h => by cases h
  | n + 1, d, h => by
    cases d with
    | int i => exact sm_int (of_decide_eq_true h)
    | tup ds =>
      have h' : (decide (ds.length ≤ 100) && ds.all (fineB n)) = true := h
      rw [Bool.and_eq_true, decide_eq_true_eq, List.all_eq_true] at h'
      exact ⟨smV_tup.mpr fun x hx => (fine_smT (h'.2 x hx)).1, Nat.le_trans h'.1 (by decide)⟩
    | lst ds =>
      have h' : ds.all (fineB n) = true := h
      rw [List.all_eq_true] at h'
      exact ⟨smV_lst.mpr fun x hx => (fine_smT (h' x hx)).1, trivial⟩
    | _ => exact ⟨trivial, trivial⟩
theorem fines_smT {ds : List Dat} (h : ds.all (fineB 6) = true) : ∀ y ∈ ds, SmT y := fun y hy => fine_smT (List.all_eq_true.mp h y hy)
theorem all_app {xs ys : List Dat} (h : ∀ y ∈ xs, SmT y) (h2 : ys.all (fineB 6) = true) : ∀ y ∈ xs ++ ys, SmT y := fun y hy => by
  rcases List.mem_append.mp hy with e | e
  · exact h y e
  · exact fine_smT (List.all_eq_true.mp h2 y e)
def NearOk (ys : List Dat) : Prop := 30 ≤ ys.length ∧ ys.length ≤ 1000 ∧ ∀ y ∈ ys, SmT y
def conNear : ConS Nat := ⟨fun st n sl P => ∃ v : V, IsDraw st v ∧ sl = [.raw v] ∧ n + 100000 < manyDraws ∧ ∀ (ys : List Dat) (j : Nat), NearOk ys → j ≤ n + 100000 → P (.lst ys) j,
  fun _ _ _ _ _ ⟨v, h0, e, h3, h⟩ m => ⟨v, h0, e, h3, fun x j a b => m _ _ (h x j a b)⟩⟩
theorem chain_use {st : Sta Nat} {n deep : Nat} {v : V} {P : Dat → Nat → Prop} (hd : IsDraw st v) (h1 : 7 ≤ deep) (h2 : deep ≤ 1000) (hn : n + 2000 < manyDraws) (h : ∀ (d : Dat) (j : Nat), SmT d → j ≤ n + 2000 → P d j) : conChain.C st n [.raw v, .d (.int (deep : Nat))] P := ⟨v, deep, hd, rfl, h1, h2, hn, h⟩
theorem all_app2 {xs ys : List Dat} (h : ∀ y ∈ xs, SmT y) (h2 : ∀ y ∈ ys, SmT y) : ∀ y ∈ xs ++ ys, SmT y := fun y hy => by
  rcases List.mem_append.mp hy with e | e
  · exact h y e
  · exact h2 y e
theorem all_cons {x : Dat} {ys : List Dat} (h : SmT x) (h2 : ∀ y ∈ ys, SmT y) : ∀ y ∈ x :: ys, SmT y := fun y hy => by
  rcases List.mem_cons.mp hy with e | e
  · rw [e]; exact h
  · exact h2 y e
theorem all_nil : ∀ y ∈ ([] : List Dat), SmT y := fun y hy => (List.not_mem_nil hy).elim
theorem pair_smT {a b : Dat} (ha : SmV a) (hb : SmV b) : SmT (.tup [a, b]) := by
  refine ⟨smV_tup.mpr fun x hx => ?_, show 2 ≤ 10000 by decide⟩
  simp only [List.mem_cons, List.not_mem_nil, or_false] at hx
  rcases hx with rfl | rfl
  · exact ha
  · exact hb
theorem wc5 {z : Str} : wc z 5 ≤ 2430 := by unfold wc; split; decide; split <;> decide
theorem rk5 {z : Str} : rk z 5 ≤ 5 := by unfold rk; split; decide; split <;> decide
section
variable {P : Program} {w : World} {K : PySem.W.Frag} {mg : Str → Option Value} {base : Heap} {f f2 : Addr} {fd fd2 : FuncData} {k : Nat}
abbrev s__law_near : Stmt := topS 40
theorem sc__law_near : FnScope ["m", "some", "tip", "kind", "k", "p", "q"] ["m"] (defScope s__law_near) := ⟨rfl, rfl, rfl, by decide +kernel, rfl, by decide +kernel, by decide +kernel⟩
-- calls ['_law_grown', '_law_chain', '_law_worth'] consts []
theorem ok_law_near {N : Nat} (hN : 5 < N) (B : Bt mg) (F__law_worth : CalleeS P w K mg base "_law_worth" k ["m", "kind", "deep"] (conWorth N)) (F__law_chain : CalleeS P w K mg base "_law_chain" k ["m", "deep"] conChain) (F__law_grown : CalleeS P w K mg base "_law_grown" k ["m", "leaves"] conChain) (F : Fun K "_law_near" "_law_near" s__law_near f fd) : FnOk P w K mg base CX0 (k + 1) f fd ["m"] (spS K conNear) := by
  refine fn_pureS F sc__law_near (fun st i sl P ⟨v, _, e, _⟩ => by rw [e]; rfl) fun cdv A outer s H S hS st i0 h0 hf hr sl R hc => ?_
  have nd := sc__law_near.nd
  have gs := gs_self (P := P) (w := w) (K := K) (mg := mg) (base := base) (N := ["m", "some", "tip", "kind", "k", "p", "q"]) (qual := "_law_near") (sc := defScope s__law_near) (f := f) (cdv := cdv) (A := A) (outer := outer) (s := s) (hS := hS) (h0 := h0) hf
  refine ⟨_, (dbr_cons (dsr_setc 1 (dr_of fun i => (de_lst (da_cons de_non (da_cons de_bl (da_cons de_bl (da_cons de_int (da_cons de_int (da_cons de_int (da_cons de_int (da_cons (de_neg de_int) (da_cons (de_pow de_int de_int) (da_cons de_str (da_cons de_str (da_cons de_str (da_cons (de_lst da_nil) (da_cons de_dnew (da_cons (de_tup da_nil) (da_cons (de_tup (da_cons de_int da_nil)) (da_cons (de_tup (da_cons de_int (da_cons de_int da_nil))) (da_cons (de_lst (da_cons de_int (da_cons de_int da_nil))) (da_cons (de_tup (da_cons de_bl (da_cons de_int da_nil))) da_nil))))))))))))))))))))) nd) (dbr_cons (dsr_setc 1 (dr_of fun i => (de_add (de_var 1) (de_lst (da_cons (de_tup (da_cons de_int (da_cons de_bl da_nil))) (da_cons (de_tup (da_cons de_int (da_cons de_int da_nil))) (da_cons (de_tup (da_cons de_int (da_cons de_int da_nil))) (da_cons (de_tup (da_cons de_int (da_cons (de_neg de_int) da_nil))) (da_cons (de_tup (da_cons de_int (da_cons de_int da_nil))) (da_cons (de_tup (da_cons de_int (da_cons de_int da_nil))) (da_cons (de_tup (da_cons (de_neg de_int) (da_cons de_int da_nil))) (da_cons (de_tup (da_cons de_int (da_cons (de_neg de_int) da_nil))) (da_cons (de_tup (da_cons (de_neg de_int) (da_cons de_int da_nil))) (da_cons (de_tup (da_cons de_int (da_cons de_int (da_cons de_int da_nil)))) (da_cons (de_tup (da_cons de_str (da_cons de_int da_nil))) da_nil)))))))))))))) nd) (dbr_cons (dsr_setc 1 (dr_of fun i => (de_add (de_var 1) (de_lst (da_cons (de_tup (da_cons (de_tup (da_cons de_int (da_cons de_int da_nil))) da_nil)) (da_cons (de_tup (da_cons (de_tup (da_cons de_int (da_cons de_int da_nil))) (da_cons (de_tup (da_cons de_int (da_cons de_int da_nil))) da_nil))) (da_cons (de_tup (da_cons (de_tup (da_cons de_int (da_cons de_int da_nil))) (da_cons (de_tup (da_cons de_int (da_cons de_int da_nil))) da_nil))) (da_cons (de_tup (da_cons (de_tup (da_cons de_int (da_cons de_int da_nil))) (da_cons (de_tup (da_cons de_int (da_cons de_int da_nil))) da_nil))) (da_cons (de_tup (da_cons (de_tup (da_cons (de_neg de_int) (da_cons de_int da_nil))) (da_cons (de_tup (da_cons de_int (da_cons de_int da_nil))) da_nil))) (da_cons (de_lst (da_cons (de_tup (da_cons de_int (da_cons de_int da_nil))) da_nil)) da_nil))))))))) nd) (dbr_cons (dsr_set 2 (dr_of fun i => (de_tup (da_cons de_str (da_cons (de_tup (da_cons de_int (da_cons de_int da_nil))) da_nil)))) nd) (dbr_cons (dsr_setc 1 (dr_of fun i => (de_add (de_var 1) (de_lst (da_cons (de_tup (da_cons (de_tup (da_cons de_int (da_cons de_int da_nil))) da_nil)) (da_cons (de_tup (da_cons (de_tup (da_cons de_int (da_cons de_int da_nil))) (da_cons de_non da_nil))) (da_cons (de_tup (da_cons de_str da_nil)) (da_cons (de_tup (da_cons de_str (da_cons de_int da_nil))) (da_cons (de_tup (da_cons de_str (da_cons (de_tup (da_cons de_int (da_cons de_int da_nil))) da_nil))) (da_cons (de_add (de_var 2) (de_tup (da_cons (de_tup (da_cons de_int (da_cons de_int da_nil))) da_nil))) (da_cons (de_lst (da_cons de_str (da_cons (de_tup (da_cons de_int (da_cons de_int da_nil))) da_nil))) da_nil)))))))))) nd) (dbr_cons (dsr_setc 1 (dr_of fun i => (de_add (de_var 1) (de_lst (da_cons (de_tup (da_cons de_str (da_cons (de_var 2) da_nil))) (da_cons (de_tup (da_cons de_str (da_cons (de_var 2) (da_cons (de_tup (da_cons de_str (da_cons de_int da_nil))) da_nil)))) (da_cons (de_tup (da_cons de_str (da_cons (de_tup (da_cons de_int (da_cons de_int da_nil))) da_nil))) (da_cons (de_tup (da_cons (de_var 2) da_nil)) (da_cons (de_tup (da_cons de_str (da_cons (de_var 2) (da_cons (de_lst (da_cons de_str (da_cons (de_tup (da_cons de_int (da_cons de_int da_nil))) da_nil))) da_nil)))) da_nil)))))))) nd) (dbr_cons (dsr_setc 1 (dr_add (dr_of fun i => (de_var 1)) (dr_lst (dar_cons (dr_fnS gs F__law_chain hr (dsl_raw 0 (dsl_d (dr_of fun i => de_int) dsl_nil)) (by omega)) (dar_cons (dr_fnS gs F__law_chain hr (dsl_raw 0 (dsl_d (dr_of fun i => de_int) dsl_nil)) (by omega)) (dar_cons (dr_fnS gs F__law_grown hr (dsl_raw 0 (dsl_d (dr_of fun i => de_int) dsl_nil)) (by omega)) (dar_cons (dr_fnS gs F__law_grown hr (dsl_raw 0 (dsl_d (dr_of fun i => de_int) dsl_nil)) (by omega)) (dar_cons (dr_of fun i => (de_var 2)) dar_nil))))))) nd) (dbr_cons (dsr_setc 1 (dr_add (dr_of fun i => (de_var 1)) (dr_lst (dar_cons (dr_tup (dar_cons (dr_of fun i => de_str) (dar_cons (dr_fnS gs F__law_chain hr (dsl_raw 0 (dsl_d (dr_of fun i => de_int) dsl_nil)) (by omega)) (dar_cons (dr_fnS gs F__law_chain hr (dsl_raw 0 (dsl_d (dr_of fun i => de_int) dsl_nil)) (by omega)) dar_nil)))) (dar_cons (dr_of fun i => (de_tup (da_cons de_int (da_cons (de_pow de_int de_int) da_nil)))) (dar_cons (dr_of fun i => (de_tup (da_cons (de_pow de_int de_int) (da_cons (de_pow de_int de_int) da_nil)))) dar_nil))))) nd) (dbr_cons (dsr_forSeq 3 PassesOwn.never rfl (dr_of fun i => (de_tup (da_cons de_str (da_cons de_str (da_cons de_str (da_cons de_str (da_cons de_str da_nil))))))) (dbr_one (dsr_setc 1 (dr_add (dr_of fun i => (de_var 1)) (dr_lc 4 (x := "k") rfl nd (dir_range B.range (dar_cons (dr_of fun i => de_int) dar_nil)) (blkOk_by (own := [("k", 4)]) (N := ["m", "some", "tip", "kind", "k", "p", "q"]) (sc := defScope s__law_near) (by decide +kernel)) (fun _ _ _ _ _ => pg_name (i := 4) nd rfl (Or.inl rfl)) (fun _ _ _ _ _ => (dr_fnS (gs_blk gs) F__law_worth hr (dsl_raw 0 (dsl_d (dr_of fun i => (de_var 3)) (dsl_d (dr_of fun i => de_int) dsl_nil))) (by omega))))) nd)) nd) (dbr_cons (dsr_par 5 6 (dar_cons (dr_fnS gs F__law_worth hr (dsl_raw 0 (dsl_d (dr_of fun i => de_str) (dsl_d (dr_of fun i => de_int) dsl_nil))) (by omega)) (dar_cons (dr_fnS gs F__law_worth hr (dsl_raw 0 (dsl_d (dr_of fun i => de_str) (dsl_d (dr_of fun i => de_int) dsl_nil))) (by omega)) dar_nil)) nd) (dbr_one (dsr_ret (dr_of fun i => (de_add (de_var 1) (de_lst (da_cons (de_tup (da_cons (de_var 5) (da_cons (de_var 6) da_nil))) (da_cons (de_tup (da_cons (de_var 5) (da_cons (de_var 5) da_nil))) (da_cons (de_tup (da_cons (de_mulI (de_ix (de_var 5) de_int) de_int) (da_cons (de_mulI (de_ix (de_var 5) de_int) de_int) da_nil))) (da_cons (de_tup (da_cons (de_ix (de_var 5) de_int) (da_cons (de_ix (de_var 5) de_int) da_nil))) (da_cons (de_tup (da_cons de_str (da_cons (de_tup (da_cons de_str (da_cons (de_var 5) da_nil))) (da_cons (de_tup (da_cons de_str (da_cons (de_var 6) da_nil))) da_nil)))) da_nil)))))))))))))))))))), ?_⟩
  obtain ⟨v, hd, rfl, hn, h⟩ := hc
  refine ⟨fun d j => ∃ ys, d = .lst ys ∧ j = i0 ∧ ys.length = 19 ∧ ∀ y ∈ ys, SmT y, ?_, ?_⟩
  · repeat (first | refine rd_here rfl ?_ | refine And.intro (small_line (show List.length _ ≤ 1000 from Nat.le_of_ble_eq_true rfl)) ?_ | refine And.intro (show CPow _ _ from ⟨by decide, by decide, by decide⟩) ?_ | dsimp only)
    exact ⟨_, rfl, rfl, rfl, fines_smT (by decide +kernel)⟩
  rintro _ j ⟨y1, rfl, rfl, l1, a1⟩
  refine ⟨fun d j2 => ∃ ys, d = .lst ys ∧ j2 = j ∧ ys.length = 30 ∧ ∀ y ∈ ys, SmT y, ?_, ?_⟩
  · repeat (first | refine rd_here rfl ?_ | refine And.intro (small_line (show List.length _ ≤ 1000 from Nat.le_of_ble_eq_true rfl)) ?_ | refine And.intro (show CPow _ _ from ⟨by decide, by decide, by decide⟩) ?_ | dsimp only)
    rw [addD_lst]
    exact ⟨small_line (by simp [l1]), _, rfl, rfl, by simp [l1], all_app a1 (by decide +kernel)⟩
  rintro _ j2 ⟨y2, rfl, rfl, l2, a2⟩
  refine ⟨fun d j3 => ∃ ys, d = .lst ys ∧ j3 = j2 ∧ ys.length = 36 ∧ ∀ y ∈ ys, SmT y, ?_, ?_⟩
  · repeat (first | refine rd_here rfl ?_ | refine And.intro (small_line (show List.length _ ≤ 1000 from Nat.le_of_ble_eq_true rfl)) ?_ | refine And.intro (show CPow _ _ from ⟨by decide, by decide, by decide⟩) ?_ | dsimp only)
    rw [addD_lst]
    exact ⟨small_line (by simp [l2]), _, rfl, rfl, by simp [l2], all_app a2 (by decide +kernel)⟩
  rintro _ j3 ⟨y3, rfl, rfl, l3, a3⟩
  repeat (first | refine rd_here rfl ?_ | refine And.intro (small_line (show List.length _ ≤ 1000 from Nat.le_of_ble_eq_true rfl)) ?_ | refine And.intro (show CPow _ _ from ⟨by decide, by decide, by decide⟩) ?_ | dsimp only)
  refine ⟨fun d j4 => ∃ ys, d = .lst ys ∧ j4 = j3 ∧ ys.length = 43 ∧ ∀ y ∈ ys, SmT y, ?_, ?_⟩
  · repeat (first | refine rd_here rfl ?_ | refine And.intro (small_line (show List.length _ ≤ 1000 from Nat.le_of_ble_eq_true rfl)) ?_ | refine And.intro (show CPow _ _ from ⟨by decide, by decide, by decide⟩) ?_ | dsimp only)
    rw [addD_tup]
    refine ⟨small_line (by simp), ?_⟩
    repeat (first | refine rd_here rfl ?_ | refine And.intro (small_line (show List.length _ ≤ 1000 from Nat.le_of_ble_eq_true rfl)) ?_ | refine And.intro (show CPow _ _ from ⟨by decide, by decide, by decide⟩) ?_ | dsimp only)
    rw [addD_lst]
    exact ⟨small_line (by simp [l3]), _, rfl, rfl, by simp [l3], all_app a3 (by decide +kernel)⟩
  rintro _ j4 ⟨y4, rfl, rfl, l4, a4⟩
  refine ⟨fun d j5 => ∃ ys, d = .lst ys ∧ j5 = j4 ∧ ys.length = 48 ∧ ∀ y ∈ ys, SmT y, ?_, ?_⟩
  · repeat (first | refine rd_here rfl ?_ | refine And.intro (small_line (show List.length _ ≤ 1000 from Nat.le_of_ble_eq_true rfl)) ?_ | refine And.intro (show CPow _ _ from ⟨by decide, by decide, by decide⟩) ?_ | dsimp only)
    rw [addD_lst]
    exact ⟨small_line (by simp [l4]), _, rfl, rfl, by simp [l4], all_app a4 (by decide +kernel)⟩
  rintro _ j5 ⟨y5, rfl, rfl, l5, a5⟩
  refine ⟨fun d j6 => ∃ ys, d = .lst ys ∧ j6 ≤ j5 + 8000 ∧ ys.length = 53 ∧ ∀ y ∈ ys, SmT y, ?_, ?_⟩
  · repeat (first | refine rd_here rfl ?_ | refine And.intro (small_line (show List.length _ ≤ 1000 from Nat.le_of_ble_eq_true rfl)) ?_ | refine And.intro (show CPow _ _ from ⟨by decide, by decide, by decide⟩) ?_ | dsimp only)
    refine rdRaw_here rfl (chain_use (deep := 40) hd (by decide) (by decide) (by omega) fun c1 k1 s1 g1 => ?_)
    refine rdRaw_here rfl (chain_use (deep := 41) hd (by decide) (by decide) (by omega) fun c2 k2 s2 g2 => ?_)
    refine rdRaw_here rfl (chain_use (deep := 300) hd (by decide) (by decide) (by omega) fun c3 k3 s3 g3 => ?_)
    refine rdRaw_here rfl (chain_use (deep := 301) hd (by decide) (by decide) (by omega) fun c4 k4 s4 g4 => ?_)
    repeat (first | refine rd_here rfl ?_ | refine And.intro (small_line (show List.length _ ≤ 1000 from Nat.le_of_ble_eq_true rfl)) ?_ | refine And.intro (show CPow _ _ from ⟨by decide, by decide, by decide⟩) ?_ | dsimp only)
    rw [addD_lst]
    exact ⟨small_line (by simp [l5]), _, rfl, by omega, by simp [l5], all_app2 a5 (all_cons s1 (all_cons s2 (all_cons s3 (all_cons s4 (all_cons (fine_smT (n := 6) (by decide +kernel)) all_nil)))))⟩
  rintro _ j6 ⟨y6, rfl, hj6, l6, a6⟩
  refine ⟨fun d j7 => ∃ ys, d = .lst ys ∧ j7 ≤ j6 + 4000 ∧ ys.length = 56 ∧ ∀ y ∈ ys, SmT y, ?_, ?_⟩
  · repeat (first | refine rd_here rfl ?_ | refine And.intro (small_line (show List.length _ ≤ 1000 from Nat.le_of_ble_eq_true rfl)) ?_ | refine And.intro (show CPow _ _ from ⟨by decide, by decide, by decide⟩) ?_ | dsimp only)
    refine rdRaw_here rfl (chain_use (deep := 39) hd (by decide) (by decide) (by omega) fun c1 k1 s1 g1 => ?_)
    refine rdRaw_here rfl (chain_use (deep := 40) hd (by decide) (by decide) (by omega) fun c2 k2 s2 g2 => ?_)
    repeat (first | refine rd_here rfl ?_ | refine And.intro (small_line (show List.length _ ≤ 1000 from Nat.le_of_ble_eq_true rfl)) ?_ | refine And.intro (show CPow _ _ from ⟨by decide, by decide, by decide⟩) ?_ | dsimp only)
    rw [addD_lst]
    exact ⟨small_line (by simp [l6]), _, rfl, by omega, by simp [l6], all_app2 a6 (all_cons (node_sm s1.1 s2.1) (all_cons (fine_smT (n := 6) (by decide +kernel)) (all_cons (fine_smT (n := 6) (by decide +kernel)) all_nil)))⟩
  rintro _ j7 ⟨y7, rfl, hj7, l7, a7⟩
  refine ⟨fun items ρ j8 => ∃ (ys : List Dat) (a b c d : DL.Slot), ρ = [.raw v, .d (.lst ys), a, b, c, d, .un] ∧ (∀ z ∈ items, ∃ q, z = .str q ∧ q ∈ sorts) ∧ j8 + 8000 * items.length ≤ j7 + 40000 ∧ ys.length + 3 * items.length = 71 ∧ ∀ y ∈ ys, SmT y, ?_, ?_, ?_⟩
  · repeat (first | refine rd_here rfl ?_ | refine And.intro (small_line (show List.length _ ≤ 1000 from Nat.le_of_ble_eq_true rfl)) ?_ | refine And.intro (show CPow _ _ from ⟨by decide, by decide, by decide⟩) ?_ | dsimp only)
    rw [seqOf_tup]
    refine ⟨_, _, _, _, _, rfl, fun z hz => ?_, by simp, by simp [l7], a7⟩
    simp only [List.mem_cons, List.not_mem_nil, or_false] at hz
    rcases hz with rfl | rfl | rfl | rfl | rfl <;> exact ⟨_, rfl, by decide⟩
  · rintro ρ j8 ⟨y8, a, b, c, d, rfl, _, hj8, l8, a8⟩
    simp only [List.length_nil, Nat.mul_zero, Nat.add_zero] at l8 hj8
    refine rdRaw_here rfl (num_use hd (by omega) (by omega) fun p k1 hp g1 => ?_)
    refine rdRaw_here rfl (num_use hd (by omega) (by omega) fun q k2 hq g2 => ?_)
    have sp := num_smT hp
    have sq := num_smT hq
    obtain ⟨x, y, rfl, _⟩ := frac_inv hp.1
    have bx : x.natAbs ≤ 10 ^ 20 := hp.2.1
    have by' : y.natAbs ≤ 10 ^ 20 := hp.2.2
    have e20 : (10 : Nat) ^ 20 = 100000000000000000000 := by decide
    have e40 : (10 : Nat) ^ 40 = 10000000000000000000000000000000000000000 := by decide
    unfold two
    repeat (first | refine rd_here rfl ?_ | refine And.intro (small_line (show List.length _ ≤ 1000 from Nat.le_of_ble_eq_true rfl)) ?_ | refine And.intro (show CPow _ _ from ⟨by decide, by decide, by decide⟩) ?_ | dsimp only)
    rw [ixD_tup, at0, someD_some]
    refine ⟨.inr ⟨by decide, by decide⟩, ?_⟩
    repeat (first | refine rd_here rfl ?_ | refine And.intro (small_line (show List.length _ ≤ 1000 from Nat.le_of_ble_eq_true rfl)) ?_ | refine And.intro (show CPow _ _ from ⟨by decide, by decide, by decide⟩) ?_ | dsimp only)
    rw [ixD_tup, at1, someD_some]
    refine ⟨.inr ⟨by decide, by decide⟩, ?_⟩
    repeat (first | refine rd_here rfl ?_ | refine And.intro (small_line (show List.length _ ≤ 1000 from Nat.le_of_ble_eq_true rfl)) ?_ | refine And.intro (show CPow _ _ from ⟨by decide, by decide, by decide⟩) ?_ | dsimp only)
    rw [addD_lst]
    refine ⟨small_line (by simp [l8]), h _ _ ⟨by simp [l8], by simp [l8], all_app2 a8 (all_cons (pair_smT sp.1 sq.1) (all_cons (pair_smT sp.1 sp.1) (all_cons (pair_sm (by omega) (by omega)) (all_cons (pair_sm (by omega) (by omega)) (all_cons (node_sm (tip_sm sp.1).1 (tip_sm sq.1).1) all_nil)))))⟩ (by omega)⟩
  rintro z zs ρ j8 ⟨y8, a, b, c, d, rfl, hz, hj8, l8, a8⟩
  obtain ⟨q, rfl, hq⟩ := hz z List.mem_cons_self
  simp only [List.length_cons] at l8 hj8
  refine ⟨fun u j9 => ∃ ys, u = .lst ys ∧ j9 ≤ j8 + 8000 ∧ ys.length = y8.length + 3 ∧ ∀ y ∈ ys, SmT y, ?_, ?_⟩
  · repeat (first | refine rd_here rfl ?_ | refine And.intro (small_line (show List.length _ ≤ 1000 from Nat.le_of_ble_eq_true rfl)) ?_ | refine And.intro (show CPow _ _ from ⟨by decide, by decide, by decide⟩) ?_ | dsimp only)
    refine ⟨fun items acc j => j ≤ j8 + 2430 * acc.length ∧ acc.length + items.length = 3 ∧ ∀ y ∈ acc, SmT y, ?_, ?_, ?_⟩
    · exact ⟨⟨by omega, by omega⟩, by simp, rfl, all_nil⟩
    · rintro acc j ⟨hj, hl, ha⟩
      simp only [List.length_nil, Nat.add_zero] at hl
      rw [addD_lst]
      exact ⟨small_line (by omega), _, rfl, by omega, by rw [List.length_append]; omega, all_app2 a8 ha⟩
    · rintro u us acc j ⟨hj, hl, ha⟩
      simp only [List.length_cons] at hl
      have w5 := wc5 (z := q)
      refine rdRaw_here rfl ?_
      repeat (first | refine rd_here rfl ?_ | refine And.intro (small_line (show List.length _ ≤ 1000 from Nat.le_of_ble_eq_true rfl)) ?_ | refine And.intro (show CPow _ _ from ⟨by decide, by decide, by decide⟩) ?_ | dsimp only)
      refine worth_use (deep := 5) hd hq (by decide) (Nat.lt_of_le_of_lt rk5 hN) (by omega) fun t k ht hk => ?_
      exact ⟨small_line (by omega), by simp; omega, by simp; omega, all_app2 ha (all_cons ht.1 all_nil)⟩
  · rintro u j9 ⟨ys, rfl, hj9, hl, ha⟩
    exact ⟨_, _, _, _, _, rfl, fun z hz' => hz z (List.mem_cons_of_mem _ hz'), by omega, by omega, ha⟩
end
end K01
namespace DL
open PySem PySem.Spec PyProof.Rows L2
/-- the rule for a def that is handed a state, whose code object is known, called where no repr is under way -/
theorem fn_pureSCG {κ : Type} {P : Program} {w : World} {K : PySem.W.Frag} {mg : Str → Option Value} {base : Heap} {x qual : Str} {stm : Stmt} {f : Addr} {fd : FuncData} {N ps : List Str} {k : Nat} {C : ConS κ} {cdc : Value} (F : Fun K x qual stm f fd) (Sc : FnScope N ps (defScope stm)) (len : ∀ st i sl P, C.C st i sl P → sl.length = ps.length)
    (hcode : ∀ kV doc pm an cdv ct, fd = PySem.W.fnOf x qual (defArgs stm) (defBody stm) (defScope stm) .none kV doc pm an cdv ct → cdv = cdc)
    (hbody : ∀ (A : Around) (outer : List Env) (s : Shared) (H : Hp) (S : Addr → Prop) (hS : ∀ a, S a → ∃ o, H a = some o) (st : Sta κ) (i0 : κ) (h0 : st.M i0 H), A.guards = some [] → (∀ a, st.fp a → S a) → Room k (A.deeper (envOfC qual (defScope stm) s.heap.objs.size f cdc)) → ∀ sl R, C.C st i0 sl R →
      ∃ T, DBR (famS P w K mg base N qual (defScope stm) f cdc A outer s H S hS st i0 h0) (defBody stm) T ∧ T { nx := fun _ => R .non, rt := R } (startS N.length sl) i0) : FnG P w K mg base CX0 (k + 1) f fd ps (spS K C) := by
  have hpl : ps.length ≤ N.length := by have := congrArg List.length Sc.pre; rw [List.length_take] at this; omega
  obtain ⟨oc, od, kV, doc, pm, an, cdv, ct, osl, rfl, lk, hcd⟩ := F.ex
  obtain rfl := hcode kV doc pm an cdv ct rfl
  refine fnG_of lk hcd Sc (fun vs H Q E ⟨S, st, i, sl, _, _, _, hv, hc⟩ => by rw [hv.len]; exact len _ _ _ _ hc) fun A outer s H vs Q E hgd hr h => ?_
  obtain ⟨S, st, i, sl, hS, hf, h0, hv, hc⟩ := h
  obtain ⟨T, ⟨t, hp, l⟩, hT⟩ := hbody A outer s H S hS st i h0 hgd hf hr sl _ hc
  refine ⟨t, hp.nox, ?_⟩
  refine l S _ H (startS N.length sl) i _ _ (gd_startS (G := (famS P w K mg base N qual (defScope stm) f cdv A outer s H S hS st i h0).at i) ⟨ExF.refl _ _, h0⟩ hS hv (by rw [len _ _ _ _ hc]; exact hpl)) hT ?_
  exact ⟨fun S' σ' H' ρ' j g fr q => q .non H' g.wld.1 g.wld.2 rfl, fun v d H' j hw hv q => q v H' hw.1 hw.2 hv, fun _ _ _ _ _ _ _ z => z.elim, fun _ _ _ _ _ _ _ z => z.elim⟩
section
variable {ι : Type} {G : Fam ι} {pos : Pos} {e tg : Expr}
/-- names set of a tuple, over draws -/
theorem dsr_asg {F : FR ι} {Fg : FG} (he : DR G e F) (hg : ∀ i, DG (G.at i) tg Fg) (hs : swapsWithSole [tg] e pos.line G.X.env = pure false := by rfl) (hw : swappedStores [tg] e G.X.env = pure none := by rfl) (h1 : (assignEach [tg] G.X.env).map (·.2) = [assign tg G.X.env] := by rfl) :
    DSR G (.Assign [tg] e pos) (fun D ρ i => F ρ i fun d j => Fg d ρ fun ρ' => D.nx ρ' j) := by
  obtain ⟨t, p1, l1⟩ := he.ex
  have h' : ∀ i, ∃ t, PG G.X tg t ∧ LiftG (G.at i) t Fg := fun i => (hg i).ex
  have P : PG G.X tg (fun v σ H Q => ∃ u : TG, PG G.X tg u ∧ u v σ H Q) := ⟨fun pins s σ H v u Q I r ⟨t, hp, hq⟩ => hp.run pins s σ H v u Q I r hq⟩
  refine ⟨⟨_, ps_asg p1 P hs hw h1, fun S σ H ρ i D Dh g h q => ?_⟩⟩
  refine l1 S σ H ρ i _ _ g h fun v d H1 j st hv hp => ?_
  obtain ⟨u, pu, lu⟩ := h' j
  exact ⟨u, pu, lu S σ H1 ρ d v _ _ (g.stepI st) hv hp fun σ' ρ' g' hp => q.nx S σ' H1 ρ' j g' (st.fr g) hp⟩
end
/-! ### repr of a truth -/
def boolText (b : Bool) : Str := if b then "True" else "False"
theorem call_reprB {X : Cx} : CallR X (.builtin "repr") (fun xs H Q => ∃ b, xs = [.bl b] ∧ Q (.str (boolText b)) H) := by
  intro pins s σ H xs us Q I r h
  obtain ⟨b, rfl, q⟩ := h
  obtain ⟨u, rfl, ru⟩ := vals1 r
  obtain rfl : u = Value.bool b := ru
  exact PySem.P.repr_of_bool ⟨.str _, H, I.tok _, ⟨_, by cases b <;> rfl⟩, q⟩
section
variable {G : Ctx} {pos : Pos} {a : Expr}
def reprBD (ds : List Dat) (P : Dat → Prop) : Prop := match ds with
  | [.bl b] => P (.str (boolText b))
  | _ => False
theorem serves_reprB : ServesC G (fun xs H Q => ∃ b, xs = [.bl b] ∧ Q (.str (boolText b)) H) reprBD := by
  intro S σ ρ H vs ds P Q g hv h q
  unfold reprBD at h
  split at h
  · rename_i b
    obtain ⟨v, rfl, hd⟩ := dvl1 hv
    obtain rfl : v = .bl b := hd
    exact ⟨b, rfl, q _ (.str _) H (Stp.refl g.wld) rfl h⟩
  · exact h.elim
theorem de_reprB {p : Pos} {Fs : FA} (hm : G.X.mg "repr" = none) (ha : DA G [a] Fs) (hg : Gl G.X "repr" := by rfl) (he : starEach [a] G.X.env = (false, eval a G.X.env) :: starEach [] G.X.env := by rfl) :
    DE G (.Call (.Name "repr" p) [a] [] pos) (fun ρ P => Fs ρ fun ds => reprBD ds P) := de_cb call_reprB serves_reprB hm (by decide +kernel) ha hg (he := he)
end
/-- a def by its name, called with its two parameters' names, the second ahead -/
structure CalleeK2 (P : Program) (w : World) (K : PySem.W.Frag) (mg : Str → Option Value) (base : Heap) (CX : CXT) (x : Str) (k : Nat) (y z : Str) (C : Con) : Prop where
  ex : ∃ f fd, FnOk P w K mg base CX k f fd [y, z] (spD K C) ∧ mg x = some (.ref f) ∧ PySem.W.keepIn K (.ref f) = true ∧ KBinds K fd [y, z] [z, y] (fun us ws => us ++ ws.reverse) (fun vs zs => vs ++ zs.reverse)
section
variable {G : Ctx} {S : Addr → Prop} {σ : L2.St} {H H' : Hp} {ρ : List Slot} {pos : Pos} {e e2 : Expr} {F F2 : FE}
theorem de_fnK2X0 {x y z : Str} {k m : Nat} {C : Con} {p q1 q2 : Pos} (h : CalleeK2 G.X.prog G.X.w G.X.K G.X.mg G.X.base (L2.CX G.X.prog G.X.w) x k y z C) (hr : Room m G.X.A) (he : DE G e F) (he2 : DE G e2 F2) (hk : k ≤ m := by decide) (hg : Gl G.X x := by rfl) (hdb : (x == ("__debug__" : Str)) = false := by decide)
    (hall : (backToKw pos (keywordEach [⟨some z, e, q1⟩, ⟨some y, e2, q2⟩] G.X.env)).all (·.1.isSome) = true := by rfl) (hks : (backToKw pos (keywordEach [⟨some z, e, q1⟩, ⟨some y, e2, q2⟩] G.X.env)).filterMap (·.1) = [z, y] := by rfl)
    (hpl : ((backTo pos (starEach [] G.X.env)).any (·.1) || (backToKw pos (keywordEach [⟨some z, e, q1⟩, ⟨some y, e2, q2⟩] G.X.env)).any (·.1.isNone)) = false := by rfl) :
    DE G (.Call (.Name x p) [] [⟨some z, e, q1⟩, ⟨some y, e2, q2⟩] pos) (fun ρ P => F ρ fun d => F2 ρ fun d2 => C.C [d2, d] P (fun _ => False)) := by
  obtain ⟨f, fd, F1, hm, hkp, hb⟩ := h.ex
  obtain ⟨t, h, l⟩ := he.ex
  obtain ⟨t2, h2, l2⟩ := he2.ex
  refine ⟨⟨_, pe_callK0 F1 (hr.mono hk) hg hm hkp hb passL (pk_cons h (pk_cons h2 pk_nil)) hall hks hdb hpl, fun S σ H ρ P Q g h q => ?_⟩⟩
  refine l S σ H ρ _ _ g h fun v d H1 st hv hp => ?_
  refine l2 S σ H1 ρ _ _ (g.step st) hp fun v2 d2 H2 st2 hv2 hp => ?_
  exact spD_use (vs := [v2, v]) (ds := [d2, d]) ((g.step st).step st2) ⟨v2, [v], rfl, hv2, v, [], rfl, st2.dv (g.step st) hv, rfl⟩ hp fun v d H3 st3 => q v d H3 ((st.trans st2).trans st3)
theorem de_fnK2 {x y z : Str} {k m : Nat} {C : Con} {p q1 q2 : Pos} (h : CalleeK2 G.X.prog G.X.w G.X.K G.X.mg G.X.base CX0 x k y z C) (hr : Room m G.X.A) (he : DE G e F) (he2 : DE G e2 F2) (hk : k ≤ m := by decide) (hg : Gl G.X x := by rfl) (hdb : (x == ("__debug__" : Str)) = false := by decide)
    (hall : (backToKw pos (keywordEach [⟨some z, e, q1⟩, ⟨some y, e2, q2⟩] G.X.env)).all (·.1.isSome) = true := by rfl) (hks : (backToKw pos (keywordEach [⟨some z, e, q1⟩, ⟨some y, e2, q2⟩] G.X.env)).filterMap (·.1) = [z, y] := by rfl)
    (hpl : ((backTo pos (starEach [] G.X.env)).any (·.1) || (backToKw pos (keywordEach [⟨some z, e, q1⟩, ⟨some y, e2, q2⟩] G.X.env)).any (·.1.isNone)) = false := by rfl) :
    DE G (.Call (.Name x p) [] [⟨some z, e, q1⟩, ⟨some y, e2, q2⟩] pos) (fun ρ P => F ρ fun d => F2 ρ fun d2 => C.C [d2, d] P (fun _ => False)) := by
  obtain ⟨f, fd, F1, hm, hkp, hb⟩ := h.ex
  obtain ⟨t, h, l⟩ := he.ex
  obtain ⟨t2, h2, l2⟩ := he2.ex
  refine ⟨⟨_, pe_callK0 F1 (hr.mono hk) hg hm hkp hb pass0 (pk_cons h (pk_cons h2 pk_nil)) hall hks hdb hpl, fun S σ H ρ P Q g h q => ?_⟩⟩
  refine l S σ H ρ _ _ g h fun v d H1 st hv hp => ?_
  refine l2 S σ H1 ρ _ _ (g.step st) hp fun v2 d2 H2 st2 hv2 hp => ?_
  exact spD_use (vs := [v2, v]) (ds := [d2, d]) ((g.step st).step st2) ⟨v2, [v], rfl, hv2, v, [], rfl, st2.dv (g.step st) hv, rfl⟩ hp fun v d H3 st3 => q v d H3 ((st.trans st2).trans st3)
end
end DL
namespace K01
open PySem PySem.Spec PyProof.Rows L2 DL LamX
/-! ### less, looked at -/
theorem less_use {CB : Addr} {d e : Dat} {P : Dat → Prop} {X : Exc → Prop} (h : SmV d) (h2 : SmV e) (hd : fracB d = true) (he : fracB e = true) (q : P (.bl (belowB d e))) : (c_less CB).C [d, e] P X := ⟨d, e, rfl, h, h2, (fun z => by rw [hd] at z; cases z), (fun _ z => by rw [he] at z; cases z), fun _ _ => q⟩
theorem less_one {CB : Addr} {d e : Dat} {P : Dat → Prop} {X : Exc → Prop} (h : SmV d) (h2 : SmV e) (hd : fracB d = false) (q : X (badX CB "one")) : (c_less CB).C [d, e] P X := ⟨d, e, rfl, h, h2, (fun _ => q), (fun z => by rw [hd] at z; cases z), fun z => by rw [hd] at z; cases z⟩
theorem less_other {CB : Addr} {d e : Dat} {P : Dat → Prop} {X : Exc → Prop} (h : SmV d) (h2 : SmV e) (hd : fracB d = true) (he : fracB e = false) (q : X (badX CB "other")) : (c_less CB).C [d, e] P X := ⟨d, e, rfl, h, h2, (fun z => by rw [hd] at z; cases z), (fun _ _ => q), fun _ z => by rw [he] at z; cases z⟩
theorem below_use {d e : Dat} {P : Dat → Prop} {X : Exc → Prop} (h : NumOk d) (h2 : NumOk e) (q : P (.bl (belowB d e))) : c_is_below.C [d, e] P X := ⟨(d, e), rfl, ⟨⟨frac_rat h.1, num_smR h⟩, frac_rat h2.1, num_smR h2⟩, q⟩
def conLess (Pt : Addr) (q : Str) : ConS (Nat × Unit) := ⟨fun st n sl P => ∃ (v : V) (sd : Sta Nat), IsDraw sd v ∧ st = staAnd sd (tabSta Pt q) ∧ ¬ sd.fp Pt ∧ sl = [.raw v] ∧ n.1 + 200000 < manyDraws ∧ ∀ j : Nat × Unit, j.1 ≤ n.1 + 200000 → P (.bl true) j,
  fun _ _ _ _ _ ⟨v, sd, h0, e, h1, e2, h2, h⟩ m => ⟨v, sd, h0, e, h1, e2, h2, fun j a => m _ _ (h j a)⟩⟩
theorem reprB_eq {b : Bool} {P : Dat → Prop} : reprBD [.bl b] P = P (.str (boolText b)) := rfl
theorem neS_same {x : Str} {P : Dat → Prop} (h : P (.bl false)) : neD (.str x) (.str x) P := by rw [neD_str, decide_eq_true rfl]; exact h
section
variable {P : Program} {w : World} {K : PySem.W.Frag} {mg : Str → Option Value} {base : Heap} {f f2 : Addr} {fd fd2 : FuncData} {k : Nat}
abbrev s__law_less_right : Stmt := topS 41
theorem sc__law_less_right : FnScope ["m", "p", "q", "odd", "told"] ["m"] (defScope s__law_less_right) := ⟨rfl, rfl, rfl, by decide +kernel, rfl, by decide +kernel, by decide +kernel⟩
abbrev qLess : Str := (envOfC "_law_less_right" (defScope s__law_less_right) 0 0 .none).qual ++ "<lambda>"
theorem ok_law_less_right {CB CT CN c Pt : Addr} {j N : Nat} (hj : j + 3 ≤ k) (hN : 0 < N) (B : Bt mg) (T : ToldA P w K mg base CB CT CN j) (F_less : CalleeX P w K mg base "less" j ["one", "other"] (c_less CB)) (K_less : CalleeK2 P w K mg base (L2.CX P w) "less" j "one" "other" (c_less CB))
    (F_worth : CalleeS P w K mg base "_law_worth" k ["m", "kind", "deep"] (conWorth N)) (F_near : CalleeS P w K mg base "_law_near" k ["m"] conNear) (F_draw : CalleeS P w K mg base "_law_draw" k ["m", "top"] conDraw) (F_below : Callee P w K mg base "_law_below" k ["p", "q"] c_is_below) (F_is : Callee P w K mg base "_law_is_lowest" k ["it"] c_is_lowest)
    (TB : TabB base mg c Pt) (hcode : ∀ kV doc pm an cdv ct, fd = PySem.W.fnOf "_law_less_right" "_law_less_right" (defArgs s__law_less_right) (defBody s__law_less_right) (defScope s__law_less_right) .none kV doc pm an cdv ct → cdv = .ref c)
    (F : Fun K "_law_less_right" "_law_less_right" s__law_less_right f fd) : FnOk P w K mg base CX0 (k + 1) f fd ["m"] (spS K (conLess Pt qLess)) := by
  refine fn_pureSC F sc__law_less_right (fun st i sl P ⟨v, sd, _, _, _, e, _⟩ => by rw [e]; rfl) hcode fun A outer s H S hS st i0 h0 hf hr sl R hc => ?_
  have nd := sc__law_less_right.nd
  obtain ⟨v, sd, hd, rfl, hnp, rfl, hn, hR⟩ := hc
  have L : ∀ {sc : Scope}, lamSB (defScope s__law_less_right) sc = true → LamS (defScope s__law_less_right) sc := fun h => lamS_by h
  have hdis : ∀ a, (tabSta Pt qLess).fp a → ¬ sd.fp a := fun a e z => hnp (by rw [← (show a = Pt from e)]; exact z)
  have gs := gs_self (P := P) (w := w) (K := K) (mg := mg) (base := base) (N := ["m", "p", "q", "odd", "told"]) (qual := "_law_less_right") (sc := defScope s__law_less_right) (f := f) (cdv := .ref c) (A := A) (outer := outer) (s := s) (hS := hS) (h0 := h0) hf
  have gD := gs.subS (sub_fst hdis)
  have gT := gs.subS (sub_snd hdis)
  refine ⟨_, (dbr_cons (dsr_asg (dr_tup (dar_cons (dr_fnS gD F_worth hr (dsl_raw 0 (dsl_d (dr_of fun i => de_str) (dsl_d (dr_of fun i => de_int) dsl_nil))) (by omega)) (dar_cons (dr_fnS gD F_worth hr (dsl_raw 0 (dsl_d (dr_of fun i => de_str) (dsl_d (dr_of fun i => de_int) dsl_nil))) (by omega)) (dar_cons (dr_ix (dr_fnS gD F_near hr (dsl_raw 0 dsl_nil) (by omega)) (dr_fnS gD F_draw hr (dsl_raw 0 (dsl_d (dr_of fun i => de_int) dsl_nil)) (by omega))) dar_nil)))) (fun i => dg_tup 3 rfl (dgs_cons (dg_name 1 nd) (dgs_cons (dg_name 2 nd) (dgs_cons (dg_name 3 nd) dgs_nil)))))
    (dbr_cons (dsr_of fun i => ds_ifc (dt_w (dw_or (dt_ne hr.units (de_reprB B.repr (da_cons (de_fnX0 F_less hr (da_cons (de_var 1) (da_cons (de_var 2) da_nil)) (by omega)) da_nil)) (de_reprB B.repr (da_cons (de_fn F_below hr (da_cons (de_var 1) (da_cons (de_var 2) da_nil)) (by omega)) da_nil))) (dw_or1 (dt_ne hr.units (de_reprB B.repr (da_cons (de_fnK2X0 K_less hr (de_var 1) (de_var 2) (by omega)) da_nil)) (de_reprB B.repr (da_cons (de_fn F_below hr (da_cons (de_var 2) (da_cons (de_var 1) da_nil)) (by omega)) da_nil)))))) (db_one (ds_ret de_bl)) db_nil)
    (dbr_cons (dsr_of fun i => ds_ifc (dt_val (de_fn F_is hr (da_cons (de_var 3) da_nil) (by omega))) (db_one (ds_ret de_bl)) db_nil)
    (dbr_cons (dsr_setOwn 4 (dar_cons (dr_toldA gT T TB rfl hr (L (by decide +kernel)) (fun A outer s HL f c' H S hS E EX el hr' => de_fnX F_less hr' (da_cons (de_var 3) (da_cons (de_var 2) da_nil)) (by omega)) (hk := by omega) (hq := rfl)) dar_nil) nd)
    (dbr_cons (dsr_append 4 (he := dr_toldA gT T TB rfl hr (L (by decide +kernel)) (fun A outer s HL f c' H S hS E EX el hr' => de_fnX F_less hr' (da_cons (de_var 1) (da_cons (de_var 3) da_nil)) (by omega)) (hk := by omega) (hq := rfl)))
    (dbr_cons (dsr_append 4 (he := dr_toldA gT T TB rfl hr (L (by decide +kernel)) (fun A outer s HL f c' H S hS E EX el hr' => de_fnX F_less hr' (da_cons (de_var 3) (da_cons (de_var 3) da_nil)) (by omega)) (hk := by omega) (hq := rfl)))
    (dbr_one (dsr_freeze (dsr_ret (dr_of fun i => de_eq hr.units (de_var 4) (de_lst (da_cons (de_tup (da_cons de_str (da_cons de_str da_nil))) (da_cons (de_tup (da_cons de_str (da_cons de_str da_nil))) (da_cons (de_tup (da_cons de_str (da_cons de_str da_nil))) da_nil)))))))))))))), ?_⟩
  refine rdRaw_here rfl (num_use hd hN (by omega) fun p j1 hp g1 => ?_)
  refine rdRaw_here rfl (num_use hd hN (by dsimp only; omega) fun q j2 hq g2 => ?_)
  dsimp only at g1 g2
  refine rdRaw_here rfl ?_
  refine ⟨v, hd, rfl, by dsimp only; omega, fun ys j3 hys g3 => ?_⟩
  dsimp only at g3
  refine rdRaw_here rfl (draw_use hd (by decide) (by decide) (by dsimp only; omega) fun x hx0 hx1 => ?_)
  refine ixL_use hx0 (by have := hys.1; omega) fun odd hodd => ?_
  have so := hys.2.2 odd hodd
  have sp := num_smT hp
  have sq := num_smT hq
  refine ⟨show 3 ≤ sizeLine by decide, ?_⟩
  simp only [tupD_tup, consD_cons]
  refine ⟨by simp, trivial, ?_⟩
  refine ⟨(· = false), ?_, fun e => (nomatch e), fun _ => ?_⟩
  · (repeat first | (refine rd_here rfl ?_) | (refine ownL_here rfl ?_) | (dsimp only))
    refine less_use sp.1 sq.1 hp.1 hq.1 ?_
    (repeat first | (refine rd_here rfl ?_) | (refine ownL_here rfl ?_) | (dsimp only))
    refine below_use hp hq ?_
    rw [reprB_eq]
    refine neS_same ?_
    rw [isB_bl, if_neg (by decide)]
    (repeat first | (refine rd_here rfl ?_) | (refine ownL_here rfl ?_) | (dsimp only))
    refine less_use sq.1 sp.1 hq.1 hp.1 ?_
    (repeat first | (refine rd_here rfl ?_) | (refine ownL_here rfl ?_) | (dsimp only))
    refine below_use hq hp ?_
    rw [reprB_eq]
    exact neS_same rfl
  refine ⟨(· = fracB odd), ?_, fun e => ?_, fun e => ?_⟩
  · (repeat first | (refine rd_here rfl ?_) | (refine ownL_here rfl ?_) | (dsimp only))
    exact con1_C.mpr ⟨so.1, rfl⟩
  · exact hR _ (by dsimp only; omega)
  have hno : fracB odd = false := e.symm
  refine ⟨(· = .tup [.str "value", .str "one"]), ?_, fun d e => ?_⟩
  · intros
    (repeat first | (refine rd_here rfl ?_) | (refine ownL_here rfl ?_) | (dsimp only))
    exact less_one so.1 sq.1 hno ⟨_, toldD_bad, rfl⟩
  cases e
  refine ⟨show 1 ≤ sizeLine by decide, ?_⟩
  refine ownL_here rfl ?_
  refine ⟨(· = .tup [.str "value", .str "other"]), ?_, fun d e => ?_⟩
  · intros
    (repeat first | (refine rd_here rfl ?_) | (refine ownL_here rfl ?_) | (dsimp only))
    exact less_other sp.1 so.1 hp.1 hno ⟨_, toldD_bad, rfl⟩
  cases e
  refine ⟨show 1 < sizeLine by decide, ?_⟩
  refine ownL_here rfl ?_
  refine ⟨(· = .tup [.str "value", .str "one"]), ?_, fun d e => ?_⟩
  · intros
    (repeat first | (refine rd_here rfl ?_) | (refine ownL_here rfl ?_) | (dsimp only))
    exact less_one so.1 so.1 hno ⟨_, toldD_bad, rfl⟩
  cases e
  refine ⟨show 2 < sizeLine by decide, ?_⟩
  (repeat first | (refine rd_here rfl ?_) | (refine ownL_here rfl ?_) | (dsimp only))
  refine ⟨show 2 ≤ sizeLine by decide, show 2 ≤ sizeLine by decide, show 2 ≤ sizeLine by decide, show 3 ≤ sizeLine by decide, ?_⟩
  exact eqD_same (P := fun d => R d _) (by unfold Lay; decide +kernel) (by decide +kernel) (hR _ (by dsimp only; omega))
end
end K01
namespace DL
open PySem PySem.Spec PyProof.Rows L2 LamX
/-! ### the end of a row whose law is a def that asks for no repr under way, with some tables -/
section
variable {P : Program} {w : World} {K : PySem.W.Frag} {mg mb : Str → Option Value} {k : Nat} {fa a : Addr} {Cs : List (Addr × Addr)} {fd : FuncData} {x : Str} {sp : Sp} {s : Shared} {vs : List Value} {ns : List Int}
abbrev InT (Cs : List (Addr × Addr)) (b : Addr) : Prop := ∃ c, (c, b) ∈ Cs
/-- what is tracked at the start: the tables, and the script where the module does not hold it -/
structure OnlyTs (K : PySem.W.Frag) (a : Addr) (Cs : List (Addr × Addr)) (vs : List Value) (ns : List Int) (H : Hp) : Prop where
  tab : ∀ T, InT Cs T → H T = some (.tbl #[])
  one : ∀ b u, H b = some u → (InT Cs b ∧ u = .tbl #[]) ∨ (b = a ∧ u = .frz { cls := .type "list", data := .seq vs.toArray } (.lst (ns.map V.int)) ∧ K.lookup a = none)
  scr : SqL K H a (ns.map V.int)
theorem onlyTs_ex (KX : K.In s.heap) (hT : ∀ T, InT Cs T → s.heap.get? T = some { cls := .none, data := .fields #[] }) (ha : s.heap.get? a = some { cls := .type "list", data := .seq vs.toArray }) (hi : IntsAre vs ns) (hl : ns.length ≤ sizeLine) : ∃ H, OnlyTs K a Cs vs ns H := by
  have aT : ¬ InT Cs a := fun z => by
    have q := hT a z
    rw [ha] at q
    injection q with q
    injection q with _ _ q _
    cases q
  obtain ⟨H0, h1, h2⟩ : ∃ H0 : Hp, (∀ T, InT Cs T → H0 T = some (.tbl #[])) ∧ ∀ b u, H0 b = some u → InT Cs b ∧ u = .tbl #[] := by
    refine ⟨fun b => if (Cs.map (·.2)).contains b then some (.tbl #[]) else none, fun T ⟨c, hc⟩ => ?_, fun b u z => ?_⟩
    · exact if_pos (List.contains_iff_mem.mpr (List.mem_map.mpr ⟨_, hc, rfl⟩))
    · dsimp only at z
      by_cases hb : (Cs.map (·.2)).contains b = true
      · rw [if_pos hb] at z
        cases z
        obtain ⟨⟨c, b'⟩, hc, rfl⟩ := List.mem_map.mp (List.contains_iff_mem.mp hb)
        exact ⟨⟨c, hc⟩, rfl⟩
      · rw [if_neg hb] at z
        cases z
  cases hk : K.lookup a with
  | some o =>
    have e := KX a o hk
    rw [ha] at e
    injection e with e
    subst e
    exact ⟨H0, h1, fun b u z => .inl (h2 b u z), .inr ⟨_, vs.toArray, _, hk, rfl, rfl, rfl, by rw [List.size_toArray, hi.length]; exact hl, by simpa using vals_ints hi⟩⟩
  | none =>
    refine ⟨upd H0 a (.frz { cls := .type "list", data := .seq vs.toArray } (.lst (ns.map V.int))), fun T hc => by rw [upd_ne (fun z => aT (by rw [← z]; exact hc))]; exact h1 T hc, fun b u z => ?_, .inl (.inr ⟨_, upd_same⟩)⟩
    by_cases hb : b = a
    · rw [hb, upd_same] at z
      cases z
      exact .inr ⟨hb, rfl, hk⟩
    · rw [upd_ne hb] at z
      exact .inl (h2 b u z)
theorem law_callGs (KX : K.In s.heap) (hns : s.heap.Ns mainGlobals mg) (hb : s.heap.Ns builtinsNs mb) (hbb : ∀ x : Str, x ≠ "__name__" → mb x = bootBuiltins x) (hlim : s.heap.NoLimit) (hg : s.gens = #[]) (hT : ∀ T, InT Cs T → s.heap.get? T = some { cls := .none, data := .fields #[] }) (nT : ∀ T, InT Cs T → K.lookup T = none) (C : ∀ p ∈ Cs, PySem.W.CodeHd s.heap p.1 p.2)
    (hbm : ∃ (bm : Addr) (ob : Obj), mg "__builtins__" = some (.ref bm) ∧ bm ≠ builtinsNs ∧ s.heap.get? bm = some ob ∧ ob.cls = .type "module" ∧ ob.dict = some builtinsNs ∧ ob.data = .plain) (ha : s.heap.get? a = some { cls := .type "list", data := .seq vs.toArray }) (hi : IntsAre vs ns) (hl : ns.length ≤ sizeLine) (hr : Room k callerA)
    (F : ∀ base : Heap, K.In base → base.Ns mainGlobals mg → (∀ p ∈ Cs, TabB base mg p.1 p.2) → FnG P w K mg base CX0 k fa fd [x] sp) (hbind : ∀ (s : Shared) (u : Value), BindsTo s fd ⟨[u], []⟩ [(x, u)]) (hsp : ∀ H : Hp, OnlyTs K a Cs vs ns H → sp [.ref a] H (fun v _ => v = .bl true) fun _ _ _ => False) :
    codeAny (model P w) callerA (.call (.ref fa) ⟨[.ref a], []⟩) (fun r s' => r = .ok (.ret (.bool true)) ∧ OldK s.heap s'.heap ∧ s'.os = s.os ∧ AllBare s'.gens) s := by
  obtain ⟨H, O⟩ := onlyTs_ex (Cs := Cs) KX hT ha hi hl
  have other : ∀ {b : Addr} {o : Obj}, s.heap.get? b = some o → (∀ vs n, o.data ≠ .seq vs n) → o.data ≠ .fields #[] → H b = none := fun {b o} e h1 h2 => by
    cases q : H b with
    | none => rfl
    | some u =>
      rcases O.one b u q with ⟨e', _⟩ | ⟨e', _⟩
      · rw [hT b e'] at e
        injection e with e
        subst e
        exact (h2 rfl).elim
      · rw [e', ha] at e
        injection e with e
        subst e
        exact (h1 _ _ rfl).elim
  have dictN : ∀ {b : Addr} {o : Obj} {es : Array DictEntry} {ep : Nat}, s.heap.get? b = some o → o.data = .dict es ep → H b = none := fun {b o es ep} e d => other e (fun vs n z => by rw [d] at z; cases z) (fun z => by rw [d] at z; cases z)
  have down : ∀ {b : Addr} {o : Obj}, s.heap.get? b = some o → H b = none → (hidT s.heap H).get? b = some o := fun e n => hidT_get e n
  have nsD : ∀ {b : Addr} {m : Str → Option Value}, s.heap.Ns b m → (hidT s.heap H).Ns b m := fun {b m} ⟨o, es, ep, e, d, r⟩ => ⟨o, es, ep, down e (dictN e d), d, r⟩
  have KB : K.In (hidT s.heap H) := fun b o e => down (KX b o e) (by
    cases q : H b with
    | none => rfl
    | some u =>
      rcases O.one b u q with ⟨e', _⟩ | ⟨e', _, e2⟩
      · rw [nT b e'] at e; cases e
      · rw [e', e2] at e; cases e)
  have M : L2.Mod K mg (hidT s.heap H) := ⟨KB, nsD hns, ⟨mb, nsD hb, hbb⟩, let ⟨mc, h1, h2⟩ := hlim; ⟨mc, nsD h1, h2⟩⟩
  have noG : ∀ {b : Addr}, s.heap.get? b = some { cls := .none, data := .fields #[] } ∨ (∃ ob, s.heap.get? b = some ob ∧ ob.data = .plain) → b ≠ mainGlobals := fun {b} h z => by
    obtain ⟨o, es, ep, e, hd, _⟩ := hns
    rw [z] at h
    rcases h with h | ⟨ob, h, h2⟩
    · rw [e] at h; injection h with h; subst h; cases hd
    · rw [e] at h; injection h with h; subst h; rw [hd] at h2; cases h2
  have TB : ∀ p ∈ Cs, TabB (hidT s.heap H) mg p.1 p.2 := fun p hp => by
    have tp := hT p.2 ⟨p.1, hp⟩
    refine ⟨?_, ?_, fun z => noG (.inl tp) z.symm⟩
    · obtain ⟨o, us, file, tf, flags, tg, inF, text, tt, e1, r1, r2, r3, rest⟩ := C p hp
      exact ⟨o, us, file, tf, flags, tg, inF, text, tt, down e1 (other e1 (fun vs n z => by rw [r2] at z; cases z) fun z => by rw [r2] at z; cases z; simp at r3), r1, r2, r3, rest⟩
    · obtain ⟨bm, ob, b1, b2, b3, b4, b5, b6⟩ := hbm
      refine ⟨bm, ob, b1, b2, noG (.inr ⟨ob, b3, b6⟩), fun q => ?_, down b3 (other b3 (fun vs n z => by rw [b6] at z; cases z) fun z => by rw [b6] at z; cases z), b4, b5, b6⟩
      rw [q, tp] at b3
      injection b3 with b3
      subst b3
      cases b6
  have hokH : HOk P w H s.heap := fun b u e => by
    rcases O.one b u e with ⟨h, rfl⟩ | ⟨rfl, rfl, _⟩
    · exact hT b h
    · exact ⟨ha, by rw [List.length_map]; exact hl, vs, _, vals_ints hi, ha⟩
  have start : Env0 P w K mg (hidT s.heap H) callerA [] s H := ⟨rfl, M, fun b o e => of_hidT e, Nat.le_of_eq (hidT_size _ _), trivial, fun b hb => (List.not_mem_nil hb).elim, hokH, .of_eq hg⟩
  refine codeAny_mono ((F _ KB (nsD hns) TB).run callerA [] s H ⟨[.ref a], []⟩ [.ref a] [.ref a] _ _ hr rfl start (hbind s (.ref a)) (.cons rfl .nil) (hsp H O)) fun r s' h => ?_
  match r, h with
  | .error e, h => exact (show False from h).elim
  | .ok .next, h => exact False.elim h
  | .ok .brk, h => exact False.elim h
  | .ok .cont, h => exact False.elim h
  | .ok (.ret u), ⟨v, H', os, bare, un, hok', rv, qv⟩ =>
    obtain rfl : v = .bl true := qv
    obtain rfl : u = Value.bool true := rv
    have stays : ∀ b o, ¬ InT Cs b → s.heap.get? b = some o → s'.heap.get? b = some o := fun b o nb e => by
      cases q : H b with
      | none => exact un.keep b o e q (fun z => (List.not_mem_nil (show b ∈ ([] : List Addr) from z)).elim) (fun z => (List.not_mem_nil z).elim)
      | some u =>
        rcases O.one b u q with ⟨e', _⟩ | ⟨_, rfl, _⟩
        · exact absurd e' nb
        · obtain ⟨e1, _⟩ := hokH b _ q
          obtain ⟨e2, _⟩ := hok' b _ (un.frzs b _ _ q)
          rw [e] at e1
          rw [e2, e1]
    have grown : ∀ T, InT Cs T → ∃ more, s'.heap.get? T = some { cls := .none, data := .fields more } := fun T h => by
      obtain ⟨more, hm⟩ := un.tbls T #[] (O.tab T h)
      have hm' : s'.heap.get? T = some { cls := .none, data := .fields (#[] ++ more) } := hok' T _ hm
      rw [Array.empty_append] at hm'
      exact ⟨more, hm'⟩
    refine ⟨rfl, ⟨fun b o e => ?_, fun b o e => ?_⟩, os, bare⟩
    · by_cases hbT : InT Cs b
      · obtain ⟨more, hm'⟩ := grown b hbT
        have tb := hT b hbT
        obtain ⟨c, hc⟩ := hbT
        rw [tb] at e
        injection e with e
        subst e
        exact .inr (.inl ⟨((C _ hc).tab tb).isCodeTable, rfl, #[], more, rfl, by rw [Array.empty_append]; exact hm'⟩)
      · exact .inl (stays b o hbT e)
    · by_cases hbT : InT Cs b
      · obtain ⟨more, hm'⟩ := grown b hbT
        exact ⟨_, hm'⟩
      · exact ⟨o, stays b o hbT e⟩
/-- what the head's heap must say of the law -/
def LawAtGs (l : PySem.W.OpenLaw) (w : World) (K : PySem.W.Frag) (k n : Nat) (x : Str) (mg : Str → Option Value) (fa : Addr) (h : Heap) : Prop := ∃ (fd : FuncData) (Cs : List (Addr × Addr)) (sp : Sp), (∀ T, InT Cs T → h.get? T = some { cls := .none, data := .fields #[] }) ∧ (∀ T, InT Cs T → K.lookup T = none) ∧ (∀ p ∈ Cs, PySem.W.CodeHd h p.1 p.2) ∧ (∀ (s : Shared) (u : Value), BindsTo s fd ⟨[u], []⟩ [(x, u)]) ∧
  (∀ (H : Hp) (a : Addr) (vs : List Value) (ns : List Int), ns.length ≤ n → OnlyTs K a Cs vs ns H → sp [.ref a] H (fun v _ => v = .bl true) fun _ _ _ => False) ∧ ∀ base : Heap, K.In base → base.Ns mainGlobals mg → (∀ p ∈ Cs, TabB base mg p.1 p.2) → FnG l.prog w K mg base CX0 k fa fd [x] sp
theorem walk_ofGs {l : PySem.W.OpenLaw} {n k : Nat} {q : Program} {loose : List Str} {XP : (Str → Option Value) → Heap → Prop} {YP : World → Heap → Prop} {d : DefRec} {K : Params → PySem.W.Frag} {x : Str} (hn : l.most = some n) (hn2 : n ≤ sizeLine) (hdf : d.params.defaults = []) (hr : Room k callerA) (hY : ∀ (w : World) (h : Heap), YP w h → (K w.params).In h)
    (F : ∀ (w : World) (mg : Str → Option Value) (fa : Addr) (h : Heap), YP w h → (K w.params).In h → h.Ns mainGlobals mg → mg d.name = some (.ref fa) → LawAtGs l w (K w.params) k n x mg fa h) : PySem.W.WalkO q loose XP YP l.row.toRowW d [] (fun f vs => PySem.call f vs) :=
  Att.attach_callB hn hdf fun w s₀ s₁ mg mb fa o pm cd doc a vs ns G Y ho hd hcd hmg hobj hints hlen hbits hg => by
    have KX := hY w _ Y
    obtain ⟨fd, Cs, sp, hT, nT, C, hb, hsp, hF⟩ := F w mg fa _ Y KX G.T.g hmg
    exact law_callGs KX G.T.g G.T.b G.T.builtins G.T.nolimit hg hT nT C G.T.bmain hobj hints (Nat.le_trans hlen hn2) hr hF hb fun H O => hsp H a vs ns hlen O
end
end DL
namespace K01
open PySem PySem.Spec PyProof.Rows L2 DL LamX
/-! ### the law -/
theorem dvl_ints {K : PySem.W.Frag} {S : Addr → Prop} {H : Hp} : ∀ {l : List Int} {vs : List V}, DvL K S H (l.map Dat.int) vs → vs = l.map V.int
  | [], _, e => e
  | x :: l, vs, e => by
    obtain ⟨v, r, rfl, h1, h2⟩ := (e : ∃ v r, vs = v :: r ∧ Dv K S H (.int x) v ∧ DvL K S H (l.map Dat.int) r)
    rw [List.map_cons, dvl_ints h2, dv_int h1]
theorem zip_back {α β : Type} : ∀ l : List (α × β), (l.map (·.1)).zip (l.map (·.2)) = l
  | [] => rfl
  | x :: l => by rw [List.map_cons, List.map_cons, List.zip_cons_cons, zip_back l]
def spLaw2 (K : PySem.W.Frag) (P1 P2 : Addr) (q1 q2 : Str) : Sp := fun vs H Q E => ∃ (ns : List Int) (v : V), vs = [v] ∧ ns.length ≤ 63 ∧ ScrOk K (fun x => x = P1 ∨ x = P2) H ns v ∧ TabS H P1 q1 ∧ TabS H P2 q2 ∧ ∀ H', Q (.bl true) H'
theorem repr_two (a : Bool) {P : Dat → Prop} (h : P (.str (toP (.lst [.bl a, .bl a])).shown)) : reprD [.lst [.bl a, .bl a]] P := by
  refine ⟨by cases a <;> rfl, by cases a <;> rfl, by cases a <;> rfl, by cases a <;> decide, ?_, h⟩
  cases a <;> decide +kernel
def half : Dat := .tup [.int 0, .int 1]
def toldL : List Dat := [.lst [.int 0, .int 0], .lst [half, half], .lst [.tup [.str "tip", half], .tup [.str "tip", half]], .lst [.tup [], .tup []], .lst [.int 0, .int 0]]
theorem told_repr {P : Dat → Prop} (h : P (.str (toP (.lst toldL)).shown)) : reprD [.lst toldL] P := ⟨by decide +kernel, by decide +kernel, by decide +kernel, by decide +kernel, by decide +kernel, h⟩
theorem eqS_same {x : Str} {P : Dat → Prop} (h : P (.bl true)) : eqD (.str x) (.str x) P := by rw [eqD_str, decide_eq_true rfl]; exact h
theorem plain_use {CB : Addr} {d : Dat} {P : Dat → Prop} {X : Exc → Prop} (hd : isSort d = true) (q : P (plainOf d)) : (c_plain_value CB).C [d] P X := ⟨d, rfl, fun _ => q, fun z => by rw [hd] at z; cases z⟩
section
variable {P : Program} {w : World} {K : PySem.W.Frag} {mg : Str → Option Value} {base : Heap} {f f2 : Addr} {fd fd2 : FuncData} {k : Nat}
abbrev s_law : Stmt := topS 42
theorem sc_law : FnScope ["script", "m", "it", "kind", "due", "turn", "odd", "told", "worth"] ["script"] (defScope s_law) := ⟨rfl, rfl, rfl, by decide +kernel, rfl, by decide +kernel, by decide +kernel⟩
abbrev qLaw : Str := (envOfC "law" (defScope s_law) 0 0 .none).qual ++ "<lambda>"
theorem ok_law {CB CT CN c2 P1 P2 : Addr} {jj : Nat} (hjj : jj + 3 ≤ k) (h12 : P1 ≠ P2) (B : Bt mg) (T : ToldA P w K mg base CB CT CN jj) (F_begun : CalleeL P w K mg base "_law_begun" k ["script"] conBegun) (F_less_right : CalleeS P w K mg base "_law_less_right" k ["m"] (conLess P1 qLess)) (F_near : CalleeS P w K mg base "_law_near" k ["m"] conNear)
    (F_far : Callee P w K mg base "_law_far" k [] c_far) (F_is : Callee P w K mg base "_law_is_lowest" k ["it"] c_is_lowest) (F_is_worth : Callee P w K mg base "_law_is_worth" k ["it", "kind"] c_is_worth) (F_is_value : Callee P w K mg base "is_value" k ["thing", "sort"] c_is_value) (K_is_value : CalleeK2 P w K mg base CX0 "is_value" k "thing" "sort" c_is_value)
    (F_is_frac : Callee P w K mg base "is_fraction" k ["thing"] c_is_fraction) (K_is_frac : CalleeK P w K mg base CX0 "is_fraction" k ["thing"] c_is_fraction) (F_plain : CalleeX P w K mg base "plain_value" jj ["sort"] (c_plain_value CB)) (K_plain : CalleeK P w K mg base (L2.CX P w) "plain_value" jj ["sort"] (c_plain_value CB))
    (TB : TabB base mg c2 P2) (hcode : ∀ kV doc pm an cdv ct, fd = PySem.W.fnOf "law" "law" (defArgs s_law) (defBody s_law) (defScope s_law) .none kV doc pm an cdv ct → cdv = .ref c2)
    (F : Fun K "law" "law" s_law f fd) : FnG P w K mg base CX0 (k + 1) f fd ["script"] (spLaw2 K P1 P2 qLess qLaw) := by
  obtain ⟨oc, od, kV, doc, pm, an, cdv, ct, osl, rfl, lk, hcd⟩ := F.ex
  obtain rfl := hcode kV doc pm an cdv ct rfl
  obtain ⟨fb, fdb, Fb, mb, kb, bb⟩ := F_begun.ex
  refine fnG_of lk hcd sc_law (fun vs H Q E ⟨ns, v, e, _⟩ => by rw [e]; rfl) fun A outer s H vs Q E hgd hr h => ?_
  obtain ⟨ns, v, rfl, hns, hsc, hT1, hT2, hQ⟩ := h
  have nd := sc_law.nd
  refine ⟨_, (pss_cons (ps_set (i := 1) nd rfl (Or.inl rfl) (pe_call Fb hr (by rfl) mb kb bb .nil pass0 (pa_cons (pv 0) pa_nil)) rfl (.inr rfl)) pss_any).nox, ?_⟩
  refine ⟨v, rfl, fun x => x = P1 ∨ x = P2, [.scr ns], fun a e => ?_, ⟨v, [], rfl, hsc, rfl⟩, ns, rfl, hns, fun cells left h64 hcell hleft => fun vm H1 ex1 hd => ?_⟩
  · obtain ⟨ps1, t1, _⟩ := id hT1
    obtain ⟨ps2, t2, _⟩ := id hT2
    rcases e with rfl | rfl
    · exact ⟨_, t1⟩
    · exact ⟨_, t2⟩
  obtain ⟨a, kvs, rfl, na, ea, ek, hkv⟩ := dv_dic hd
  obtain ⟨vb, r1, er1, hb, hr1⟩ := (hkv : ∃ v r, kvs.map (·.2) = v :: r ∧ Dv K (fun x => x = P1 ∨ x = P2) H1 (.lst (cells.map Dat.int)) v ∧ DvL K (fun x => x = P1 ∨ x = P2) H1 [.lst (left.map Dat.int), .int 0] r)
  obtain ⟨vc, r2, rfl, hc, hr2⟩ := (hr1 : ∃ v r, r1 = v :: r ∧ Dv K (fun x => x = P1 ∨ x = P2) H1 (.lst (left.map Dat.int)) v ∧ DvL K (fun x => x = P1 ∨ x = P2) H1 [.int 0] r)
  obtain ⟨v0, r3, rfl, h0, hr3⟩ := (hr2 : ∃ v r, r2 = v :: r ∧ Dv K (fun x => x = P1 ∨ x = P2) H1 (.int 0) v ∧ DvL K (fun x => x = P1 ∨ x = P2) H1 [] r)
  cases (hr3 : r3 = [])
  cases dv_int h0
  obtain ⟨b, xb, rfl, nb, eb, hxb⟩ := dv_lst hb
  obtain ⟨c, xc, rfl, nc, ec, hxc⟩ := dv_lst hc
  have exb : xb = cells.map V.int := dvl_ints hxb
  have exc : xc = left.map V.int := dvl_ints hxc
  subst exb
  subst exc
  have ekv : kvs = [(.inr "cells", .ref b), (.inr "left", .ref c), (.inr "spot", .int (0 : Nat))] := by
    rw [← zip_back kvs, ek, er1]
    rfl
  subst ekv
  have ab : a ≠ b := fun z => by rw [z, eb] at ea; cases ea
  have ac : a ≠ c := fun z => by rw [z, ec] at ea; cases ea
  have bc : b ≠ c := fun z => by
    rw [z, ec] at eb
    have := congrArg List.length (HO.lst.inj (Option.some.inj eb))
    simp at this
    omega
  let sd : Sta Nat := drawSta a b c left.length
  let sl : Sta (Nat × Unit) := staAnd sd (tabSta P1 qLess)
  let st : Sta ((Nat × Unit) × Unit) := staAnd sl (tabSta P2 qLaw)
  have m0 : st.M ((0, ()), ()) H1 := ⟨⟨⟨0, cells, left, Nat.le_refl _, h64, hcell, rfl, ea, eb, ec⟩, hT1.ext ex1⟩, hT2.ext ex1⟩
  have nd1 : ∀ {x : Addr}, x = P1 ∨ x = P2 → ¬ sd.fp x := fun {x} e z => by
    rcases z with z | z | z
    · exact na (by rw [← z]; exact e)
    · exact nb (by rw [← z]; exact e)
    · exact nc (by rw [← z]; exact e)
  have hd1 : ∀ x, (tabSta P1 qLess).fp x → ¬ sd.fp x := fun x e => nd1 (.inl e)
  have hd2 : ∀ x, (tabSta P2 qLaw).fp x → ¬ sl.fp x := fun x e z => by
    rcases z with z | z
    · exact nd1 (.inr e) z
    · exact h12 ((show x = P1 from z).symm.trans (show x = P2 from e))
  have hS : ∀ x, st.fp x → ∃ o, H1 x = some o := fun x z => st.dom _ _ m0 x z
  have hf : ∀ x, st.fp x → st.fp x := fun _ z => z
  have hd : IsDraw sd (V.ref a) := ⟨a, b, c, _, ab, ac, bc, rfl, rfl⟩
  let X : Cx := (cxOf CX0 P w K mg base ["script", "m", "it", "kind", "due", "turn", "odd", "told", "worth"] "law" (defScope s_law) f (.ref c2) A outer s H E0).nox
  let G : Fam ((Nat × Unit) × Unit) := famAt X H1 st.fp hS st ((0, ()), ()) m0
  have gs : GS G st (fun i => i) (fun _ j => j) := gs_at hf
  have gL := gs.subS (sub_fst hd2)
  have gD := gL.subS (sub_fst hd1)
  have gT2 := gs.subS (sub_snd hd2)
  have L : ∀ {sc : Scope}, lamSB (defScope s_law) sc = true → LamS (defScope s_law) sc := fun h => lamS_by h
  have rest : ∃ T, DBR G (defBody s_law).tail T ∧ T { nx := fun _ _ => False, rt := fun d _ => d = .bl true } [.un, .raw (.ref a), .un, .un, .un, .un, .un, .un, .un] ((0, ()), ()) := by
    refine ⟨_, (dbr_cons (dsr_forLst 2 PassesOwn.never rfl (dr_add (dr_fnS gD F_near hr (dsl_raw 1 dsl_nil) (by omega)) (dr_of fun i => de_fn0 F_far hr (by omega)))
      (dbr_cons (dsr_forSeq 3 PassesOwn.never rfl (dr_of fun i => (de_tup (da_cons de_str (da_cons de_str (da_cons de_str (da_cons de_str (da_cons de_str da_nil))))))) (dbr_cons (dsr_of fun i => ds_set 4 (de_fn F_is_worth hr (da_cons (de_var 2) (da_cons (de_var 3) da_nil)) (by omega)) nd) (dbr_one (dsr_of fun i => ds_ifc (dt_ne hr.units (de_repr hgd hr.units B.repr (da_cons (de_lst (da_cons (de_fn F_is_value hr (da_cons (de_var 2) (da_cons (de_var 3) da_nil)) (by omega)) (da_cons (de_fnK2 K_is_value hr (de_var 3) (de_var 2) (by omega)) da_nil))) da_nil)) (de_repr hgd hr.units B.repr (da_cons (de_lst (da_cons (de_var 4) (da_cons (de_var 4) da_nil))) da_nil))) (db_one (ds_ret de_bl)) db_nil))) nd)
      (dbr_cons (dsr_of fun i => ds_set 4 (de_fn F_is hr (da_cons (de_var 2) da_nil) (by omega)) nd) (dbr_one (dsr_of fun i => ds_ifc (dt_ne hr.units (de_repr hgd hr.units B.repr (da_cons (de_lst (da_cons (de_fn F_is_frac hr (da_cons (de_var 2) da_nil) (by omega)) (da_cons (de_fnK K_is_frac hr (de_var 2) (by omega)) da_nil))) da_nil)) (de_repr hgd hr.units B.repr (da_cons (de_lst (da_cons (de_var 4) (da_cons (de_var 4) da_nil))) da_nil))) (db_one (ds_ret de_bl)) db_nil)))) nd)
    (dbr_cons (dsr_forRange 5 B.range PassesOwn.never rfl (dar_cons (dr_of fun i => de_int) dar_nil) (dbr_one (dsr_if (dtr_not (dtr_val (dr_fnS gL F_less_right hr (dsl_raw 1 dsl_nil) (by omega)))) (dbr_one (dsr_ret (dr_of fun i => de_bl))) dbr_nil)) nd)
    (dbr_cons (dsr_forLst 6 PassesOwn.never rfl (dr_of fun i => de_add (de_lst (da_cons de_non (da_cons de_str (da_cons de_str (da_cons de_str (da_cons de_int (da_cons (de_tup (da_cons de_str da_nil)) (da_cons (de_lst (da_cons de_str da_nil)) (da_cons de_dnew (da_cons de_bl da_nil)))))))))) (de_fn0 F_far hr (by omega)))
      (dbr_cons (dsr_if (dtr_cmp (.or op_ne (op_neD hr.units)) (fun i => serves_ne) (dr_toldA gT2 T TB rfl hr (L (by decide +kernel)) (fun A outer s HL f c' H S hS E EX el hr' => de_fnX F_plain hr' (da_cons (de_var 6) da_nil) (by omega)) (hk := by omega) (hq := rfl)) (dr_of fun i => de_tup (da_cons de_str (da_cons de_str da_nil)))) (dbr_one (dsr_ret (dr_of fun i => de_bl))) dbr_nil)
      (dbr_one (dsr_if (dtr_cmp (.or op_ne (op_neD hr.units)) (fun i => serves_ne) (dr_toldA gT2 T TB rfl hr (L (by decide +kernel)) (fun A outer s HL f c' H S hS E EX el hr' => de_fnKX K_plain hr' (de_var 6) (by omega)) (hk := by omega) (hq := rfl)) (dr_of fun i => de_tup (da_cons de_str (da_cons de_str da_nil)))) (dbr_one (dsr_ret (dr_of fun i => de_bl))) dbr_nil))) nd)
    (dbr_cons (dsr_of fun i => ds_set 4 (de_lst (da_cons de_int (da_cons (de_tup (da_cons de_int (da_cons de_int da_nil))) (da_cons (de_tup (da_cons de_str (da_cons (de_tup (da_cons de_int (da_cons de_int da_nil))) da_nil))) (da_cons (de_tup da_nil) (da_cons de_int da_nil)))))) nd)
    (dbr_cons (dsr_of fun i => (ds_setLc 7 3 (x := "kind") rfl nd (sw_true rfl rfl rfl (by decide +kernel)) (di_seq (de_tup (da_cons de_str (da_cons de_str (da_cons de_str (da_cons de_str (da_cons de_str da_nil))))))) (blkOk_by (own := [("kind", 3)]) (N := ["script", "m", "it", "kind", "due", "turn", "odd", "told", "worth"]) (sc := defScope s_law) (by decide +kernel)) (fun _ _ _ _ _ => pg_name (i := 3) nd rfl (Or.inl rfl)) (fun _ _ _ _ _ => dts_nil) (fun _ _ _ _ _ => (de_lst (da_cons (de_fnX0 F_plain hr (da_cons (de_var 3) da_nil) (by omega)) (da_cons (de_fnKX0 K_plain hr (de_var 3) (by omega)) da_nil))))))
    (dbr_one (dsr_ret (dr_of fun i => de_eq hr.units (de_repr hgd hr.units B.repr (da_cons (de_var 7) da_nil)) (de_repr hgd hr.units B.repr (da_cons (de_lc 8 (x := "worth") rfl nd (di_seq (de_var 4)) (blkOk_by (own := [("worth", 8)]) (N := ["script", "m", "it", "kind", "due", "turn", "odd", "told", "worth"]) (sc := defScope s_law) (by decide +kernel)) (fun _ _ _ _ _ => pg_name (i := 8) nd rfl (Or.inl rfl)) (fun _ _ _ _ _ => dts_nil) (fun _ _ _ _ _ => (de_lst (da_cons (de_var 8) (da_cons (de_var 8) da_nil))))) da_nil)))))))))), ?_⟩
    have big := line_big
    have noDis : ∀ {n : Nat}, n ≤ 300000 → True := fun _ => trivial
    refine ⟨fun items ρ j => (∀ y ∈ items, SmT y) ∧ j.1.1 ≤ 100000 ∧ ∃ t0 t2 t3 t4 t5 t6 t7 t8 : DL.Slot, ρ = [t0, .raw (.ref a), t2, t3, t4, t5, t6, t7, t8], ?_, fun ρ j hi => ?_, fun d ds ρ j hi => ?_⟩
    · refine rdRaw_here rfl ?_
      refine ⟨.ref a, hd, rfl, by unfold manyDraws; dsimp only; omega, fun ys j1 hys hj1 => ?_⟩
      refine ⟨rfl, fun fs hfl hfs => ?_⟩
      dsimp only at hj1 ⊢
      rw [addD_lst]
      refine ⟨by have := hys.2.1; omega, fun y hy => ?_, by omega, _, _, _, _, _, _, _, _, rfl⟩
      rcases List.mem_append.mp hy with hy | hy
      · exact hys.2.2 y hy
      · exact (hfs y hy).1
    · obtain ⟨_, hj, t0, t2, t3, t4, t5, t6, t7, t8, rfl⟩ := hi
      refine ⟨fun items ρ j => j.1.1 + items.length * 200000 ≤ 1300000 ∧ ∃ t0 t2 t3 t4 t5 t6 t7 t8 : DL.Slot, ρ = [t0, .raw (.ref a), t2, t3, t4, t5, t6, t7, t8], ?_, fun ρ j hi => ?_, fun d ds ρ j hi => ?_⟩
      · refine ⟨⟨by decide, by decide⟩, ?_, _, _, _, _, _, _, _, _, rfl⟩
        rw [rints_len]
        show j.1.1 + 6 * 200000 ≤ 1300000
        omega
      · obtain ⟨_, t0, t2, t3, t4, t5, t6, t7, t8, rfl⟩ := hi
        refine ⟨fun items ρ j => (∀ y ∈ items, isSort y = false) ∧ ∃ t0 t2 t3 t4 t5 t6 t7 t8 : DL.Slot, ρ = [t0, .raw (.ref a), t2, t3, t4, t5, t6, t7, t8], ?_, fun ρ j hi => ?_, fun d ds ρ j hi => ?_⟩
        · refine ⟨show 1 ≤ sizeLine by decide, show 1 ≤ sizeLine by decide, show 9 ≤ sizeLine by decide, ?_⟩
          refine ⟨rfl, fun fs hfl hfs => ?_⟩
          dsimp only
          rw [addD_lst]
          refine ⟨by rw [hfl]; show 9 + 12 ≤ sizeLine; decide, fun y hy => ?_, _, _, _, _, _, _, _, _, rfl⟩
          rcases List.mem_append.mp hy with hy | hy
          · simp only [List.mem_cons, List.not_mem_nil, or_false] at hy
            rcases hy with rfl | rfl | rfl | rfl | rfl | rfl | rfl | rfl | rfl <;> decide +kernel
          · exact (hfs y hy).2
        · obtain ⟨_, t0, t2, t3, t4, t5, t6, t7, t8, rfl⟩ := hi
          refine ⟨show 2 ≤ sizeLine by decide, show 2 ≤ sizeLine by decide, show 2 ≤ sizeLine by decide, show 0 ≤ sizeLine by decide, show 5 ≤ sizeLine by decide, ?_⟩
          refine ⟨show 5 ≤ sizeLine by decide, ?_⟩
          dsimp only
          rw [seqOf_tup]
          refine compF_map (f := fun d => .lst [plainOf d, plainOf d]) (fun d hd R hR => ?_) (show 5 ≤ sizeLine by decide) ?_
          · have hs : isSort d = true := by
              simp only [List.mem_cons, List.not_mem_nil, or_false] at hd
              rcases hd with rfl | rfl | rfl | rfl | rfl <;> decide +kernel
            (repeat first | (refine rd_here rfl ?_) | (dsimp only))
            refine plain_use hs ?_
            (repeat first | (refine rd_here rfl ?_) | (dsimp only))
            refine plain_use hs ?_
            exact ⟨show 2 ≤ sizeLine by decide, hR⟩
          (repeat first | (refine rd_here rfl ?_) | (dsimp only))
          refine told_repr ?_
          (repeat first | (refine rd_here rfl ?_) | (dsimp only))
          rw [seqOf_lst]
          refine compF_map (f := fun d => .lst [d, d]) (fun d hd R hR => ?_) (show 5 ≤ sizeLine by decide) ?_
          · (repeat first | (refine rd_here rfl ?_) | (dsimp only))
            exact ⟨show 2 ≤ sizeLine by decide, hR⟩
          refine told_repr ?_
          exact eqS_same rfl
        · obtain ⟨hall, t0, t2, t3, t4, t5, t6, t7, t8, rfl⟩ := hi
          have hds := hall d List.mem_cons_self
          have bad : ∀ {R : Dat → Prop}, R (.tup [.str "value", .str "sort"]) → (c_plain_value CB).C [d] (fun v => R (.lst [v])) (fun x => ∃ ds, ToldD CB CN x ds ∧ R (.tup ds)) := fun hR => ⟨d, rfl, (fun z => by rw [hds] at z; cases z), fun _ => ⟨_, toldD_bad, hR⟩⟩
          refine ⟨fun b j' => b = false, ?_, fun j' z => (nomatch z), fun j' z => ?_⟩
          · refine ⟨(· = .tup [.str "value", .str "sort"]), ?_, fun d e => ?_⟩
            · intros
              refine rd_here rfl ?_
              exact bad (R := (· = .tup [.str "value", .str "sort"])) rfl
            · cases e
              refine ⟨show 2 ≤ sizeLine by decide, ?_⟩
              exact ⟨by decide +kernel, by decide +kernel, rfl⟩
          refine ⟨fun b j' => b = false, ?_, fun j' z => (nomatch z), fun j' z => ?_⟩
          · refine ⟨(· = .tup [.str "value", .str "sort"]), ?_, fun d e => ?_⟩
            · intros
              refine rd_here rfl ?_
              exact bad (R := (· = .tup [.str "value", .str "sort"])) rfl
            · cases e
              refine ⟨show 2 ≤ sizeLine by decide, ?_⟩
              exact ⟨by decide +kernel, by decide +kernel, rfl⟩
          · exact ⟨fun x hx => hall x (List.mem_cons_of_mem _ hx), _, _, _, _, _, _, _, _, rfl⟩
      · obtain ⟨hj, t0, t2, t3, t4, t5, t6, t7, t8, rfl⟩ := hi
        rw [List.length_cons] at hj
        refine ⟨fun b j' => b = false ∧ j'.1.1 ≤ j.1.1 + 200000, ?_, fun j' z => (nomatch z.1), fun j' z => ?_⟩
        · refine rdRaw_here rfl ?_
          exact ⟨.ref a, sd, hd, rfl, nd1 (.inl rfl), rfl, by unfold manyDraws; omega, fun j' hj' => ⟨rfl, hj'⟩⟩
        · have := z.2
          exact ⟨by omega, _, _, _, _, _, _, _, _, rfl⟩
    · obtain ⟨hall, hj, t0, t2, t3, t4, t5, t6, t7, t8, rfl⟩ := hi
      have sd' := hall d List.mem_cons_self
      refine ⟨fun items ρ j => (∀ z ∈ items, ∃ q, z = .str q ∧ q ∈ sorts) ∧ j.1.1 ≤ 100000 ∧ ∃ t0 t3 t4 t5 t6 t7 t8 : DL.Slot, ρ = [t0, .raw (.ref a), .d d, t3, t4, t5, t6, t7, t8], ?_, fun ρ j hi => ?_, fun z zs ρ j hi => ?_⟩
      · refine ⟨show 5 ≤ sizeLine by decide, ?_⟩
        dsimp only
        rw [seqOf_tup]
        refine ⟨fun z hz => ?_, hj, _, _, _, _, _, _, _, rfl⟩
        simp only [List.mem_cons, List.not_mem_nil, or_false] at hz
        rcases hz with rfl | rfl | rfl | rfl | rfl <;> exact ⟨_, rfl, by decide⟩
      · obtain ⟨_, hj, t0, t3, t4, t5, t6, t7, t8, rfl⟩ := hi
        (repeat first | (refine rd_here rfl ?_) | (dsimp only))
        refine con1_C.mpr ⟨sd'.1, ?_⟩
        refine ⟨(· = false), ?_, fun e => (nomatch e), fun _ => ?_⟩
        · (repeat first | (refine rd_here rfl ?_) | (dsimp only))
          refine con1_C.mpr ⟨trivial, ?_⟩
          (repeat first | (refine rd_here rfl ?_) | (dsimp only))
          refine con1_C.mpr ⟨trivial, ?_⟩
          refine ⟨show 2 ≤ sizeLine by decide, ?_⟩
          refine repr_two (fracB d) ?_
          (repeat first | (refine rd_here rfl ?_) | (dsimp only))
          refine ⟨show 2 ≤ sizeLine by decide, ?_⟩
          refine repr_two (fracB d) ?_
          exact neS_same rfl
        · exact ⟨fun y hy => hall y (List.mem_cons_of_mem _ hy), hj, _, _, _, _, _, _, _, _, rfl⟩
      · obtain ⟨hz, hj, t0, t3, t4, t5, t6, t7, t8, rfl⟩ := hi
        have hzz := hz z List.mem_cons_self
        obtain ⟨q, e9, hq⟩ := hzz
        subst e9
        have hv : ∀ {R : Dat → Prop} {X : Exc → Prop}, R (.bl (valB d q)) → c_is_value.C [d, .str q] R X := fun h => ⟨(d, q), rfl, ⟨sd'.1, hq⟩, h⟩
        (repeat first | (refine rd_here rfl ?_) | (dsimp only))
        refine ⟨(d, q), rfl, ⟨sd', hq⟩, ?_⟩
        refine ⟨(· = false), ?_, fun e => (nomatch e), fun _ => ?_⟩
        · (repeat first | (refine rd_here rfl ?_) | (dsimp only))
          refine hv ?_
          (repeat first | (refine rd_here rfl ?_) | (dsimp only))
          refine hv ?_
          refine ⟨show 2 ≤ sizeLine by decide, ?_⟩
          refine repr_two (valB d q) ?_
          (repeat first | (refine rd_here rfl ?_) | (dsimp only))
          refine ⟨show 2 ≤ sizeLine by decide, ?_⟩
          refine repr_two (valB d q) ?_
          exact neS_same rfl
        · exact ⟨fun y hy => hz y (List.mem_cons_of_mem _ hy), hj, _, _, _, _, _, _, _, rfl⟩
  obtain ⟨T0, ⟨t, hp, l⟩, hTT⟩ := rest
  refine ⟨t, hp, l st.fp _ H1 _ ((0, ()), ()) _ _ ⟨⟨ExF.refl _ _, m0⟩, hS, fun _ z => z, rfl, fun n sl hn => ?_, fun n n2 s1 s2 u h1 h2 o1 o2 e1 e2 => ?_⟩ hTT ⟨fun _ _ _ _ _ _ _ z => z.elim, fun u d H' j hw hd hz => ?_, fun _ _ _ _ _ _ _ z => z.elim, fun _ _ _ _ _ _ _ z => z.elim⟩⟩
  · match n, hn with
    | 0, hn => cases hn; exact trivial
    | 1, hn => cases hn; exact (rfl : V.ref a = V.ref a)
    | 2, hn => cases hn; exact trivial
    | 3, hn => cases hn; exact trivial
    | 4, hn => cases hn; exact trivial
    | 5, hn => cases hn; exact trivial
    | 6, hn => cases hn; exact trivial
    | 7, hn => cases hn; exact trivial
    | 8, hn => cases hn; exact trivial
  · match n, h1 with
    | 0, h1 => cases h1; cases o1
    | 1, h1 => cases h1; cases o1
    | 2, h1 => cases h1; cases o1
    | 3, h1 => cases h1; cases o1
    | 4, h1 => cases h1; cases o1
    | 5, h1 => cases h1; cases o1
    | 6, h1 => cases h1; cases o1
    | 7, h1 => cases h1; cases o1
    | 8, h1 => cases h1; cases o1
  · have hz : d = .bl true := hz
    subst hz
    have hu : u = .bl true := hd
    rw [hu]
    exact hQ H'
end
end K01
namespace K01
open PySem PySem.Spec PyProof.Rows L2 DL LamX
/-- a def as it stands -/
structure At (K : PySem.W.Frag) (mg : Str → Option Value) (x : Str) (st : Stmt) (ps : List Str) (f : Addr) (fd : FuncData) : Prop where
  F : Fun K x x st f fd
  m : mg x = some (.ref f)
  b : Binds K fd ps []
/-- what can't be asked -/
theorem fn_no {P : Program} {w : World} {K : PySem.W.Frag} {mg : Str → Option Value} {base : Heap} {f : Addr} {fd : FuncData} {k : Nat} {ps : List Str} {C : Con} (h : ∀ ds P X, ¬ C.C ds P X) : FnOk P w K mg base CX0 k f fd ps (spD K C) :=
  ⟨fun vs H Q E ⟨_, _, _, _, hc⟩ => absurd hc (h _ _ _), fun A outer s H args us vs Q E _ _ _ _ ⟨_, _, _, _, hc⟩ => absurd hc (h _ _ _)⟩
section
variable {P : Program} {w : World} {K : PySem.W.Frag} {mg : Str → Option Value} {base : Heap} {f f2 : Addr} {fd fd2 : FuncData} {k : Nat}
theorem Callee.mono {x : Str} {ps : List Str} {C : Con} {j : Nat} (h : Callee P w K mg base x j ps C) (hj : j ≤ k) : Callee P w K mg base x k ps C := by
  obtain ⟨f, fd, F, r⟩ := h.ex
  exact ⟨f, fd, F.mono hj, r⟩
abbrev s_init : Stmt := inClass (topS 2) 0
theorem sc_init : FnScope ["self", "what"] ["self", "what"] (defScope s_init) := ⟨rfl, rfl, rfl, by decide +kernel, rfl, by decide +kernel, by decide +kernel⟩
theorem ok_init (hm : mg "ValueError" = none) (vV : PySem.W.findCls K (.type "ValueError") (.type "type") "__init__" = some (.val (.builtin "ValueError.__init__"))) (F : Fun K "__init__" "BadValue.__init__" s_init f fd) : FnOk P w K mg base CX0 (k + 1) f fd ["self", "what"] (spInit K "what") := by
  refine F.ok sc_init (fun vs H Q E ⟨a, C, y, e, _⟩ => by rw [e]; rfl) fun cdv A outer s H vs Q E hr h => ?_
  obtain ⟨a, C, y, rfl, T, no, ea, q⟩ := h
  refine ⟨_, pss_cons (ps_expr (pe_veinit (by rfl) hm vV (pa_cons (pe_var (i := 0) rfl (Or.inl rfl)) (pa_cons (pe_var (i := 1) rfl (Or.inl rfl)) pa_nil)))) (pss_one (ps_ost (pe_var (i := 0) rfl (Or.inl rfl)) (pe_var (i := 1) rfl (Or.inl rfl)))), ?_⟩
  refine ⟨.ref a, rfl, y, rfl, a, C, [y], rfl, show 1 ≤ 1000 by decide, T, ea, ?_⟩
  exact ⟨y, rfl, .ref a, rfl, a, C, rfl, T, no, .inl ⟨ea, fun dx n ne => q dx n ne⟩⟩
end
/-! ### all defs together -/
abbrev Def (K : PySem.W.Frag) (mg : Str → Option Value) (x : Str) (st : Stmt) (ps : List Str) : Prop := ∃ f fd, At K mg x st ps f fd
abbrev DefK (K : PySem.W.Frag) (mg : Str → Option Value) (x : Str) (st : Stmt) (ps : List Str) : Prop := ∃ f fd, At K mg x st ps f fd ∧ KBinds K fd ps ps (fun us ws => us ++ ws) (fun vs zs => vs ++ zs)
section
variable {P : Program} {w : World} {K : PySem.W.Frag} {mg : Str → Option Value} {base : Heap} {f f2 : Addr} {fd fd2 : FuncData} {k j : Nat} {x : Str} {st : Stmt} {ps : List Str}
theorem def_c {C : Con} (D : Def K mg x st ps) (ok : ∀ {f fd}, Fun K x x st f fd → FnOk P w K mg base CX0 k f fd ps (spD K C)) : Callee P w K mg base x k ps C := by
  obtain ⟨f, fd, h⟩ := D
  exact ⟨f, fd, ok h.F, h.m, h.F.kp, h.b⟩
theorem def_s {κ : Type} {C : ConS κ} (D : Def K mg x st ps) (ok : ∀ {f fd}, Fun K x x st f fd → FnOk P w K mg base CX0 k f fd ps (spS K C)) : CalleeS P w K mg base x k ps C := by
  obtain ⟨f, fd, h⟩ := D
  exact ⟨f, fd, ok h.F, h.m, h.F.kp, h.b⟩
theorem def_l {C : ConL} (D : Def K mg x st ps) (ok : ∀ {f fd}, Fun K x x st f fd → FnOk P w K mg base CX0 k f fd ps (spL K C)) : CalleeL P w K mg base x k ps C := by
  obtain ⟨f, fd, h⟩ := D
  exact ⟨f, fd, ok h.F, h.m, h.F.kp, h.b⟩
theorem def_o {C : ConO} (D : Def K mg x st ps) (ok : ∀ {f fd}, Fun K x x st f fd → FnOk P w K mg base CX0 k f fd ps (spO K C)) : CalleeO P w K mg base x k ps C := by
  obtain ⟨f, fd, h⟩ := D
  exact ⟨f, fd, ok h.F, h.m, h.F.kp, h.b⟩
theorem def_x {C : Con} (D : Def K mg x st ps) (ok : ∀ {f fd}, Fun K x x st f fd → FnOk P w K mg base (L2.CX P w) k f fd ps (spD K C)) : CalleeX P w K mg base x k ps C := by
  obtain ⟨f, fd, h⟩ := D
  exact ⟨f, fd, ok h.F, h.m, h.F.kp, h.b⟩
theorem def_sg {κ : Type} {C : ConS κ} (D : Def K mg x st ps) (ok : ∀ {f fd}, Fun K x x st f fd → FnG P w K mg base CX0 k f fd ps (spS K C)) : CalleeSG P w K mg base x k ps C := by
  obtain ⟨f, fd, h⟩ := D
  exact ⟨f, fd, ok h.F, h.m, h.F.kp, h.b⟩
theorem def_k {CXT' : CXT} {C : Con} (D : DefK K mg x st ps) (ok : ∀ {f fd}, Fun K x x st f fd → FnOk P w K mg base CXT' k f fd ps (spD K C)) : CalleeK P w K mg base CXT' x k ps C := by
  obtain ⟨f, fd, h, hk⟩ := D
  exact ⟨f, fd, ok h.F, h.m, h.F.kp, hk⟩
theorem defk {x : Str} (D : DefK K mg x st ps) : Def K mg x st ps := by
  obtain ⟨f, fd, h, _⟩ := D
  exact ⟨f, fd, h⟩
theorem mono_s {κ : Type} {C : ConS κ} (h : CalleeS P w K mg base x j ps C) (hj : j ≤ k) : CalleeS P w K mg base x k ps C := by
  obtain ⟨f, fd, F, r⟩ := h.ex
  exact ⟨f, fd, F.mono hj, r⟩
theorem mono_l {C : ConL} (h : CalleeL P w K mg base x j ps C) (hj : j ≤ k) : CalleeL P w K mg base x k ps C := by
  obtain ⟨f, fd, F, r⟩ := h.ex
  exact ⟨f, fd, F.mono hj, r⟩
theorem mono_o {C : ConO} (h : CalleeO P w K mg base x j ps C) (hj : j ≤ k) : CalleeO P w K mg base x k ps C := by
  obtain ⟨f, fd, F, r⟩ := h.ex
  exact ⟨f, fd, F.mono hj, r⟩
theorem mono_x {C : Con} (h : CalleeX P w K mg base x j ps C) (hj : j ≤ k) : CalleeX P w K mg base x k ps C := by
  obtain ⟨f, fd, F, r⟩ := h.ex
  exact ⟨f, fd, F.mono hj, r⟩
theorem mono_k {CXT' : CXT} {C : Con} (h : CalleeK P w K mg base CXT' x j ps C) (hj : j ≤ k) : CalleeK P w K mg base CXT' x k ps C := by
  obtain ⟨f, fd, F, r⟩ := h.ex
  exact ⟨f, fd, F.mono hj, r⟩
theorem mono_sg {κ : Type} {C : ConS κ} (h : CalleeSG P w K mg base x j ps C) (hj : j ≤ k) : CalleeSG P w K mg base x k ps C := by
  obtain ⟨f, fd, F, r⟩ := h.ex
  exact ⟨f, fd, F.mono hj, r⟩
theorem no_s {κ : Type} {C : ConS κ} (h : ∀ st i sl P, ¬ C.C st i sl P) : FnOk P w K mg base CX0 k f fd ps (spS K C) :=
  ⟨fun vs H Q E ⟨_, _, _, _, _, _, _, _, hc⟩ => absurd hc (h _ _ _ _), fun A outer s H args us vs Q E _ _ _ _ ⟨_, _, _, _, _, _, _, _, hc⟩ => absurd hc (h _ _ _ _)⟩
theorem no_o {C : ConO} (h : ∀ d l P, ¬ C.C d l P) : FnOk P w K mg base CX0 k f fd ps (spO K C) :=
  ⟨fun vs H Q E ⟨_, _, _, _, _, _, _, _, _, _, _, _, hc⟩ => absurd hc (h _ _ _), fun A outer s H args us vs Q E _ _ _ _ ⟨_, _, _, _, _, _, _, _, _, _, _, _, hc⟩ => absurd hc (h _ _ _)⟩
end

section
variable {P : Program} {w : World} {K : PySem.W.Frag} {mg : Str → Option Value} {base : Heap} {f fI : Addr} {fd fdI : FuncData} {CB Ct CN c Pt : Addr}
end
/-! ### facts of the head, each by its own words -/
section
variable {K : PySem.W.Frag} {h : Heap} {mg : Str → Option Value} {x : Str} {st : Stmt} {ps : List Str} {f : Addr} {oc kV doc pm cdv ct : Value} {od an : Option Addr} {osl : Array (Option Value)}
theorem mk_def (KX : K.In h) (G : h.Ns mainGlobals mg) (a : PySem.W.nsIn K mainGlobals x = some (some (.ref f))) (l : K.lookup f = some ⟨oc, od, .func (PySem.W.fnOf x x (defArgs st) (defBody st) (defScope st) .none kV doc pm an cdv ct), osl⟩) (c : PySem.W.codeIn K cdv x = true) (k : PySem.W.keepIn K (.ref f) = true)
    (b : ∀ (kV doc pm : Value) (an : Option Addr) (cdv ct : Value) (us : List Value), us.length = ps.length → bindArgs (PySem.W.fnOf x x (defArgs st) (defBody st) (defScope st) .none kV doc pm an cdv ct) ⟨us, []⟩ = pure (ps.zip us)) : Def K mg x st ps :=
  ⟨f, _, ⟨fun_mk l c k, PySem.W.mg_of KX G a, (fun_mk l c k).binds b⟩⟩
theorem mk_defK {p : Str} (KX : K.In h) (G : h.Ns mainGlobals mg) (a : PySem.W.nsIn K mainGlobals x = some (some (.ref f))) (l : K.lookup f = some ⟨oc, od, .func (PySem.W.fnOf x x (defArgs st) (defBody st) (defScope st) .none kV doc pm an cdv ct), osl⟩) (c : PySem.W.codeIn K cdv x = true) (k : PySem.W.keepIn K (.ref f) = true)
    (b : ∀ (kV doc pm : Value) (an : Option Addr) (cdv ct : Value) (u : Value), bindArgs (PySem.W.fnOf x x (defArgs st) (defBody st) (defScope st) .none kV doc pm an cdv ct) ⟨[u], []⟩ = pure [(p, u)] ∧ bindArgs (PySem.W.fnOf x x (defArgs st) (defBody st) (defScope st) .none kV doc pm an cdv ct) ⟨[], [(p, u)]⟩ = pure [(p, u)]) : DefK K mg x st [p] := by
  refine ⟨f, _, ⟨fun_mk l c k, PySem.W.mg_of KX G a, (fun_mk l c k).binds fun kV doc pm an cdv ct us hl => ?_⟩, ⟨fun s us ws _ hl => ?_, fun r1 r2 => ?_⟩⟩
  · match us, hl with
    | [u], _ => exact (b kV doc pm an cdv ct u).1
  · match us, ws, hl with
    | [u], [], _ => exact .of_eq (b kV doc pm an cdv ct u).1
    | [], [u], _ => exact .of_eq (b kV doc pm an cdv ct u).2
  · exact r1.append r2
theorem mk_ci {i : Int} {t : Tok} (KX : K.In h) (G : h.Ns mainGlobals mg) (a : PySem.W.nsIn K mainGlobals x = some (some (.int i t))) : CI mg x i := ⟨t, PySem.W.mg_of KX G a⟩
end
/-! ### what is written, read out of what is held of the top -/
def allOf (f : Value → Option Dat) : List Value → Option (List Dat)
  | [] => some []
  | v :: r => match f v, allOf f r with
    | some d, some ds => some (d :: ds)
    | _, _ => none
def datOf (K : PySem.W.Frag) : Nat → Value → Option Dat
  | 0, _ => none
  | n + 1, v => match v with
    | .int i _ => some (.int i)
    | .str s _ => some (.str s)
    | .ref a => match K.lookup a with
      | some ⟨.type t, _, .seq its _, _⟩ => if t = "tuple" ∧ its.size ≤ 1000 then (allOf (datOf K n) its.toList).map Dat.tup else none
      | _ => none
    | _ => none
section
variable {K : PySem.W.Frag}
theorem allOf_ok {f : Value → Option Dat} (hf : ∀ v d, f v = some d → ∃ x, RelV x v ∧ ∀ S H, Dv K S H d x) : ∀ {l : List Value} {ds : List Dat}, allOf f l = some ds → ∃ xs, Vals xs l ∧ ∀ S H, DvL K S H ds xs
  | [], ds, e => by cases e; exact ⟨[], .nil, fun _ _ => rfl⟩
  | v :: r, ds, e => by
    rw [allOf] at e
    split at e
    · rename_i d ds' e1 e2
      cases e
      obtain ⟨x, r1, h1⟩ := hf v d e1
      obtain ⟨xs, r2, h2⟩ := allOf_ok hf e2
      exact ⟨x :: xs, .cons r1 r2, fun S H => ⟨x, xs, rfl, h1 S H, h2 S H⟩⟩
    · cases e
theorem datOf_ok : ∀ {n : Nat} {v : Value} {d : Dat}, datOf K n v = some d → ∃ x, RelV x v ∧ ∀ S H, Dv K S H d x
  | 0, _, _, e => by cases e
  | n + 1, v, d, e => by
    cases v with
    | int i t => rw [datOf] at e; cases e; exact ⟨.int _, ⟨_, rfl⟩, fun _ _ => rfl⟩
    | str i t => rw [datOf] at e; cases e; exact ⟨.str _, ⟨_, rfl⟩, fun _ _ => rfl⟩
    | ref a =>
      have e' : (match K.lookup a with
        | some ⟨.type t, _, .seq its _, _⟩ => if t = "tuple" ∧ its.size ≤ 1000 then (allOf (datOf K n) its.toList).map Dat.tup else none
        | _ => none) = some d := e
      split at e'
      · rename_i t od its m sl hl
        split at e'
        · rename_i hc
          obtain ⟨ht, hz⟩ := hc
          subst ht
          cases ea : allOf (datOf K n) its.toList with
          | none => rw [ea] at e'; cases e'
          | some ds =>
            rw [ea] at e'
            cases e'
            obtain ⟨xs, hv, hd⟩ := allOf_ok (fun v d => datOf_ok) ea
            exact ⟨.ref a, rfl, fun S H => ⟨a, xs, rfl, .inr ⟨_, its, m, hl, rfl, rfl, Nat.le_trans hz (by decide), hv⟩, hd S H⟩⟩
        · cases e'
      · cases e'
    | _ => cases e
theorem datOf_ref {n : Nat} {a : Addr} {d : Dat} (h : datOf K n (.ref a) = some d) (S : Addr → Prop) (H : Hp) : Dv K S H d (.ref a) := by
  obtain ⟨x, r, hd⟩ := datOf_ok h
  have e : x = .ref a := by
    cases x with
    | ref b => exact congrArg V.ref (Value.ref.inj (show Value.ref a = Value.ref b from r)).symm
    | non => cases (r : Value.ref a = Value.none)
    | bl b => cases (r : Value.ref a = Value.bool b)
    | int i => obtain ⟨t, z⟩ := (r : ∃ t, Value.ref a = Value.int i t); cases z
    | str i => obtain ⟨t, z⟩ := (r : ∃ t, Value.ref a = Value.str i t); cases z
    | byt i => obtain ⟨t, z⟩ := (r : ∃ t, Value.ref a = Value.bytes i t); cases z
    | flt i => obtain ⟨t, z⟩ := (r : ∃ t, Value.ref a = Value.float i t); cases z
    | ty i => cases (r : Value.ref a = Value.type i)
  rw [← e]
  exact hd S H
def rowsOf (K : PySem.W.Frag) : List DictEntry → Option (List (Str × Dat))
  | [] => some []
  | e :: r => match e.key, datOf K 4 e.val, rowsOf K r with
    | .str x _, some d, some l => some ((x, d) :: l)
    | _, _, _ => none
theorem rows_ok : ∀ {es : List DictEntry} {rows : List (Str × Dat)}, rowsOf K es = some rows → es.any (·.refKey) = false ∧ ∀ z : Str, match es.find? (·.key.isStr z) with
    | some e => ∃ d, datOf K 4 e.val = some d ∧ rows.find? (fun p => decide (p.1 = z)) = some (z, d)
    | none => rows.find? (fun p => decide (p.1 = z)) = none
  | [], rows, e => by cases e; exact ⟨rfl, fun z => rfl⟩
  | e0 :: es, rows, e => by
    rw [rowsOf] at e
    split at e
    · rename_i x t d l e1 e2 e3
      cases e
      obtain ⟨h1, h2⟩ := rows_ok e3
      refine ⟨?_, fun z => ?_⟩
      · rw [List.any_cons, h1]
        have : e0.refKey = false := by
          unfold DictEntry.refKey
          rw [e1]
        rw [this]
        rfl
      · by_cases hz : x = z
        · subst hz
          have hs : e0.key.isStr x = true := by rw [e1]; simp [Value.isStr]
          rw [List.find?_cons_of_pos (by simpa using hs)]
          exact ⟨d, e2, by rw [List.find?_cons_of_pos (by simp)]⟩
        · have hs : e0.key.isStr z = false := by rw [e1]; simp [Value.isStr, hz]
          rw [List.find?_cons_of_neg (by simp [hs])]
          have q := h2 z
          rw [List.find?_cons_of_neg (by simp [hz])]
          exact q
    · cases e
/-- the words' table out of what is written -/
theorem mk_pl {h : Heap} {mg : Str → Option Value} {w : World} {d : Addr} {es : Array DictEntry} {n : Nat} {x : Str} (KX : K.In h) (G : h.Ns mainGlobals mg) (a : PySem.W.nsIn K mainGlobals x = some (some (.ref d))) (l : K.lookup d = some ⟨.type "dict", none, .dict es n, #[]⟩) (lit : PySem.W.KeysLit w.params es.toList) (low : (d == sysModules) = false)
    (hr : rowsOf K es.toList = some plains) : ∃ d tv, WD K w d tv ∧ TabOk K tv plainT ∧ mg x = some (.ref d) := by
  obtain ⟨h1, h2⟩ := rows_ok hr
  refine ⟨d, fun z => (es.toList.find? (·.key.isStr z)).map (·.val), ⟨⟨es, n, l, lit, low⟩, fun z => ?_⟩, fun z => ?_, PySem.W.mg_of KX G a⟩
  · unfold PySem.W.nsIn
    rw [l]
    simp only
    cases es.toList.find? (·.key.isStr z) with
    | some e => rfl
    | none => simp only [h1]; rfl
  · have q := h2 z
    unfold plainT
    dsimp only
    cases e : es.toList.find? (·.key.isStr z) with
    | some e1 =>
      rw [e] at q
      obtain ⟨dd, q1, q2⟩ := q
      rw [q2]
      exact datOf_ok q1
    | none =>
      rw [e] at q
      rw [show plains.find? (fun p => decide (p.1 = z)) = none from q]
      exact trivial
theorem mk_ct {h : Heap} {mg : Str → Option Value} {a : Addr} {x : Str} {d : Dat} (KX : K.In h) (G : h.Ns mainGlobals mg) (e : PySem.W.nsIn K mainGlobals x = some (some (.ref a))) (hd : datOf K 4 (.ref a) = some d) : CT K mg x d := ⟨a, PySem.W.mg_of KX G e, fun S H => datOf_ref hd S H⟩
end
section
variable {K : PySem.W.Frag} {h : Heap} {mg : Str → Option Value} {x : Str} {st : Stmt} {ps : List Str} {f : Addr} {oc kV doc pm cdv ct : Value} {od an : Option Addr} {osl : Array (Option Value)}
theorem mk_oex {C : Addr} {nm q : Str} {N : Addr} {bs bm sn} {sub ab col dd k0 k1 k2 k3 k5} (l : K.lookup C = some (excClassObj nm q C N bs bm true sn sub ab col dd k0 k1 k2 k3 k5 "ValueError.__new__")) (r : PySem.HandSPX.refsVE bm = true) (sa : PySem.W.findIn K (.ref C) "__setattr__" = some (some (.builtin "object.__setattr__")))
    (e : PySem.W.subIn K (.ref C) (.type "BaseException") = some true) (t : PySem.W.typeIn K (.ref C) = some (.type "type")) (k : PySem.W.keepIn K (.ref C) = true) : OexC K C := ⟨⟨_, _, _, _, _, _, _, _, _, _, _, _, _, _, _, l, r⟩, sa, e, t, k⟩
theorem mk_bt (KX : K.In h) (G : h.Ns mainGlobals mg) (a : ∀ x ∈ (["type", "tuple", "str", "int", "list", "len", "min", "zip", "range", "all", "sorted", "dict", "isinstance", "bool", "repr", "enumerate"] : List Str), PySem.W.nsIn K mainGlobals x = some none) : Bt mg := by
  have g : ∀ x ∈ (["type", "tuple", "str", "int", "list", "len", "min", "zip", "range", "all", "sorted", "dict", "isinstance", "bool", "repr", "enumerate"] : List Str), mg x = none := fun x hx => PySem.W.mg_none_of KX G (a x hx)
  constructor <;> exact g _ (by decide)
end
abbrev DefK2 (K : PySem.W.Frag) (mg : Str → Option Value) (x : Str) (st : Stmt) (y z : Str) : Prop := ∃ f fd, At K mg x st [y, z] f fd ∧ KBinds K fd [y, z] [z, y] (fun us ws => us ++ ws.reverse) (fun vs zs => vs ++ zs.reverse)
theorem def_k2 {P : Program} {w : World} {K : PySem.W.Frag} {mg : Str → Option Value} {base : Heap} {k : Nat} {x : Str} {st : Stmt} {y z : Str} {CXT' : CXT} {C : Con} (D : DefK2 K mg x st y z) (ok : ∀ {f fd}, Fun K x x st f fd → FnOk P w K mg base CXT' k f fd [y, z] (spD K C)) : CalleeK2 P w K mg base CXT' x k y z C := by
  obtain ⟨f, fd, h, hk⟩ := D
  exact ⟨f, fd, ok h.F, h.m, h.F.kp, hk⟩
theorem defk2 {K : PySem.W.Frag} {mg : Str → Option Value} {x : Str} {st : Stmt} {y z : Str} (D : DefK2 K mg x st y z) : Def K mg x st [y, z] := by
  obtain ⟨f, fd, h, _⟩ := D
  exact ⟨f, fd, h⟩
theorem mono_k2 {P : Program} {w : World} {K : PySem.W.Frag} {mg : Str → Option Value} {base : Heap} {j k : Nat} {x : Str} {y z : Str} {CXT' : CXT} {C : Con} (h : CalleeK2 P w K mg base CXT' x j y z C) (hj : j ≤ k) : CalleeK2 P w K mg base CXT' x k y z C := by
  obtain ⟨f, fd, F, r⟩ := h.ex
  exact ⟨f, fd, F.mono hj, r⟩
theorem mk_defK2 {K : PySem.W.Frag} {h : Heap} {mg : Str → Option Value} {x : Str} {st : Stmt} {f : Addr} {oc kV doc pm cdv ct : Value} {od an : Option Addr} {osl : Array (Option Value)} {y z : Str} (KX : K.In h) (G : h.Ns mainGlobals mg) (a : PySem.W.nsIn K mainGlobals x = some (some (.ref f))) (l : K.lookup f = some ⟨oc, od, .func (PySem.W.fnOf x x (defArgs st) (defBody st) (defScope st) .none kV doc pm an cdv ct), osl⟩) (c : PySem.W.codeIn K cdv x = true) (k : PySem.W.keepIn K (.ref f) = true)
    (b : ∀ (kV doc pm : Value) (an : Option Addr) (cdv ct : Value) (u v : Value), bindArgs (PySem.W.fnOf x x (defArgs st) (defBody st) (defScope st) .none kV doc pm an cdv ct) ⟨[u, v], []⟩ = pure [(y, u), (z, v)] ∧ bindArgs (PySem.W.fnOf x x (defArgs st) (defBody st) (defScope st) .none kV doc pm an cdv ct) ⟨[u], [(z, v)]⟩ = pure [(y, u), (z, v)] ∧ bindArgs (PySem.W.fnOf x x (defArgs st) (defBody st) (defScope st) .none kV doc pm an cdv ct) ⟨[], [(z, v), (y, u)]⟩ = pure [(y, u), (z, v)]) : DefK2 K mg x st y z := by
  refine ⟨f, _, ⟨fun_mk l c k, PySem.W.mg_of KX G a, (fun_mk l c k).binds fun kV doc pm an cdv ct us hl => ?_⟩, ⟨fun s us ws _ hl => ?_, fun r1 r2 => ?_⟩⟩
  · match us, hl with
    | [u, v], _ => exact (b kV doc pm an cdv ct u v).1
  · match us, ws, hl with
    | [u, v], [], _ => exact .of_eq (b kV doc pm an cdv ct u v).1
    | [u], [v], _ => exact .of_eq (b kV doc pm an cdv ct u v).2.1
    | [], [v, u], _ => exact .of_eq (b kV doc pm an cdv ct u v).2.2
    | [], [], hl => exact absurd hl (by simp)
    | [], [_], hl => exact absurd hl (by simp)
    | [], _ :: _ :: _ :: _, hl => exact absurd hl (by simp)
    | [_], [], hl => exact absurd hl (by simp)
    | [_], _ :: _ :: _, hl => exact absurd hl (by simp)
    | [_, _], _ :: _, hl => exact absurd hl (by simp)
    | _ :: _ :: _ :: _, _, hl => exact absurd hl (by simp)
  · exact r1.append r2.reverse
structure Facts (w : World) (K : PySem.W.Frag) (mg : Str → Option Value) (CB Ct CN c1 c2 P1 P2 fI : Addr) (fdI : FuncData) : Prop where
  B : Bt mg
  gcd : mg "gcd" = some (.builtin "math.gcd")
  SORTS : CT K mg "SORTS" (.tup (sorts.map Dat.str))
  MOST_BITS : CI mg "MOST_BITS" 15
  TREE_DEEP : CI mg "TREE_DEEP" 40
  TREE_PARTS : CI mg "TREE_PARTS" 600
  PLAIN : ∃ d tv, WD K w d tv ∧ TabOk K tv plainT ∧ mg "PLAIN" = some (.ref d)
  vV : PySem.W.findCls K (.type "ValueError") (.type "type") "__init__" = some (.val (.builtin "ValueError.__init__"))
  oex : OexC K CB
  iniB : PySem.W.findIn K (.ref CB) "__init__" = some (some (.ref fI))
  tyB : PySem.W.typeIn K (.ref fI) = some (.type "function")
  FB : Fun K "__init__" "BadValue.__init__" s_init fI fdI
  bB : Binds K fdI ["self", "what"] []
  err : ErrA K mg CB Ct CN
  has_word : Def K mg "has_word" s_has_word ["thing"]
  is_sort : Def K mg "is_sort" s_is_sort ["thing"]
  tree_size : Def K mg "tree_size" s_tree_size ["thing", "deep", "room"]
  is_rising : Def K mg "is_rising" s_is_rising ["thing"]
  is_below : Def K mg "is_below" s_is_below ["one", "other"]
  is_fraction : DefK K mg "is_fraction" s_is_fraction ["thing"]
  is_value : DefK2 K mg "is_value" s_is_value "thing" "sort"
  plain_value : DefK K mg "plain_value" s_plain_value ["sort"]
  less : DefK2 K mg "less" s_less "one" "other"
  l_mixed : Def K mg "_law_mixed" s__law_mixed ["cell", "k"]
  l_folded : Def K mg "_law_folded" s__law_folded ["script"]
  l_draw : Def K mg "_law_draw" s__law_draw ["m", "top"]
  l_begun : Def K mg "_law_begun" s__law_begun ["script"]
  l_class : Def K mg "_law_class" s__law_class ["error"]
  l_told : Def K mg "_law_told" s__law_told ["deed"]
  l_lowest : Def K mg "_law_lowest" s__law_lowest ["high", "low"]
  l_below : Def K mg "_law_below" s__law_below ["p", "q"]
  l_risen : Def K mg "_law_risen" s__law_risen ["some"]
  l_worth : Def K mg "_law_worth" s__law_worth ["m", "kind", "deep"]
  l_is_number : Def K mg "_law_is_number" s__law_is_number ["it", "least"]
  l_is_lowest : Def K mg "_law_is_lowest" s__law_is_lowest ["it"]
  l_parts : Def K mg "_law_parts" s__law_parts ["it", "deep"]
  l_is_worth : Def K mg "_law_is_worth" s__law_is_worth ["it", "kind"]
  l_grown : Def K mg "_law_grown" s__law_grown ["m", "leaves"]
  l_chain : Def K mg "_law_chain" s__law_chain ["m", "deep"]
  l_far : Def K mg "_law_far" s__law_far []
  l_near : Def K mg "_law_near" s__law_near ["m"]
  l_less_right : ∃ f fd, At K mg "_law_less_right" s__law_less_right ["m"] f fd ∧ ∀ kV doc pm an cdv ct, fd = PySem.W.fnOf "_law_less_right" "_law_less_right" (defArgs s__law_less_right) (defBody s__law_less_right) (defScope s__law_less_right) .none kV doc pm an cdv ct → cdv = .ref c1
section
variable {P : Program} {w : World} {K : PySem.W.Frag} {mg : Str → Option Value} {base : Heap} {f fI : Addr} {fd fdI : FuncData} {CB Ct CN c1 c2 P1 P2 : Addr}
theorem law_all (A : Facts w K mg CB Ct CN c1 c2 P1 P2 fI fdI) (h12 : P1 ≠ P2) (TB1 : TabB base mg c1 P1) (TB2 : TabB base mg c2 P2) (F : Fun K "law" "law" s_law f fd) (hcode : ∀ kV doc pm an cdv ct, fd = PySem.W.fnOf "law" "law" (defArgs s_law) (defBody s_law) (defScope s_law) .none kV doc pm an cdv ct → cdv = .ref c2) : FnG P w K mg base CX0 50 f fd ["script"] (spLaw2 K P1 P2 qLess qLaw) := by
  obtain ⟨dP, vP, WP, TP, CP⟩ := A.PLAIN
  have has_word : Callee P w K mg base "has_word" 1 ["thing"] c_has_word := def_c A.has_word fun F => ok_has_word A.B F
  have is_sort : Callee P w K mg base "is_sort" 1 ["thing"] c_is_sort := def_c A.is_sort fun F => ok_is_sort A.B A.SORTS F
  have is_below : Callee P w K mg base "is_below" 1 ["one", "other"] c_is_below := def_c A.is_below fun F => ok_is_below F
  have is_fraction : Callee P w K mg base "is_fraction" 1 ["thing"] c_is_fraction := def_c (defk A.is_fraction) fun F => ok_is_fraction A.B A.gcd F
  have is_fractionK : CalleeK P w K mg base CX0 "is_fraction" 1 ["thing"] c_is_fraction := def_k A.is_fraction fun F => ok_is_fraction A.B A.gcd F
  have tree_size : ∀ n, Callee P w K mg base "tree_size" (n + 2) ["thing", "deep", "room"] (c_tree_size n) := fun n => by
    induction n with
    | zero => exact def_c A.tree_size fun F => fn_no fun _ _ _ ⟨_, _, h, _⟩ => absurd h (Nat.not_lt_zero _)
    | succ n ih => exact def_c A.tree_size fun F => ok_tree_size (k := n + 2) A.B (Callee.mono has_word (by omega)) (Callee.mono is_fraction (by omega)) ih F
  have is_rising : Callee P w K mg base "is_rising" 2 ["thing"] c_is_rising := def_c A.is_rising fun F => ok_is_rising A.B is_fraction is_below F
  have is_value : Callee P w K mg base "is_value" 44 ["thing", "sort"] c_is_value := def_c (defk2 A.is_value) fun F => ok_is_value A.B (Callee.mono is_sort (by omega)) (Callee.mono is_fraction (by omega)) (tree_size 41) (Callee.mono is_rising (by omega)) A.TREE_DEEP A.TREE_PARTS A.MOST_BITS F
  have is_valueK : CalleeK2 P w K mg base CX0 "is_value" 44 "thing" "sort" c_is_value := def_k2 A.is_value fun F => ok_is_value A.B (Callee.mono is_sort (by omega)) (Callee.mono is_fraction (by omega)) (tree_size 41) (Callee.mono is_rising (by omega)) A.TREE_DEEP A.TREE_PARTS A.MOST_BITS F
  have bad : OwnX P w K mg base "BadValue" CB "what" 1 := ⟨A.oex, A.err.mB, A.err.noB, fI, fdI, _, A.iniB, A.tyB, ok_init A.err.ve A.vV A.FB, A.bB⟩
  have plain : CalleeX P w K mg base "plain_value" 3 ["sort"] (c_plain_value CB) := def_x (defk A.plain_value) fun F => ok_plain_value (k := 2) (by omega) WP TP CP (Callee.mono is_sort (by omega)) bad F
  have plainK : CalleeK P w K mg base (L2.CX P w) "plain_value" 3 ["sort"] (c_plain_value CB) := def_k A.plain_value fun F => ok_plain_value (k := 2) (by omega) WP TP CP (Callee.mono is_sort (by omega)) bad F
  have less : CalleeX P w K mg base "less" 3 ["one", "other"] (c_less CB) := def_x (defk2 A.less) fun F => ok_less (k := 2) (by omega) (Callee.mono is_fraction (by omega)) (Callee.mono is_below (by omega)) bad F
  have lessK : CalleeK2 P w K mg base (L2.CX P w) "less" 3 "one" "other" (c_less CB) := def_k2 A.less fun F => ok_less (k := 2) (by omega) (Callee.mono is_fraction (by omega)) (Callee.mono is_below (by omega)) bad F
  have l_mixed : Callee P w K mg base "_law_mixed" 1 ["cell", "k"] conMix := def_c A.l_mixed fun F => ok_law_mixed F
  have l_draw : CalleeS P w K mg base "_law_draw" 2 ["m", "top"] conDraw := def_s A.l_draw fun F => ok_law_draw A.B l_mixed F
  have l_folded : CalleeL P w K mg base "_law_folded" 1 ["script"] conFold := def_l A.l_folded fun F => ok_law_folded A.B F
  have l_begun : CalleeL P w K mg base "_law_begun" 2 ["script"] conBegun := def_l A.l_begun fun F => ok_law_begun l_folded F
  have l_lowest : Callee P w K mg base "_law_lowest" 1 ["high", "low"] c_lowest := def_c A.l_lowest fun F => ok_law_lowest F
  have l_below : Callee P w K mg base "_law_below" 1 ["p", "q"] c_is_below := def_c A.l_below fun F => ok_law_below F
  have l_number : Callee P w K mg base "_law_is_number" 1 ["it", "least"] c_is_number := def_c A.l_is_number fun F => ok_law_is_number A.B F
  have l_is : Callee P w K mg base "_law_is_lowest" 2 ["it"] c_is_lowest := def_c A.l_is_lowest fun F => ok_law_is_lowest A.B l_number l_lowest F
  have l_risen : Callee P w K mg base "_law_risen" 2 ["some"] c_risen := def_c A.l_risen fun F => ok_law_risen A.B l_below F
  have l_parts : ∀ n, Callee P w K mg base "_law_parts" (n + 3) ["it", "deep"] (c_parts10 n) := fun n => by
    induction n with
    | zero => exact def_c A.l_parts fun F => fn_no fun _ _ _ ⟨_, _, h, _⟩ => absurd h.2 (Nat.not_lt_zero _)
    | succ n ih => exact def_c A.l_parts fun F => ok_law_parts (k := n + 3) A.B (Callee.mono l_is (by omega)) ih F
  have l_is_worth : Callee P w K mg base "_law_is_worth" 45 ["it", "kind"] c_is_worth := def_c A.l_is_worth fun F => ok_law_is_worth A.B (Callee.mono l_is (by omega)) (Callee.mono l_number (by omega)) (Callee.mono l_risen (by omega)) (l_parts 41) F
  have l_worth : ∀ n, CalleeS P w K mg base "_law_worth" (n + 3) ["m", "kind", "deep"] (conWorth n) := fun n => by
    induction n with
    | zero => exact def_s A.l_worth fun F => no_s fun st i sl P ⟨_, _, _, _, _, _, _, h, _⟩ => absurd h (Nat.not_lt_zero _)
    | succ n ih => exact def_s A.l_worth fun F => ok_law_worth (k := n + 3) A.B (mono_s l_draw (by omega)) ih (Callee.mono l_lowest (by omega)) (Callee.mono l_risen (by omega)) F
  have l_chain : CalleeS P w K mg base "_law_chain" 10 ["m", "deep"] conChain := def_s A.l_chain fun F => ok_law_chain (N := 6) (by omega) A.B (mono_s l_draw (by omega)) (l_worth 6) F
  have l_grown : CalleeS P w K mg base "_law_grown" 10 ["m", "leaves"] conChain := def_s A.l_grown fun F => ok_law_grown (N := 6) (by omega) A.B (l_worth 6) F
  have l_far : Callee P w K mg base "_law_far" 1 [] c_far := def_c A.l_far fun F => ok_law_far A.B F
  have l_near : CalleeS P w K mg base "_law_near" 11 ["m"] conNear := def_s A.l_near fun F => ok_law_near (N := 6) (by omega) A.B (mono_s (l_worth 6) (by omega)) l_chain l_grown F
  have told : ToldA P w K mg base CB Ct CN 3 := by
    obtain ⟨f1, fd1, h1⟩ := A.l_class
    obtain ⟨f2, fd2, h2⟩ := A.l_told
    exact ⟨A.err, ⟨f1, fd1, (ok_law_classA (k := 0) A.err h1.F).mono (by omega), h1.m, h1.F.kp, h1.b⟩, ⟨f2, fd2, h2.F, h2.m, h2.F.kp, h2.b⟩⟩
  have l_less : CalleeS P w K mg base "_law_less_right" 12 ["m"] (conLess P1 qLess) := by
    obtain ⟨f1, fd1, h1, hc⟩ := A.l_less_right
    exact ⟨f1, fd1, ok_law_less_right (k := 11) (j := 3) (N := 6) (by omega) (by omega) A.B told less lessK (mono_s (l_worth 6) (by omega)) l_near (mono_s l_draw (by omega)) (Callee.mono l_below (by omega)) (Callee.mono l_is (by omega)) TB1 hc h1.F, h1.m, h1.F.kp, h1.b⟩
  exact (ok_law (k := 45) (jj := 3) (by omega) h12 A.B told (mono_l l_begun (by omega)) (mono_s l_less (by omega)) (mono_s l_near (by omega)) (Callee.mono l_far (by omega)) (Callee.mono l_is (by omega)) l_is_worth (Callee.mono is_value (by omega)) (mono_k2 is_valueK (by omega)) (Callee.mono is_fraction (by omega)) (mono_k is_fractionK (by omega)) plain plainK TB2 hcode F).mono (by omega)
end
theorem scr_ofs {K : PySem.W.Frag} {a c1 c2 P1 P2 : Addr} {vs : List Value} {ns : List Int} {H : Hp} (O : OnlyTs K a [(c1, P1), (c2, P2)] vs ns H) : ScrOk K (fun x => x = P1 ∨ x = P2) H ns (.ref a) := by
  have t1 := O.tab P1 ⟨c1, by simp⟩
  have t2 := O.tab P2 ⟨c2, by simp⟩
  rcases O.scr with h | h
  · refine ⟨a, rfl, .inl ⟨fun e => ?_, h⟩⟩
    rcases e with e | e <;> subst e <;> rcases h with h | ⟨o, h⟩
    · rw [t1] at h; cases h
    · rw [t1] at h; cases h
    · rw [t2] at h; cases h
    · rw [t2] at h; cases h
  · exact ⟨a, rfl, .inr h⟩
theorem law_at {l : PySem.W.OpenLaw} {w : World} {K : PySem.W.Frag} {mg : Str → Option Value} {CB Ct CN c1 c2 P1 P2 fI fa : Addr} {fdI fd : FuncData} {h : Heap} (A : Facts w K mg CB Ct CN c1 c2 P1 P2 fI fdI) (h12 : P1 ≠ P2) (F : Fun K "law" "law" s_law fa fd) (hcode : ∀ kV doc pm an cdv ct, fd = PySem.W.fnOf "law" "law" (defArgs s_law) (defBody s_law) (defScope s_law) .none kV doc pm an cdv ct → cdv = .ref c2) (b : ∀ (s : Shared) (u : Value), BindsTo s fd ⟨[u], []⟩ [("script", u)])
    (hT1 : h.get? P1 = some { cls := .none, data := .fields #[] }) (nT1 : K.lookup P1 = none) (C1 : PySem.W.CodeHd h c1 P1) (hT2 : h.get? P2 = some { cls := .none, data := .fields #[] }) (nT2 : K.lookup P2 = none) (C2 : PySem.W.CodeHd h c2 P2) :
    LawAtGs l w K 50 63 "script" mg fa h := by
  have two : ∀ {Q : Addr → Prop}, Q P1 → Q P2 → ∀ T, InT [(c1, P1), (c2, P2)] T → Q T := fun {Q} q1 q2 T ⟨c, hc⟩ => by
    simp only [List.mem_cons, List.not_mem_nil, or_false, Prod.mk.injEq] at hc
    rcases hc with ⟨_, rfl⟩ | ⟨_, rfl⟩
    · exact q1
    · exact q2
  refine ⟨fd, [(c1, P1), (c2, P2)], spLaw2 K P1 P2 qLess qLaw, two (Q := fun T => h.get? T = _) hT1 hT2, two (Q := fun T => K.lookup T = none) nT1 nT2, fun p hp => ?_, b, fun H a vs ns hn O => ⟨ns, .ref a, rfl, hn, scr_ofs O, TabS.nil (O.tab P1 ⟨c1, by simp⟩), TabS.nil (O.tab P2 ⟨c2, by simp⟩), fun _ => rfl⟩, fun base _ _ TB => law_all A h12 (TB (c1, P1) (by simp)) (TB (c2, P2) (by simp)) F hcode⟩
  simp only [List.mem_cons, List.not_mem_nil, or_false] at hp
  rcases hp with rfl | rfl
  · exact C1
  · exact C2
section
variable {K : PySem.W.Frag} {h : Heap} {mg : Str → Option Value} {x : Str} {st : Stmt} {ps : List Str} {f : Addr} {oc kV doc pm cdv ct : Value} {od an : Option Addr} {osl : Array (Option Value)}
theorem mk_lr {c : Addr} (KX : K.In h) (G : h.Ns mainGlobals mg) (a : PySem.W.nsIn K mainGlobals "_law_less_right" = some (some (.ref f))) (l : K.lookup f = some ⟨oc, od, .func (PySem.W.fnOf "_law_less_right" "_law_less_right" (defArgs s__law_less_right) (defBody s__law_less_right) (defScope s__law_less_right) .none kV doc pm an (.ref c) ct), osl⟩)
    (cc : PySem.W.codeIn K (.ref c) "_law_less_right" = true) (k : PySem.W.keepIn K (.ref f) = true) : ∃ f fd, At K mg "_law_less_right" s__law_less_right ["m"] f fd ∧ ∀ kV doc pm an cdv ct, fd = PySem.W.fnOf "_law_less_right" "_law_less_right" (defArgs s__law_less_right) (defBody s__law_less_right) (defScope s__law_less_right) .none kV doc pm an cdv ct → cdv = .ref c :=
  ⟨f, _, ⟨fun_mk l cc k, PySem.W.mg_of KX G a, (fun_mk l cc k).binds fun _ _ _ _ _ _ us hl => match us, hl with | [_], _ => rfl⟩, fun _ _ _ _ _ _ e => (congrArg FuncData.code e).symm⟩
theorem mk_lawC {fa f0 c : Addr} (KX : K.In h) (G : h.Ns mainGlobals mg) (hmg : mg "law" = some (.ref fa)) (a : PySem.W.nsIn K mainGlobals "law" = some (some (.ref f0))) (l : K.lookup f0 = some ⟨oc, od, .func (PySem.W.fnOf "law" "law" (defArgs s_law) (defBody s_law) (defScope s_law) .none kV doc pm an (.ref c) ct), osl⟩) (cc : PySem.W.codeIn K (.ref c) "law" = true) (k : PySem.W.keepIn K (.ref f0) = true) :
    ∃ fd, Fun K "law" "law" s_law fa fd ∧ (∀ kV doc pm an cdv ct, fd = PySem.W.fnOf "law" "law" (defArgs s_law) (defBody s_law) (defScope s_law) .none kV doc pm an cdv ct → cdv = .ref c) ∧ ∀ (s : Shared) (u : Value), BindsTo s fd ⟨[u], []⟩ [("script", u)] := by
  have e : fa = f0 := Value.ref.inj (Option.some.inj (hmg.symm.trans (PySem.W.mg_of KX G a)))
  subst e
  exact ⟨_, fun_mk l cc k, fun _ _ _ _ _ _ e => (congrArg FuncData.code e).symm, fun s u => .of_eq rfl⟩
theorem mk_errA {CB CT CN : Addr} (KX : K.In h) (G : h.Ns mainGlobals mg) (isi : PySem.W.nsIn K mainGlobals "isinstance" = some none) (ve : PySem.W.nsIn K mainGlobals "ValueError" = some none) (le : PySem.W.nsIn K mainGlobals "LookupError" = some none)
    (a : PySem.W.nsIn K mainGlobals "BadValue" = some (some (.ref CB))) (b : PySem.W.nsIn K mainGlobals "BadText" = some (some (.ref CT))) (c : PySem.W.nsIn K mainGlobals "NoFit" = some (some (.ref CN))) (noB : PySem.W.findIn K (.ref CB) "what" = some none) (noN : PySem.W.findIn K (.ref CN) "what" = some none) (noM : PySem.W.findIn K (.ref CN) "name" = some none)
    (bT : PySem.W.kitOne K (.ref CB) (.ref CT) = some false) (bV : PySem.W.kitOne K (.ref CB) (.type "ValueError") = some true) (nT : PySem.W.kitOne K (.ref CN) (.ref CT) = some false) (nB : PySem.W.kitOne K (.ref CN) (.ref CB) = some false) (nL : PySem.W.kitOne K (.ref CN) (.type "LookupError") = some true)
    (xB : PySem.W.exmAny K (.ref CB) [.ref CB, .ref CN] = some true) (xN : PySem.W.exmAny K (.ref CN) [.ref CB, .ref CN] = some true)
    (hn : PySem.W.specialIn K (.builtin "object.__class__") "__get__" = some (some (.builtin "getset_descriptor.__get__"))) (ht : PySem.W.takesIn K (.builtin "object.__class__") = some true)
    (g1 : PySem.W.findIn K (.ref CB) "__getattribute__" = some (some (.builtin "BaseException.__getattribute__"))) (g2 : PySem.W.findIn K (.ref CB) "__getattr__" = some none) (g3 : PySem.W.subIn K (.ref CB) (.type "BaseException") = some true) (g4 : PySem.W.hasDictIn K CB = true) (g5 : PySem.W.findIn K (.ref CB) "__class__" = some (some (.builtin "object.__class__"))) (g6 : PySem.W.mroIn K CB (.type "object") = some true)
    (n1 : PySem.W.findIn K (.ref CN) "__getattribute__" = some (some (.builtin "BaseException.__getattribute__"))) (n2 : PySem.W.findIn K (.ref CN) "__getattr__" = some none) (n3 : PySem.W.subIn K (.ref CN) (.type "BaseException") = some true) (n4 : PySem.W.hasDictIn K CN = true) (n5 : PySem.W.findIn K (.ref CN) "__class__" = some (some (.builtin "object.__class__"))) (n6 : PySem.W.mroIn K CN (.type "object") = some true) :
    ∃ CB CT CN, ErrA K mg CB CT CN :=
  ⟨CB, CT, CN, { isi := PySem.W.mg_none_of KX G isi, ve := PySem.W.mg_none_of KX G ve, le := PySem.W.mg_none_of KX G le, mB := PySem.W.mg_of KX G a, mT := PySem.W.mg_of KX G b, mN := PySem.W.mg_of KX G c, eB := ⟨g1, g2, g3, g4, g5, hn, ht, g6⟩, eN := ⟨n1, n2, n3, n4, n5, hn, ht, n6⟩, xB := ⟨g1, g2, g3, g4⟩, xN := ⟨n1, n2, n3, n4⟩, noB := noB, noN := noN, noM := noM, bT := bT, bV := bV, nT := nT, nB := nB, nL := nL, anyB := xB, anyN := xN }⟩
end
end K01
open PySem PySem.W PyProof.Rows
set_option linter.all false
set_option maxRecDepth 100000 in
set_option maxHeartbeats 0 in
theorem PySem.Challenge.cw_allsorts_k10_values_looked_at_holds : PySem.Challenge.rw_allsorts_k10_values_looked_at.Holds := by
  w_on; o_law; k_head; (case hw => w_witness2)
  k_fill
  refine DL.walk_ofGs (l := PySem.Challenge.rw_allsorts_k10_values_looked_at) (n := 63) (k := 50) (x := "script") rfl (by decide) rfl ⟨rfl, by decide, by decide⟩ (fun w h Y => PySem.W.km_in_of Y) ?F
  case F =>
    intro w mg fa h Y KX G hmg
    have tabs := PySem.W.km_tabs_of Y
    have d_has_word : K01.Def (PySem.Challenge.cw_allsorts_k10_values_looked_at_holds.heap_39 w.params) mg "has_word" K01.s_has_word ["thing"] := by
      refine' K01.mk_def KX G ?a ?l ?c ?k ?b
      (case a => k_is)
      (case l => k_is)
      (case c => k_is)
      (case k => k_is)
      (case b => first | exact (fun _ _ _ _ _ _ us hl => match us, hl with | [_], _ => rfl))
    have d_is_sort : K01.Def (PySem.Challenge.cw_allsorts_k10_values_looked_at_holds.heap_39 w.params) mg "is_sort" K01.s_is_sort ["thing"] := by
      refine' K01.mk_def KX G ?a ?l ?c ?k ?b
      (case a => k_is)
      (case l => k_is)
      (case c => k_is)
      (case k => k_is)
      (case b => first | exact (fun _ _ _ _ _ _ us hl => match us, hl with | [_], _ => rfl))
    have d_tree_size : K01.Def (PySem.Challenge.cw_allsorts_k10_values_looked_at_holds.heap_39 w.params) mg "tree_size" K01.s_tree_size ["thing", "deep", "room"] := by
      refine' K01.mk_def KX G ?a ?l ?c ?k ?b
      (case a => k_is)
      (case l => k_is)
      (case c => k_is)
      (case k => k_is)
      (case b => first | exact (fun _ _ _ _ _ _ us hl => match us, hl with | [_, _, _], _ => rfl))
    have d_is_rising : K01.Def (PySem.Challenge.cw_allsorts_k10_values_looked_at_holds.heap_39 w.params) mg "is_rising" K01.s_is_rising ["thing"] := by
      refine' K01.mk_def KX G ?a ?l ?c ?k ?b
      (case a => k_is)
      (case l => k_is)
      (case c => k_is)
      (case k => k_is)
      (case b => first | exact (fun _ _ _ _ _ _ us hl => match us, hl with | [_], _ => rfl))
    have d_is_below : K01.Def (PySem.Challenge.cw_allsorts_k10_values_looked_at_holds.heap_39 w.params) mg "is_below" K01.s_is_below ["one", "other"] := by
      refine' K01.mk_def KX G ?a ?l ?c ?k ?b
      (case a => k_is)
      (case l => k_is)
      (case c => k_is)
      (case k => k_is)
      (case b => first | exact (fun _ _ _ _ _ _ us hl => match us, hl with | [_, _], _ => rfl))
    have d_is_fraction : K01.DefK (PySem.Challenge.cw_allsorts_k10_values_looked_at_holds.heap_39 w.params) mg "is_fraction" K01.s_is_fraction ["thing"] := by
      refine' K01.mk_defK KX G ?a ?l ?c ?k ?b
      (case a => k_is)
      (case l => k_is)
      (case c => k_is)
      (case k => k_is)
      (case b => first | exact (fun _ _ _ _ _ _ _ => ⟨rfl, rfl⟩))
    have d_is_value : K01.DefK2 (PySem.Challenge.cw_allsorts_k10_values_looked_at_holds.heap_39 w.params) mg "is_value" K01.s_is_value "thing" "sort" := by
      refine' K01.mk_defK2 KX G ?a ?l ?c ?k ?b
      (case a => k_is)
      (case l => k_is)
      (case c => k_is)
      (case k => k_is)
      (case b => first | exact (fun _ _ _ _ _ _ _ _ => ⟨rfl, rfl, rfl⟩))
    have d_plain_value : K01.DefK (PySem.Challenge.cw_allsorts_k10_values_looked_at_holds.heap_39 w.params) mg "plain_value" K01.s_plain_value ["sort"] := by
      refine' K01.mk_defK KX G ?a ?l ?c ?k ?b
      (case a => k_is)
      (case l => k_is)
      (case c => k_is)
      (case k => k_is)
      (case b => first | exact (fun _ _ _ _ _ _ _ => ⟨rfl, rfl⟩))
    have d_less : K01.DefK2 (PySem.Challenge.cw_allsorts_k10_values_looked_at_holds.heap_39 w.params) mg "less" K01.s_less "one" "other" := by
      refine' K01.mk_defK2 KX G ?a ?l ?c ?k ?b
      (case a => k_is)
      (case l => k_is)
      (case c => k_is)
      (case k => k_is)
      (case b => first | exact (fun _ _ _ _ _ _ _ _ => ⟨rfl, rfl, rfl⟩))
    have d_l_mixed : K01.Def (PySem.Challenge.cw_allsorts_k10_values_looked_at_holds.heap_39 w.params) mg "_law_mixed" K01.s__law_mixed ["cell", "k"] := by
      refine' K01.mk_def KX G ?a ?l ?c ?k ?b
      (case a => k_is)
      (case l => k_is)
      (case c => k_is)
      (case k => k_is)
      (case b => first | exact (fun _ _ _ _ _ _ us hl => match us, hl with | [_, _], _ => rfl))
    have d_l_folded : K01.Def (PySem.Challenge.cw_allsorts_k10_values_looked_at_holds.heap_39 w.params) mg "_law_folded" K01.s__law_folded ["script"] := by
      refine' K01.mk_def KX G ?a ?l ?c ?k ?b
      (case a => k_is)
      (case l => k_is)
      (case c => k_is)
      (case k => k_is)
      (case b => first | exact (fun _ _ _ _ _ _ us hl => match us, hl with | [_], _ => rfl))
    have d_l_draw : K01.Def (PySem.Challenge.cw_allsorts_k10_values_looked_at_holds.heap_39 w.params) mg "_law_draw" K01.s__law_draw ["m", "top"] := by
      refine' K01.mk_def KX G ?a ?l ?c ?k ?b
      (case a => k_is)
      (case l => k_is)
      (case c => k_is)
      (case k => k_is)
      (case b => first | exact (fun _ _ _ _ _ _ us hl => match us, hl with | [_, _], _ => rfl))
    have d_l_begun : K01.Def (PySem.Challenge.cw_allsorts_k10_values_looked_at_holds.heap_39 w.params) mg "_law_begun" K01.s__law_begun ["script"] := by
      refine' K01.mk_def KX G ?a ?l ?c ?k ?b
      (case a => k_is)
      (case l => k_is)
      (case c => k_is)
      (case k => k_is)
      (case b => first | exact (fun _ _ _ _ _ _ us hl => match us, hl with | [_], _ => rfl))
    have d_l_class : K01.Def (PySem.Challenge.cw_allsorts_k10_values_looked_at_holds.heap_39 w.params) mg "_law_class" K01.s__law_class ["error"] := by
      refine' K01.mk_def KX G ?a ?l ?c ?k ?b
      (case a => k_is)
      (case l => k_is)
      (case c => k_is)
      (case k => k_is)
      (case b => first | exact (fun _ _ _ _ _ _ us hl => match us, hl with | [_], _ => rfl))
    have d_l_told : K01.Def (PySem.Challenge.cw_allsorts_k10_values_looked_at_holds.heap_39 w.params) mg "_law_told" K01.s__law_told ["deed"] := by
      refine' K01.mk_def KX G ?a ?l ?c ?k ?b
      (case a => k_is)
      (case l => k_is)
      (case c => k_is)
      (case k => k_is)
      (case b => first | exact (fun _ _ _ _ _ _ us hl => match us, hl with | [_], _ => rfl))
    have d_l_lowest : K01.Def (PySem.Challenge.cw_allsorts_k10_values_looked_at_holds.heap_39 w.params) mg "_law_lowest" K01.s__law_lowest ["high", "low"] := by
      refine' K01.mk_def KX G ?a ?l ?c ?k ?b
      (case a => k_is)
      (case l => k_is)
      (case c => k_is)
      (case k => k_is)
      (case b => first | exact (fun _ _ _ _ _ _ us hl => match us, hl with | [_, _], _ => rfl))
    have d_l_below : K01.Def (PySem.Challenge.cw_allsorts_k10_values_looked_at_holds.heap_39 w.params) mg "_law_below" K01.s__law_below ["p", "q"] := by
      refine' K01.mk_def KX G ?a ?l ?c ?k ?b
      (case a => k_is)
      (case l => k_is)
      (case c => k_is)
      (case k => k_is)
      (case b => first | exact (fun _ _ _ _ _ _ us hl => match us, hl with | [_, _], _ => rfl))
    have d_l_risen : K01.Def (PySem.Challenge.cw_allsorts_k10_values_looked_at_holds.heap_39 w.params) mg "_law_risen" K01.s__law_risen ["some"] := by
      refine' K01.mk_def KX G ?a ?l ?c ?k ?b
      (case a => k_is)
      (case l => k_is)
      (case c => k_is)
      (case k => k_is)
      (case b => first | exact (fun _ _ _ _ _ _ us hl => match us, hl with | [_], _ => rfl))
    have d_l_worth : K01.Def (PySem.Challenge.cw_allsorts_k10_values_looked_at_holds.heap_39 w.params) mg "_law_worth" K01.s__law_worth ["m", "kind", "deep"] := by
      refine' K01.mk_def KX G ?a ?l ?c ?k ?b
      (case a => k_is)
      (case l => k_is)
      (case c => k_is)
      (case k => k_is)
      (case b => first | exact (fun _ _ _ _ _ _ us hl => match us, hl with | [_, _, _], _ => rfl))
    have d_l_is_number : K01.Def (PySem.Challenge.cw_allsorts_k10_values_looked_at_holds.heap_39 w.params) mg "_law_is_number" K01.s__law_is_number ["it", "least"] := by
      refine' K01.mk_def KX G ?a ?l ?c ?k ?b
      (case a => k_is)
      (case l => k_is)
      (case c => k_is)
      (case k => k_is)
      (case b => first | exact (fun _ _ _ _ _ _ us hl => match us, hl with | [_, _], _ => rfl))
    have d_l_is_lowest : K01.Def (PySem.Challenge.cw_allsorts_k10_values_looked_at_holds.heap_39 w.params) mg "_law_is_lowest" K01.s__law_is_lowest ["it"] := by
      refine' K01.mk_def KX G ?a ?l ?c ?k ?b
      (case a => k_is)
      (case l => k_is)
      (case c => k_is)
      (case k => k_is)
      (case b => first | exact (fun _ _ _ _ _ _ us hl => match us, hl with | [_], _ => rfl))
    have d_l_parts : K01.Def (PySem.Challenge.cw_allsorts_k10_values_looked_at_holds.heap_39 w.params) mg "_law_parts" K01.s__law_parts ["it", "deep"] := by
      refine' K01.mk_def KX G ?a ?l ?c ?k ?b
      (case a => k_is)
      (case l => k_is)
      (case c => k_is)
      (case k => k_is)
      (case b => first | exact (fun _ _ _ _ _ _ us hl => match us, hl with | [_, _], _ => rfl))
    have d_l_is_worth : K01.Def (PySem.Challenge.cw_allsorts_k10_values_looked_at_holds.heap_39 w.params) mg "_law_is_worth" K01.s__law_is_worth ["it", "kind"] := by
      refine' K01.mk_def KX G ?a ?l ?c ?k ?b
      (case a => k_is)
      (case l => k_is)
      (case c => k_is)
      (case k => k_is)
      (case b => first | exact (fun _ _ _ _ _ _ us hl => match us, hl with | [_, _], _ => rfl))
    have d_l_grown : K01.Def (PySem.Challenge.cw_allsorts_k10_values_looked_at_holds.heap_39 w.params) mg "_law_grown" K01.s__law_grown ["m", "leaves"] := by
      refine' K01.mk_def KX G ?a ?l ?c ?k ?b
      (case a => k_is)
      (case l => k_is)
      (case c => k_is)
      (case k => k_is)
      (case b => first | exact (fun _ _ _ _ _ _ us hl => match us, hl with | [_, _], _ => rfl))
    have d_l_chain : K01.Def (PySem.Challenge.cw_allsorts_k10_values_looked_at_holds.heap_39 w.params) mg "_law_chain" K01.s__law_chain ["m", "deep"] := by
      refine' K01.mk_def KX G ?a ?l ?c ?k ?b
      (case a => k_is)
      (case l => k_is)
      (case c => k_is)
      (case k => k_is)
      (case b => first | exact (fun _ _ _ _ _ _ us hl => match us, hl with | [_, _], _ => rfl))
    have d_l_far : K01.Def (PySem.Challenge.cw_allsorts_k10_values_looked_at_holds.heap_39 w.params) mg "_law_far" K01.s__law_far [] := by
      refine' K01.mk_def KX G ?a ?l ?c ?k ?b
      (case a => k_is)
      (case l => k_is)
      (case c => k_is)
      (case k => k_is)
      (case b => first | exact (fun _ _ _ _ _ _ us hl => match us, hl with | [], _ => rfl))
    have d_l_near : K01.Def (PySem.Challenge.cw_allsorts_k10_values_looked_at_holds.heap_39 w.params) mg "_law_near" K01.s__law_near ["m"] := by
      refine' K01.mk_def KX G ?a ?l ?c ?k ?b
      (case a => k_is)
      (case l => k_is)
      (case c => k_is)
      (case k => k_is)
      (case b => first | exact (fun _ _ _ _ _ _ us hl => match us, hl with | [_], _ => rfl))
    have c_MOST_BITS : DL.CI mg "MOST_BITS" 15 := by
      refine' K01.mk_ci KX G ?a
      (case a => k_is)
    have c_TREE_DEEP : DL.CI mg "TREE_DEEP" 40 := by
      refine' K01.mk_ci KX G ?a
      (case a => k_is)
    have c_TREE_PARTS : DL.CI mg "TREE_PARTS" 600 := by
      refine' K01.mk_ci KX G ?a
      (case a => k_is)
    have bt : DL.Bt mg := by
      refine K01.mk_bt KX G fun x hx => ?_
      simp only [List.mem_cons, List.not_mem_nil, or_false] at hx
      rcases hx with rfl | rfl | rfl | rfl | rfl | rfl | rfl | rfl | rfl | rfl | rfl | rfl | rfl | rfl | rfl | rfl <;> first | k_is
    have so : DL.CT (PySem.Challenge.cw_allsorts_k10_values_looked_at_holds.heap_39 w.params) mg "SORTS" (.tup (K01.sorts.map DL.Dat.str)) := by
      refine' K01.mk_ct KX G ?a ?b
      (case a => k_is)
      (case b => first | rfl | kernel_rfl)
    have pl : ∃ d tv, DL.WD (PySem.Challenge.cw_allsorts_k10_values_looked_at_holds.heap_39 w.params) w d tv ∧ DL.TabOk (PySem.Challenge.cw_allsorts_k10_values_looked_at_holds.heap_39 w.params) tv K01.plainT ∧ mg "PLAIN" = some (.ref d) := by
      refine' K01.mk_pl KX G ?a ?l ?t ?o ?r
      (case a => k_is)
      (case l => k_is)
      (case t => first | (repeat (first | exact True.intro | (refine ⟨⟨_, _, rfl, rfl⟩, ?_⟩))))
      (case o => first | rfl | decide)
      (case r => first | rfl | kernel_rfl)
    have gcd : mg "gcd" = some (.builtin "math.gcd") := by
      refine' PySem.W.mg_of KX G ?a
      (case a => k_is)
    have rf : ∃ c, (∃ f fd, K01.At (PySem.Challenge.cw_allsorts_k10_values_looked_at_holds.heap_39 w.params) mg "_law_less_right" K01.s__law_less_right ["m"] f fd ∧ ∀ kV doc pm an cdv ct, fd = PySem.W.fnOf "_law_less_right" "_law_less_right" (L2.defArgs K01.s__law_less_right) (L2.defBody K01.s__law_less_right) (L2.defScope K01.s__law_less_right) .none kV doc pm an cdv ct → cdv = .ref c) ∧ CodeHd h c 284 := by
      refine' ⟨_, K01.mk_lr KX G ?a ?l ?c ?k, codeHd_of_K KX ?e⟩
      (case a => k_is)
      (case l => k_is)
      (case c => k_is)
      (case k => k_is)
      (case e => first | k_is | rfl | kernel_rfl)
    have lw : ∃ c, (∃ fd, L2.Fun (PySem.Challenge.cw_allsorts_k10_values_looked_at_holds.heap_39 w.params) "law" "law" K01.s_law fa fd ∧ (∀ kV doc pm an cdv ct, fd = PySem.W.fnOf "law" "law" (L2.defArgs K01.s_law) (L2.defBody K01.s_law) (L2.defScope K01.s_law) .none kV doc pm an cdv ct → cdv = .ref c) ∧ ∀ (s : Shared) (u : Value), BindsTo s fd ⟨[u], []⟩ [("script", u)]) ∧ CodeHd h c 291 := by
      refine' ⟨_, K01.mk_lawC KX G hmg ?a ?l ?c ?k, codeHd_of_K KX ?e⟩
      (case a => k_is)
      (case l => k_is)
      (case c => k_is)
      (case k => k_is)
      (case e => first | k_is | rfl | kernel_rfl)
    have er : ∃ C fI fdI, mg "BadValue" = some (.ref C) ∧ L2.OexC (PySem.Challenge.cw_allsorts_k10_values_looked_at_holds.heap_39 w.params) C ∧ findIn (PySem.Challenge.cw_allsorts_k10_values_looked_at_holds.heap_39 w.params) (.ref C) "__init__" = some (some (.ref fI)) ∧ typeIn (PySem.Challenge.cw_allsorts_k10_values_looked_at_holds.heap_39 w.params) (.ref fI) = some (.type "function") ∧ L2.Fun (PySem.Challenge.cw_allsorts_k10_values_looked_at_holds.heap_39 w.params) "__init__" "BadValue.__init__" K01.s_init fI fdI ∧ L2.Binds (PySem.Challenge.cw_allsorts_k10_values_looked_at_holds.heap_39 w.params) fdI ["self", "what"] [] := by
      refine' ⟨_, _, _, PySem.W.mg_of KX G ?a, K01.mk_oex ?l ?r ?sa ?e ?t ?k, ?ini, ?ty, L2.fun_mk ?lI ?cI ?kI, (L2.fun_mk ?lI ?cI ?kI).binds (fun _ _ _ _ _ _ us hl => match us, hl with | [_, _], _ => rfl)⟩
      (case a => k_is)
      (case l => k_is)
      (case r => first | decide +kernel)
      (case sa => k_is)
      (case e => k_is)
      (case t => k_is)
      (case k => k_is)
      (case ini => k_is)
      (case ty => k_is)
      (case lI => k_is)
      (case cI => k_is)
      (case kI => k_is)
    have ea : ∃ CB CT CN, K01.ErrA (PySem.Challenge.cw_allsorts_k10_values_looked_at_holds.heap_39 w.params) mg CB CT CN := by
      refine' K01.mk_errA KX G ?q1 ?q2 ?q3 ?a ?b ?c ?noB ?noN ?noM ?bT ?bV ?nT ?nB ?nL ?xB ?xN ?hn ?ht ?g1 ?g2 ?g3 ?g4 ?g5 ?g6 ?n1 ?n2 ?n3 ?n4 ?n5 ?n6
      (case q1 => k_is)
      (case q2 => k_is)
      (case q3 => k_is)
      (case a => k_is)
      (case b => k_is)
      (case c => k_is)
      (case noB => k_is)
      (case noN => k_is)
      (case noM => k_is)
      (case hn => k_is)
      (case ht => k_is)
      (case g1 => k_is)
      (case g2 => k_is)
      (case g3 => k_is)
      (case g4 => k_is)
      (case g5 => k_is)
      (case g6 => k_is)
      (case n1 => k_is)
      (case n2 => k_is)
      (case n3 => k_is)
      (case n4 => k_is)
      (case n5 => k_is)
      (case n6 => k_is)
      (case bT => first | k_is | kit_is | rfl | kernel_rfl)
      (case bV => first | k_is | kit_is | rfl | kernel_rfl)
      (case nT => first | k_is | kit_is | rfl | kernel_rfl)
      (case nB => first | k_is | kit_is | rfl | kernel_rfl)
      (case nL => first | k_is | kit_is | rfl | kernel_rfl)
      (case xB => first | k_is | rfl | kernel_rfl)
      (case xN => first | k_is | rfl | kernel_rfl)
    have vV : findCls (PySem.Challenge.cw_allsorts_k10_values_looked_at_holds.heap_39 w.params) (.type "ValueError") (.type "type") "__init__" = some (.val (.builtin "ValueError.__init__")) := by first | k_is | rfl | kernel_rfl
    have nT1 : (PySem.Challenge.cw_allsorts_k10_values_looked_at_holds.heap_39 w.params).lookup 284 = none := by first | rfl | kernel_rfl
    have nT2 : (PySem.Challenge.cw_allsorts_k10_values_looked_at_holds.heap_39 w.params).lookup 291 = none := by first | rfl | kernel_rfl
    obtain ⟨c1, rf, cd1⟩ := rf
    obtain ⟨c2, ⟨fdL, FL, hcL, bL⟩, cd2⟩ := lw
    obtain ⟨C, fI, fdI, m1, oex, ini, ty, FI, bI⟩ := er
    obtain ⟨C', Ct, CN, ea⟩ := ea
    cases Value.ref.inj (Option.some.inj (m1.symm.trans ea.mB))
    exact K01.law_at (CB := C) (Ct := Ct) (CN := CN) (c1 := c1) (c2 := c2) (P1 := 284) (P2 := 291) (fI := fI) (fdI := fdI) { B := bt, gcd := gcd, SORTS := so, MOST_BITS := c_MOST_BITS, TREE_DEEP := c_TREE_DEEP, TREE_PARTS := c_TREE_PARTS, PLAIN := pl, vV := vV, oex := oex, iniB := ini, tyB := ty, FB := FI, bB := bI, err := ea, has_word := d_has_word, is_sort := d_is_sort, tree_size := d_tree_size, is_rising := d_is_rising, is_below := d_is_below, is_fraction := d_is_fraction, is_value := d_is_value, plain_value := d_plain_value, less := d_less, l_mixed := d_l_mixed, l_folded := d_l_folded, l_draw := d_l_draw, l_begun := d_l_begun, l_class := d_l_class, l_told := d_l_told, l_lowest := d_l_lowest, l_below := d_l_below, l_risen := d_l_risen, l_worth := d_l_worth, l_is_number := d_l_is_number, l_is_lowest := d_l_is_lowest, l_parts := d_l_parts, l_is_worth := d_l_is_worth, l_grown := d_l_grown, l_chain := d_l_chain, l_far := d_l_far, l_near := d_l_near, l_less_right := rf } (by decide) FL hcL bL (tabs 284 (by simp)) nT1 cd1 (tabs 291 (by simp)) nT2 cd2
