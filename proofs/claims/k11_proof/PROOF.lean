import PyProof.Rows.All
import Wide.All
import OpenK.AllK
import Wide.FinOn
import HandS.ForMost
import HandS.Evl
import HandS.Exc
import HandS.More
import HandS.TupAny
import HandS.TupMul
import HandS.Zip
import HandS.FStr
import PyProof.TypeEq
import KE.KDictZip
import PyProof.FactsAll.object_2
import HandS.ExcInit
import HandS.WordsExc
import HandS.IsInst
import HandS.Text
import PyProof.StrOps2
import PyProof.ReprRoads
import KE.KRevSl
import HandS.WordsDict
import HandS.TryMany
import HandS.ExcIs
import HandS.ExcField
import HandS.Lambda
import KE.KExcIs
import HandS.EndTab
import HandS.Deep
import HandS.SortKw
import KE.DatumOrd
import HandS.SortOrd
import HandS.SortInts
import PyProof.Rows.SortStr
import PyProof.Rows.SortKeyStr
import PyProof.P3Eq
import KE.KExcInit
import PyProof.ExcBaseAll.LookupError
import PyProof.InstStoreFacts
import HandS.Gcd
import HandS.Wide
import KE.LtSeq
import KE.KSortTup
import PyProof.Rows.RowHeap
import PyProof.TupleOfSeq
import PyProof.Rows.RuleB_bool
import HandS.MakeKwOnly
import HandS.CallLocal
import PyProof.EqAt
import HandS.Style
import HandS.OwnEq
import HandS.TupLe
import PyProof.InstEq
import HandS.TryOnly
import PyProof.ReprBulk
import KE.KNestM
import PySem.Challenge.RW_allsorts_k11_models_told
set_option Elab.async false
set_option linter.all false
set_option maxRecDepth 100000
set_option maxHeartbeats 4000000
namespace DL
open PySem PySem.Spec PyProof.Rows L2

inductive Dat where
  | non | bl (b : Bool) | int (i : Int) | str (x : Str) | tup (xs : List Dat) | lst (xs : List Dat) | dic (ks : List Key) (vs : List Dat) | anl | adc

/-! ### what a value stands for -/
def WrT (K : PySem.W.Frag) (a : Addr) (xs : List V) : Prop := ∃ (o : Obj) (its : Array Value) (n : Nat), K.lookup a = some o ∧ o.cls = .type "tuple" ∧ o.data = .seq its n ∧ its.size ≤ sizeLine ∧ Vals xs its.toList
def WrL (K : PySem.W.Frag) (a : Addr) (xs : List V) : Prop := ∃ (o : Obj) (its : Array Value) (n : Nat), K.lookup a = some o ∧ o.cls = .type "list" ∧ o.dict = none ∧ o.data = .seq its n ∧ its.size ≤ sizeLine ∧ Vals xs its.toList
mutual
def Dv (K : PySem.W.Frag) (S : Addr → Prop) (H : Hp) : Dat → V → Prop
  | .non, v => v = .non
  | .bl b, v => v = .bl b
  | .int i, v => v = .int i
  | .str x, v => v = .str x
  | .tup ds, v => ∃ a xs, v = .ref a ∧ ((¬ S a ∧ H a = some (.tup xs)) ∨ WrT K a xs) ∧ DvL K S H ds xs
  | .lst ds, v => ∃ a xs, v = .ref a ∧ ¬ S a ∧ H a = some (.lst xs) ∧ DvL K S H ds xs
  | .dic ks ds, v => ∃ a kvs, v = .ref a ∧ ¬ S a ∧ H a = some (.dK kvs) ∧ kvs.map (·.1) = ks ∧ DvL K S H ds (kvs.map (·.2))
  | .anl, v => ∃ a xs, v = .ref a ∧ ¬ S a ∧ H a = some (.lst xs)
  | .adc, v => ∃ a kvs, v = .ref a ∧ ¬ S a ∧ H a = some (.dK kvs)
def DvL (K : PySem.W.Frag) (S : Addr → Prop) (H : Hp) : List Dat → List V → Prop
  | [], vs => vs = []
  | d :: ds, vs => ∃ v r, vs = v :: r ∧ Dv K S H d v ∧ DvL K S H ds r
end
section
variable {K : PySem.W.Frag} {S S' : Addr → Prop} {H H' : Hp}
theorem sqT_of {a : Addr} {xs : List V} (h : (¬ S a ∧ H a = some (.tup xs)) ∨ WrT K a xs) : SqT K H a xs := by
  rcases h with ⟨_, h⟩ | h
  · exact .inl (.inl h)
  · exact .inr h
mutual
theorem Dv.move (h : ∀ a o, ¬ S a → H a = some o → ¬ S' a ∧ H' a = some o) : ∀ (d : Dat) (v : V), Dv K S H d v → Dv K S' H' d v
  | .non, _, e => e
  | .bl _, _, e => e
  | .int _, _, e => e
  | .str _, _, e => e
  | .tup ds, v, e => by
    obtain ⟨a, xs, rfl, h1, h2⟩ := (e : ∃ a xs, v = .ref a ∧ ((¬ S a ∧ H a = some (.tup xs)) ∨ WrT K a xs) ∧ DvL K S H ds xs)
    refine ⟨a, xs, rfl, ?_, DvL.move h ds xs h2⟩
    rcases h1 with ⟨n, e⟩ | e
    · exact .inl (h a _ n e)
    · exact .inr e
  | .lst ds, v, e => by
    obtain ⟨a, xs, rfl, n, h1, h2⟩ := (e : ∃ a xs, v = .ref a ∧ ¬ S a ∧ H a = some (.lst xs) ∧ DvL K S H ds xs)
    exact ⟨a, xs, rfl, (h a _ n h1).1, (h a _ n h1).2, DvL.move h ds xs h2⟩
  | .dic ks ds, v, e => by
    obtain ⟨a, kvs, rfl, n, h1, hk, h2⟩ := (e : ∃ a kvs, v = .ref a ∧ ¬ S a ∧ H a = some (.dK kvs) ∧ kvs.map (·.1) = ks ∧ DvL K S H ds (kvs.map (·.2)))
    exact ⟨a, kvs, rfl, (h a _ n h1).1, (h a _ n h1).2, hk, DvL.move h ds _ h2⟩
  | .anl, v, e => by
    obtain ⟨a, xs, rfl, n, h1⟩ := (e : ∃ a xs, v = .ref a ∧ ¬ S a ∧ H a = some (.lst xs))
    exact ⟨a, xs, rfl, (h a _ n h1).1, (h a _ n h1).2⟩
  | .adc, v, e => by
    obtain ⟨a, kvs, rfl, n, h1⟩ := (e : ∃ a kvs, v = .ref a ∧ ¬ S a ∧ H a = some (.dK kvs))
    exact ⟨a, kvs, rfl, (h a _ n h1).1, (h a _ n h1).2⟩
theorem DvL.move (h : ∀ a o, ¬ S a → H a = some o → ¬ S' a ∧ H' a = some o) : ∀ (ds : List Dat) (vs : List V), DvL K S H ds vs → DvL K S' H' ds vs
  | [], _, e => e
  | d :: ds, vs, e => by
    obtain ⟨v, r, rfl, h1, h2⟩ := (e : ∃ v r, vs = v :: r ∧ Dv K S H d v ∧ DvL K S H ds r)
    exact ⟨v, r, rfl, Dv.move h d v h1, DvL.move h ds r h2⟩
end
theorem DvL.len : ∀ {ds : List Dat} {vs : List V}, DvL K S H ds vs → vs.length = ds.length
  | [], _, e => by cases (e : _ = []); rfl
  | d :: ds, vs, e => by
    obtain ⟨v, r, rfl, _, h2⟩ := (e : ∃ v r, vs = v :: r ∧ Dv K S H d v ∧ DvL K S H ds r)
    simp [h2.len]
theorem DvL.get : ∀ {ds : List Dat} {vs : List V} {i : Nat} {d : Dat}, DvL K S H ds vs → ds[i]? = some d → ∃ v, vs[i]? = some v ∧ Dv K S H d v
  | [], _, _, _, _, h => by simp at h
  | d :: ds, vs, 0, d', e, h => by
    obtain ⟨v, r, rfl, h1, _⟩ := (e : ∃ v r, vs = v :: r ∧ Dv K S H d v ∧ DvL K S H ds r)
    simp at h; subst h
    exact ⟨v, rfl, h1⟩
  | d :: ds, vs, i + 1, d', e, h => by
    obtain ⟨v, r, rfl, _, h2⟩ := (e : ∃ v r, vs = v :: r ∧ Dv K S H d v ∧ DvL K S H ds r)
    simpa using DvL.get h2 (by simpa using h)
theorem DvL.append : ∀ {ds es : List Dat} {vs us : List V}, DvL K S H ds vs → DvL K S H es us → DvL K S H (ds ++ es) (vs ++ us)
  | [], _, _, _, e, h => by cases (e : _ = []); exact h
  | d :: ds, es, vs, us, e, h => by
    obtain ⟨v, r, rfl, h1, h2⟩ := (e : ∃ v r, vs = v :: r ∧ Dv K S H d v ∧ DvL K S H ds r)
    exact ⟨v, r ++ us, rfl, h1, h2.append h⟩
theorem DvL.take : ∀ {ds : List Dat} {vs : List V} (n : Nat), DvL K S H ds vs → DvL K S H (ds.take n) (vs.take n)
  | _, _, 0, _ => rfl
  | [], _, _ + 1, e => by cases (e : _ = []); rfl
  | d :: ds, vs, n + 1, e => by
    obtain ⟨v, r, rfl, h1, h2⟩ := (e : ∃ v r, vs = v :: r ∧ Dv K S H d v ∧ DvL K S H ds r)
    exact ⟨v, r.take n, rfl, h1, h2.take n⟩
theorem DvL.drop : ∀ {ds : List Dat} {vs : List V} (n : Nat), DvL K S H ds vs → DvL K S H (ds.drop n) (vs.drop n)
  | _, _, 0, h => h
  | [], _, _ + 1, e => by cases (e : _ = []); rfl
  | d :: ds, vs, n + 1, e => by
    obtain ⟨v, r, rfl, h1, h2⟩ := (e : ∃ v r, vs = v :: r ∧ Dv K S H d v ∧ DvL K S H ds r)
    exact h2.drop n
theorem DvL.strs : ∀ {zs : List Str} {vs : List V}, DvL K S H (zs.map Dat.str) vs → vs = zs.map V.str
  | [], _, e => e
  | z :: zs, vs, e => by
    obtain ⟨v, r, rfl, h1, h2⟩ := (e : ∃ v r, vs = v :: r ∧ Dv K S H (.str z) v ∧ DvL K S H (zs.map Dat.str) r)
    rw [h2.strs, (h1 : v = .str z)]; rfl
end

/-! ### what a slot stands for; where one stands -/
/-- a kind of slot by its own words: held as one's own (true) or not -/
structure SlotX where
  ok : Bool → PySem.W.Frag → (Addr → Prop) → Hp → Hp → V → Prop
  mv : ∀ {b : Bool} {K : PySem.W.Frag} {S S' : Addr → Prop} {H0 H0' H H' : Hp} {v : V}, ok b K S H0 H v → (∀ a o, ¬ S a → H a = some o → ¬ S' a ∧ H' a = some o) →
    (b = true → ∀ a, v = .ref a → (S a → S' a) ∧ (H0 a = none → H0' a = none) ∧ (∀ o, H a = some o → H' a = some o)) → ok b K S' H0' H' v
  ad : ∀ {K : PySem.W.Frag} {S : Addr → Prop} {H0 H : Hp} {v : V}, ok true K S H0 H v → ∃ a u, v = .ref a ∧ S a ∧ H a = some u ∧ H0 a = none ∧ ∀ φ, u ≠ .ext φ
  fz : ∀ {K : PySem.W.Frag} {S S' : Addr → Prop} {H0 H : Hp} {v : V}, ok true K S H0 H v → (∀ a o, ¬ S a → H a = some o → ¬ S' a ∧ H a = some o) → (∀ a, v = .ref a → ¬ S' a) → ok false K S' H0 H v
inductive Slot where
  | un | d (x : Dat) | raw (v : V) | own (xs : List Dat) | ownd (ks : List Key) (xs : List Dat) | ownt (ks : List (List Key)) (xs : List Dat) | ownp (p : Addr) (xs : List Dat) | scr (ns : List Int) | cus (b : Bool) (c : SlotX)
def Slot.isOwn : Slot → Bool
  | .own _ => true
  | .ownd _ _ => true
  | .ownt _ _ => true
  | .ownp _ _ => true
  | .cus b _ => b
  | _ => false
/-- a list of ints that is read alone: tracked or locked, or the module's -/
def ScrOk (K : PySem.W.Frag) (S : Addr → Prop) (H : Hp) (ns : List Int) (v : V) : Prop := ∃ a, v = .ref a ∧ ((¬ S a ∧ Rd H a (.lst (ns.map V.int))) ∨ WrL K a (ns.map V.int))
theorem ScrOk.move {K : PySem.W.Frag} {S S' : Addr → Prop} {H H' : Hp} {ns : List Int} {v : V} (q : ScrOk K S H ns v) (h : ∀ a o, ¬ S a → H a = some o → ¬ S' a ∧ H' a = some o) : ScrOk K S' H' ns v := by
  obtain ⟨a, rfl, ⟨n, e⟩ | e⟩ := q
  · refine ⟨a, rfl, .inl ?_⟩
    rcases e with e | ⟨o, e⟩
    · exact ⟨(h a _ n e).1, .inl (h a _ n e).2⟩
    · exact ⟨(h a _ n e).1, .inr ⟨o, (h a _ n e).2⟩⟩
  · exact ⟨a, rfl, .inr e⟩
theorem ScrOk.sq {K : PySem.W.Frag} {S : Addr → Prop} {H : Hp} {ns : List Int} {a : Addr} (q : ScrOk K S H ns (.ref a)) : SqL K H a (ns.map V.int) := by
  obtain ⟨b, e, ⟨n, h⟩ | h⟩ := q
  · cases e; exact .inl h
  · cases e; exact .inr h
def SlotOk (K : PySem.W.Frag) (S : Addr → Prop) (H0 H : Hp) : Option V → Slot → Prop
  | _, .un => True
  | some v, .d x => Dv K S H x v
  | some v, .raw w => v = w
  | some v, .scr ns => ScrOk K S H ns v
  | some v, .own ds => ∃ a xs, v = .ref a ∧ S a ∧ H0 a = none ∧ H a = some (.lst xs) ∧ DvL K S H ds xs
  | some v, .ownd ks ds => ∃ a kvs, v = .ref a ∧ S a ∧ H0 a = none ∧ H a = some (.dK kvs) ∧ kvs.map (·.1) = ks ∧ DvL K S H ds (kvs.map (·.2))
  | some v, .ownt ks ds => ∃ a kvs, v = .ref a ∧ S a ∧ H0 a = none ∧ H a = some (.dT kvs) ∧ kvs.map (·.1) = ks ∧ DvL K S H ds (kvs.map (·.2))
  | some v, .ownp pp ds => ∃ a xs, (v = .ref a ∧ a = pp) ∧ S a ∧ H0 a = none ∧ H a = some (.lst xs) ∧ DvL K S H ds xs
  | some v, .cus b c => c.ok b K S H0 H v
  | none, _ => False
abbrev Exc := Addr × List (Str × Dat)
/-- what is known by its own words stays -/
abbrev KeepX (H H' : Hp) : Prop := ∀ (a : Addr) (φ : Heap → Prop), H a = some (.ext φ) → H' a = some (.ext φ)
theorem keepX_upd {H : Hp} {p : Addr} {o : HO} (h : ∀ φ, H p ≠ some (.ext φ)) : KeepX H (upd H p o) := fun a φ e => by rw [upd_ne (fun z => h φ (by rw [← z]; exact e))]; exact e
structure Ctx where
  X : Cx
  H0 : Hp
  S0 : Addr → Prop
  W : Hp → Prop
  clo : ∀ H H', W H → (∀ a o o0, H0 a = some o0 → H a = some o → H' a = some o) → KeepX H H' → W H'
  top : ∀ H, W H → ∀ a o, H0 a = some o → ∃ o', H a = some o'
  s0 : ∀ a, S0 a → ∃ o, H0 a = some o
  E : XK
  EX : Exc → Prop
  elink : ∀ (C d : Addr) (fs : List (Str × V)) (ds : List (Str × Dat)) (H : Hp), EX (C, ds) → W H → H d = some (.xd fs) → fs.map (·.1) = ds.map (·.1) → DvL X.K S0 H (ds.map (·.2)) (fs.map (·.2)) → H0 d = none → E (.ref C) (some d) H
structure Gd (G : Ctx) (S : Addr → Prop) (σ : L2.St) (H : Hp) (ρ : List Slot) : Prop where
  wld : G.W H
  all : ∀ a, S a → ∃ o, H a = some o
  sub : ∀ a, G.S0 a → S a
  len : σ.length = ρ.length
  slots : ∀ (i : Nat) (s : Slot), ρ[i]? = some s → SlotOk G.X.K S G.H0 H (σ[i]?.join) s
  apart : ∀ (i j : Nat) (si sj : Slot) (v : V), ρ[i]? = some si → ρ[j]? = some sj → si.isOwn = true → sj.isOwn = true → σ[i]? = some (some v) → σ[j]? = some (some v) → i = j
structure Stp (G : Ctx) (H H' : Hp) : Prop where
  wld : G.W H'
  keep : ∀ a o, ¬ G.S0 a → H a = some o → H' a = some o
  has : ∀ a o, H a = some o → ∃ o', H' a = some o'
section
variable {G : Ctx} {S : Addr → Prop} {σ : L2.St} {H H' H2 : Hp} {ρ : List Slot}
theorem Stp.fr (st : Stp G H H') (g : Gd G S σ H ρ) : ∀ a o, ¬ S a → H a = some o → ¬ S a ∧ H' a = some o := fun a o n e => ⟨n, st.keep a o (fun z => n (g.sub a z)) e⟩
theorem Stp.refl (h : G.W H) : Stp G H H := ⟨h, fun _ _ _ e => e, fun _ o e => ⟨o, e⟩⟩
theorem Stp.trans (a : Stp G H H') (b : Stp G H' H2) : Stp G H H2 := ⟨b.wld, fun c o n e => b.keep c o n (a.keep c o n e), fun c o e => by
  obtain ⟨o', e'⟩ := a.has c o e
  exact b.has c o' e'⟩
theorem Stp.ex (h : G.W H) (e : Evl.Ex H H') : Stp G H H' := ⟨G.clo H H' h (fun a o _ _ q => e a o q) (fun a _ q => e a _ q), fun a o _ q => e a o q, fun a o q => ⟨o, e a o q⟩⟩
theorem Stp.new (h : G.W H) {p : Addr} {o : HO} (n : H p = none) : Stp G H (upd H p o) := Stp.ex h (Evl.Ex.new n)
theorem Gd.fresh0 (g : Gd G S σ H ρ) {p : Addr} (n : H p = none) : G.H0 p = none := by
  cases q : G.H0 p with
  | none => rfl
  | some o =>
    obtain ⟨o', e⟩ := G.top H g.wld p o q
    rw [n] at e; cases e
theorem Gd.fresh (g : Gd G S σ H ρ) {p : Addr} (n : H p = none) : ¬ S p := fun h => by
  obtain ⟨o, e⟩ := g.all p h
  rw [n] at e; cases e
theorem Stp.dv (st : Stp G H H') (g : Gd G S σ H ρ) {d : Dat} {v : V} (h : Dv G.X.K S H d v) : Dv G.X.K S H' d v := h.move fun a o n e => ⟨n, st.keep a o (fun z => n (g.sub a z)) e⟩
theorem Stp.dvl (st : Stp G H H') (g : Gd G S σ H ρ) {d : List Dat} {v : List V} (h : DvL G.X.K S H d v) : DvL G.X.K S H' d v := h.move fun a o n e => ⟨n, st.keep a o (fun z => n (g.sub a z)) e⟩
theorem Gd.step (g : Gd G S σ H ρ) (st : Stp G H H') : Gd G S σ H' ρ := by
  refine ⟨st.wld, fun a h => ?_, g.sub, g.len, fun i s hs => ?_, g.apart⟩
  · obtain ⟨o, e⟩ := g.all a h
    exact st.has a o e
  · have q := g.slots i s hs
    have ns : ∀ a, G.H0 a = none → ¬ G.S0 a := fun a n z => by
      obtain ⟨o, e⟩ := G.s0 a z
      rw [n] at e; cases e
    cases s with
    | un => exact trivial
    | d x =>
      cases e : σ[i]?.join with
      | none => rw [e] at q; exact q.elim
      | some v => rw [e] at q; exact st.dv g (show Dv G.X.K S H x v from q)
    | raw w =>
      cases e : σ[i]?.join with
      | none => rw [e] at q; exact q.elim
      | some v => rw [e] at q; exact q
    | scr ns =>
      cases e : σ[i]?.join with
      | none => rw [e] at q; exact q.elim
      | some v => rw [e] at q; exact ScrOk.move q fun a o n e => ⟨n, st.keep a o (fun z => n (g.sub a z)) e⟩
    | own ds =>
      cases e : σ[i]?.join with
      | none => rw [e] at q; exact q.elim
      | some v =>
        rw [e] at q
        obtain ⟨a, xs, e1, e2, e3, e4, e5⟩ := (q : ∃ a xs, v = .ref a ∧ S a ∧ G.H0 a = none ∧ H a = some (.lst xs) ∧ DvL G.X.K S H ds xs)
        exact ⟨a, xs, e1, e2, e3, st.keep a _ (ns a e3) e4, st.dvl g e5⟩
    | cus b c =>
      cases e : σ[i]?.join with
      | none => rw [e] at q; exact q.elim
      | some v =>
        rw [e] at q
        have q' : c.ok b G.X.K S G.H0 H v := q
        refine c.mv q' (fun a o n e => ⟨n, st.keep a o (fun z => n (g.sub a z)) e⟩) fun hb a hv => ⟨id, id, fun o eo => st.keep a o (ns a ?_) eo⟩
        subst hb
        obtain ⟨a', u, e1, _, _, e0, _⟩ := c.ad q'
        cases hv; cases e1
        exact e0
    | ownp pp ds =>
      cases e : σ[i]?.join with
      | none => rw [e] at q; exact q.elim
      | some v =>
        rw [e] at q
        obtain ⟨a, xs, ⟨e1, epp⟩, e2, e3, e4, e5⟩ := (q : ∃ a xs, (v = .ref a ∧ a = pp) ∧ S a ∧ G.H0 a = none ∧ H a = some (.lst xs) ∧ DvL G.X.K S H ds xs)
        exact ⟨a, xs, ⟨e1, epp⟩, e2, e3, st.keep a _ (ns a e3) e4, st.dvl g e5⟩
    | ownd ks ds =>
      cases e : σ[i]?.join with
      | none => rw [e] at q; exact q.elim
      | some v =>
        rw [e] at q
        obtain ⟨a, xs, e1, e2, e3, e4, e6, e5⟩ := (q : ∃ a kvs, v = .ref a ∧ S a ∧ G.H0 a = none ∧ H a = some (.dK kvs) ∧ kvs.map (·.1) = ks ∧ DvL G.X.K S H ds (kvs.map (·.2)))
        exact ⟨a, xs, e1, e2, e3, st.keep a _ (ns a e3) e4, e6, st.dvl g e5⟩
    | ownt ks ds =>
      cases e : σ[i]?.join with
      | none => rw [e] at q; exact q.elim
      | some v =>
        rw [e] at q
        obtain ⟨a, xs, e1, e2, e3, e4, e6, e5⟩ := (q : ∃ a kvs, v = .ref a ∧ S a ∧ G.H0 a = none ∧ H a = some (.dT kvs) ∧ kvs.map (·.1) = ks ∧ DvL G.X.K S H ds (kvs.map (·.2)))
        exact ⟨a, xs, e1, e2, e3, st.keep a _ (ns a e3) e4, e6, st.dvl g e5⟩
end

/-! ### the judgements -/
abbrev FE := List Slot → (Dat → Prop) → Prop
abbrev FT := List Slot → (Bool → Prop) → Prop
abbrev FA := List Slot → (List Dat → Prop) → Prop
structure DEnds where
  nx : List Slot → Prop
  rt : Dat → Prop
  bk : List Slot → Prop := fun _ => False
  ct : List Slot → Prop := fun _ => False
abbrev FS := DEnds → List Slot → Prop
def LiftE (G : Ctx) (t : TE) (F : FE) : Prop := ∀ S σ H ρ P (Q : VK), Gd G S σ H ρ → F ρ P → (∀ v d H', Stp G H H' → Dv G.X.K S H' d v → P d → Q v H') → t σ H Q
def LiftT (G : Ctx) (t : TT) (F : FT) : Prop := ∀ S σ H ρ P (Q : Bool → Hp → Prop), Gd G S σ H ρ → F ρ P → (∀ b H', Stp G H H' → P b → Q b H') → t σ H Q
def LiftA (G : Ctx) (t : TA) (F : FA) : Prop := ∀ S σ H ρ P (Q : List V → Hp → Prop), Gd G S σ H ρ → F ρ P → (∀ vs ds H', Stp G H H' → DvL G.X.K S H' ds vs → P ds → Q vs H') → t σ H Q
/-- what stood outside the scratch stands there still -/
def Fr (S : Addr → Prop) (H : Hp) (S' : Addr → Prop) (H' : Hp) : Prop := ∀ a o, ¬ S a → H a = some o → ¬ S' a ∧ H' a = some o
theorem Fr.refl (S : Addr → Prop) (H : Hp) : Fr S H S H := fun _ _ n e => ⟨n, e⟩
theorem Fr.trans {S S' S2 : Addr → Prop} {H H' H2 : Hp} (a : Fr S H S' H') (b : Fr S' H' S2 H2) : Fr S H S2 H2 := fun c o n e => b c o (a c o n e).1 (a c o n e).2
structure EndsOk (G : Ctx) (S : Addr → Prop) (H : Hp) (D : DEnds) (Dh : Ends) : Prop where
  nx : ∀ S' σ' H' ρ', Gd G S' σ' H' ρ' → Fr S H S' H' → D.nx ρ' → Dh.nx σ' H'
  rt : ∀ v d H', G.W H' → Dv G.X.K G.S0 H' d v → D.rt d → Dh.rt v H'
  bk : ∀ S' σ' H' ρ', Gd G S' σ' H' ρ' → Fr S H S' H' → D.bk ρ' → Dh.bk σ' H'
  ct : ∀ S' σ' H' ρ', Gd G S' σ' H' ρ' → Fr S H S' H' → D.ct ρ' → Dh.ct σ' H'
def LiftS (G : Ctx) (t : TS) (F : FS) : Prop := ∀ S σ H ρ D Dh, Gd G S σ H ρ → F D ρ → EndsOk G S H D Dh → t Dh σ H
structure DE (G : Ctx) (e : Expr) (F : FE) : Prop where
  ex : ∃ t, PE G.X e t ∧ LiftE G t F
structure DT (G : Ctx) (e : Expr) (F : FT) : Prop where
  ex : ∃ t, PT G.X e t ∧ LiftT G t F
structure DW (G : Ctx) (e : Expr) (F : FT) : Prop where
  ex : ∃ t, PW G.X e t ∧ LiftT G t F
structure DA (G : Ctx) (es : List Expr) (F : FA) : Prop where
  ex : ∃ t, PA G.X es t ∧ LiftA G t F
structure DS (G : Ctx) (st : Stmt) (F : FS) : Prop where
  ex : ∃ t, PS G.X st t ∧ LiftS G t F
structure DB (G : Ctx) (st : List Stmt) (F : FS) : Prop where
  ex : ∃ t, PSs G.X st t ∧ LiftS G t F
/-- reading a slot -/
def rd (ρ : List Slot) (i : Nat) (P : Dat → Prop) : Prop := match ρ[i]? with
  | some (.d x) => P x
  | _ => False
theorem rd_inv {ρ : List Slot} {i : Nat} {P : Dat → Prop} (h : rd ρ i P) : ∃ x, ρ[i]? = some (.d x) ∧ P x := by
  unfold rd at h
  split at h
  · rename_i x e; exact ⟨x, e, h⟩
  · exact h.elim
theorem Gd.slot_d {G : Ctx} {S : Addr → Prop} {σ : L2.St} {H : Hp} {ρ : List Slot} (g : Gd G S σ H ρ) {i : Nat} {x : Dat} (h : ρ[i]? = some (.d x)) : ∃ v, σ[i]? = some (some v) ∧ Dv G.X.K S H x v := by
  have q := g.slots i _ h
  cases e : σ[i]? with
  | none => rw [e] at q; exact q.elim
  | some o =>
    cases o with
    | none => rw [e] at q; exact q.elim
    | some v => rw [e] at q; exact ⟨v, rfl, q⟩
theorem Gd.slot_own {G : Ctx} {S : Addr → Prop} {σ : L2.St} {H : Hp} {ρ : List Slot} (g : Gd G S σ H ρ) {i : Nat} {ds : List Dat} (h : ρ[i]? = some (.own ds)) :
    ∃ a xs, σ[i]? = some (some (.ref a)) ∧ S a ∧ G.H0 a = none ∧ H a = some (.lst xs) ∧ DvL G.X.K S H ds xs := by
  have q := g.slots i _ h
  cases e : σ[i]? with
  | none => rw [e] at q; exact q.elim
  | some o =>
    cases o with
    | none => rw [e] at q; exact q.elim
    | some v =>
      rw [e] at q
      obtain ⟨a, xs, rfl, r⟩ := (q : ∃ a xs, v = .ref a ∧ S a ∧ G.H0 a = none ∧ H a = some (.lst xs) ∧ DvL G.X.K S H ds xs)
      exact ⟨a, xs, rfl, r⟩
section
variable {G : Ctx} {pos : Pos}
theorem de_var {x : Str} (i : Nat) (hN : G.X.N[i]? = some x := by rfl) (hv : Vis G.X.env.scope x := by first | exact Or.inl rfl | exact Or.inr (Or.inl rfl) | exact Or.inr (Or.inr rfl)) (hd : (x == ("__debug__" : Str)) = false := by decide)
    (hcd : (x == ("__classdict__" : Str)) = false := by decide) : DE G (.Name x pos) (fun ρ P => rd ρ i P) :=
  ⟨⟨_, pe_var hN hv hd hcd, fun S σ H ρ P Q g h q => by
    obtain ⟨x, e, hp⟩ := rd_inv h
    obtain ⟨v, e1, e2⟩ := g.slot_d e
    exact ⟨v, e1, q v x H (Stp.refl g.wld) e2 hp⟩⟩⟩
theorem de_int {i j} : DE G (.Constant (.int i) j pos) (fun _ P => P (.int i)) := ⟨⟨_, pe_int, fun _ _ H _ _ _ g h q => q _ (.int i) H (Stp.refl g.wld) rfl h⟩⟩
theorem de_str {i j} : DE G (.Constant (.str i) j pos) (fun _ P => P (.str i)) := ⟨⟨_, pe_str, fun _ _ H _ _ _ g h q => q _ (.str i) H (Stp.refl g.wld) rfl h⟩⟩
theorem de_bl {i j} : DE G (.Constant (.bool i) j pos) (fun _ P => P (.bl i)) := ⟨⟨_, pe_bl, fun _ _ H _ _ _ g h q => q _ (.bl i) H (Stp.refl g.wld) rfl h⟩⟩
theorem de_non {j} : DE G (.Constant .none j pos) (fun _ P => P .non) := ⟨⟨_, pe_non, fun _ _ H _ _ _ g h q => q _ .non H (Stp.refl g.wld) rfl h⟩⟩
/-- a module's constant -/
theorem de_glob {x : Str} {d : Dat} {v : V} {u : Value} (hg : Gl G.X x) (hm : G.X.mg x = some u) (r : RelV v u) (hv : ∀ S H, Dv G.X.K S H d v) (hd : (x == ("__debug__" : Str)) = false := by decide) : DE G (.Name x pos) (fun _ P => P d) :=
  ⟨⟨_, pe_glob hg hm r hd, fun _ _ H _ _ _ g h q => q _ _ H (Stp.refl g.wld) (hv _ _) h⟩⟩
theorem da_nil : DA G [] (fun _ P => P []) := ⟨⟨_, pa_nil, fun _ _ H _ _ _ g h q => q [] [] H (Stp.refl g.wld) rfl h⟩⟩
theorem da_cons {e : Expr} {es : List Expr} {F : FE} {Fs : FA} (ha : DE G e F) (hr : DA G es Fs) (hs : starEach (e :: es) G.X.env = (false, eval e G.X.env) :: starEach es G.X.env := by rfl) :
    DA G (e :: es) (fun ρ P => F ρ fun x => Fs ρ fun xs => P (x :: xs)) := by
  obtain ⟨t, h1, l1⟩ := ha.ex
  obtain ⟨u, h2, l2⟩ := hr.ex
  refine ⟨⟨_, pa_cons h1 h2 hs, fun S σ H ρ P Q g h q => ?_⟩⟩
  refine l1 S σ H ρ _ _ g h fun v d H1 st hv h' => ?_
  refine l2 S σ H1 ρ _ _ (g.step st) h' fun vs ds H2 st2 hvs hp => ?_
  exact q _ (d :: ds) H2 (st.trans st2) ⟨v, vs, rfl, st2.dv (g.step st) hv, hvs⟩ hp
theorem de_tup {es : List Expr} {Fs : FA} {k} (h : DA G es Fs) : DE G (.Tuple es k pos) (fun ρ P => Fs ρ fun xs => xs.length ≤ sizeLine ∧ P (.tup xs)) := by
  obtain ⟨t, h1, l1⟩ := h.ex
  refine ⟨⟨_, pe_tup h1, fun S σ H ρ P Q g h q => ?_⟩⟩
  refine l1 S σ H ρ _ _ g h fun vs ds H1 st hv ⟨hl, hp⟩ => ⟨by rw [hv.len]; exact hl, fun p np => ?_⟩
  have g1 := g.step st
  have st2 : Stp G H1 (upd H1 p (.tup vs)) := Stp.new g1.wld np
  exact q _ (.tup ds) _ (st.trans st2) ⟨p, vs, rfl, .inl ⟨g1.fresh np, upd_same⟩, st2.dvl g1 hv⟩ hp
theorem de_lst {es : List Expr} {Fs : FA} (h : DA G es Fs) : DE G (.List es pos) (fun ρ P => Fs ρ fun xs => xs.length ≤ sizeLine ∧ P (.lst xs)) := by
  obtain ⟨t, h1, l1⟩ := h.ex
  refine ⟨⟨_, pe_lst h1, fun S σ H ρ P Q g h q => ?_⟩⟩
  refine l1 S σ H ρ _ _ g h fun vs ds H1 st hv ⟨hl, hp⟩ => ⟨by rw [hv.len]; exact hl, fun p np => ?_⟩
  have g1 := g.step st
  have st2 : Stp G H1 (upd H1 p (.lst vs)) := Stp.new g1.wld np
  exact q _ (.lst ds) _ (st.trans st2) ⟨p, vs, rfl, g1.fresh np, upd_same, st2.dvl g1 hv⟩ hp

/-! ### two-place operations by what their values stand for -/
abbrev R2D := Dat → Dat → (Dat → Prop) → Prop
/-- r serves D -/
def Serves (G : Ctx) (r : R2) (D : R2D) : Prop := ∀ S σ ρ H x y dx dy P (Q : VK), Gd G S σ H ρ → Dv G.X.K S H dx x → Dv G.X.K S H dy y → D dx dy P → (∀ v d H', Stp G H H' → Dv G.X.K S H' d v → P d → Q v H') → r x y H Q
theorem lift_op {r : R2} {D : R2D} {ta tb : TE} {Fa Fb : FE} (hr : Serves G r D) (la : LiftE G ta Fa) (lb : LiftE G tb Fb) : LiftE G (tOp r ta tb) (fun ρ P => Fa ρ fun x => Fb ρ fun y => D x y P) := by
  intro S σ H ρ P Q g h q
  refine la S σ H ρ _ _ g h fun v d H1 st hv h' => ?_
  refine lb S σ H1 ρ _ _ (g.step st) h' fun v2 d2 H2 st2 hv2 hp => ?_
  exact hr S σ ρ H2 v v2 d d2 P Q ((g.step st).step st2) (st2.dv (g.step st) hv) hv2 hp fun v3 d3 H3 st3 => q v3 d3 H3 ((st.trans st2).trans st3)
theorem de_bin {op : Operator} {r : R2} {D : R2D} {a b : Expr} {Fa Fb : FE} (ho : OpR G.X (binaryOp op) r) (hr : Serves G r D) (ha : DE G a Fa) (hb : DE G b Fb) : DE G (.BinOp a op b pos) (fun ρ P => Fa ρ fun x => Fb ρ fun y => D x y P) := by
  obtain ⟨ta, h1, l1⟩ := ha.ex
  obtain ⟨tb, h2, l2⟩ := hb.ex
  exact ⟨⟨_, pe_op ho h1 h2, lift_op hr l1 l2⟩⟩
theorem de_cmp {op : CmpOp} {r : R2} {D : R2D} {a b : Expr} {Fa Fb : FE} (ho : OpR G.X (compareOp op) r) (hr : Serves G r D) (ha : DE G a Fa) (hb : DE G b Fb) (hm : behindInMarks op b = false := by first | exact nobehind _ (by decide) (by decide) | rfl) : DE G (.Compare a [op] [b] pos) (fun ρ P => Fa ρ fun x => Fb ρ fun y => D x y P) := by
  obtain ⟨ta, h1, l1⟩ := ha.ex
  obtain ⟨tb, h2, l2⟩ := hb.ex
  exact ⟨⟨_, pe_cmpR ho h1 h2 hm, lift_op hr l1 l2⟩⟩
/-- a value that is a bool, as a test -/
def isB (d : Dat) (P : Bool → Prop) : Prop := match d with
  | .bl b => P b
  | _ => False
theorem isB_inv {d : Dat} {P : Bool → Prop} (h : isB d P) : ∃ b, d = .bl b ∧ P b := by
  unfold isB at h
  split at h
  · exact ⟨_, rfl, h⟩
  · exact h.elim
theorem dt_val {e : Expr} {F : FE} (h : DE G e F) (he : ∀ whole, isTrue e G.X.env whole = (do let v ← whole; standAt e.pos; holding [v] (truthy v)) := by intro _; rfl) : DT G e (fun ρ P => F ρ fun x => isB x P) := by
  obtain ⟨t, h1, l1⟩ := h.ex
  refine ⟨⟨_, pt_val h1 he, fun S σ H ρ P Q g h q => ?_⟩⟩
  refine l1 S σ H ρ _ _ g h fun v d H1 st hv hp => ?_
  obtain ⟨b, rfl, hp⟩ := isB_inv hp
  exact ⟨b, hv, q b H1 st hp⟩
theorem dt_cmp {op : CmpOp} {r : R2} {D : R2D} {a b : Expr} {Fa Fb : FE} (ho : OpR G.X (compareOp op) r) (hr : Serves G r D) (ha : DE G a Fa) (hb : DE G b Fb) (hm : behindInMarks op b = false := by first | exact nobehind _ (by decide) (by decide) | rfl) : DT G (.Compare a [op] [b] pos) (fun ρ P => Fa ρ fun x => Fb ρ fun y => D x y fun z => isB z P) := by
  obtain ⟨ta, h1, l1⟩ := ha.ex
  obtain ⟨tb, h2, l2⟩ := hb.ex
  refine ⟨⟨_, pt_cmpR ho h1 h2 hm, fun S σ H ρ P Q g h q => ?_⟩⟩
  refine lift_op hr l1 l2 S σ H ρ _ _ g h fun v d H1 st hv hp => ?_
  obtain ⟨b, rfl, hp⟩ := isB_inv hp
  exact ⟨b, hv, q b H1 st hp⟩
/-! ### and, or, not, if -/
variable {a b c : Expr} {rest : List Expr}
theorem dw_and1 {F : FT} (ha : DT G a F) : DW G (.BoolOp .And [a] pos) F := by
  obtain ⟨t, h, l⟩ := ha.ex
  exact ⟨⟨_, pw_and1 h, l⟩⟩
theorem dw_or1 {F : FT} (ha : DT G a F) : DW G (.BoolOp .Or [a] pos) F := by
  obtain ⟨t, h, l⟩ := ha.ex
  exact ⟨⟨_, pw_or1 h, l⟩⟩
theorem dw_and {F F' : FT} (ha : DT G a F) (hb : DW G (.BoolOp .And (b :: rest) pos) F') : DW G (.BoolOp .And (a :: b :: rest) pos) (fun ρ P => F ρ fun c => if c = true then F' ρ P else P false) := by
  obtain ⟨t, h, l⟩ := ha.ex
  obtain ⟨u, h2, l2⟩ := hb.ex
  refine ⟨⟨_, pw_and h h2, fun S σ H ρ P Q g h q => ?_⟩⟩
  refine l S σ H ρ _ _ g h fun b H1 st hp => ?_
  cases b with
  | true => exact l2 S σ H1 ρ _ _ (g.step st) hp fun b H2 st2 => q b H2 (st.trans st2)
  | false => exact q false H1 st hp
theorem dw_or {F F' : FT} (ha : DT G a F) (hb : DW G (.BoolOp .Or (b :: rest) pos) F') : DW G (.BoolOp .Or (a :: b :: rest) pos) (fun ρ P => F ρ fun c => if c = true then P true else F' ρ P) := by
  obtain ⟨t, h, l⟩ := ha.ex
  obtain ⟨u, h2, l2⟩ := hb.ex
  refine ⟨⟨_, pw_or h h2, fun S σ H ρ P Q g h q => ?_⟩⟩
  refine l S σ H ρ _ _ g h fun b H1 st hp => ?_
  cases b with
  | false => exact l2 S σ H1 ρ _ _ (g.step st) hp fun b H2 st2 => q b H2 (st.trans st2)
  | true => exact q true H1 st hp
theorem dt_w {F : FT} {e : Expr} (h : DW G e F) : DT G e F := by
  obtain ⟨t, h, l⟩ := h.ex
  exact ⟨⟨_, h.pt, l⟩⟩
theorem dt_not {F : FT} (ha : DT G a F) : DT G (.UnaryOp .Not a pos) (fun ρ P => F ρ fun c => P (!c)) := by
  obtain ⟨t, h, l⟩ := ha.ex
  exact ⟨⟨_, pt_not h, fun S σ H ρ P Q g h q => l S σ H ρ _ _ g h fun b H1 st hp => q (!b) H1 st hp⟩⟩
theorem de_one {op} {F : FE} (ha : DE G a F) : DE G (.BoolOp op [a] pos) F := by
  obtain ⟨t, h, l⟩ := ha.ex
  exact ⟨⟨_, pe_one h, l⟩⟩
theorem de_and {F F' : FE} (ha : DE G a F) (hb : DE G (.BoolOp .And (b :: rest) pos) F') : DE G (.BoolOp .And (a :: b :: rest) pos) (fun ρ P => F ρ fun c => isB c fun c => if c = true then F' ρ P else P (.bl false)) := by
  obtain ⟨t, h, l⟩ := ha.ex
  obtain ⟨u, h2, l2⟩ := hb.ex
  refine ⟨⟨_, pe_and h h2, fun S σ H ρ P Q g h q => ?_⟩⟩
  refine l S σ H ρ _ _ g h fun v d H1 st hv hp => ?_
  obtain ⟨b, rfl, hp⟩ := isB_inv hp
  refine ⟨b, hv, ?_⟩
  cases b with
  | true => exact l2 S σ H1 ρ _ _ (g.step st) hp fun v d H2 st2 => q v d H2 (st.trans st2)
  | false => exact q _ (.bl false) H1 st rfl hp
theorem de_or {F F' : FE} (ha : DE G a F) (hb : DE G (.BoolOp .Or (b :: rest) pos) F') : DE G (.BoolOp .Or (a :: b :: rest) pos) (fun ρ P => F ρ fun c => isB c fun c => if c = true then P (.bl true) else F' ρ P) := by
  obtain ⟨t, h, l⟩ := ha.ex
  obtain ⟨u, h2, l2⟩ := hb.ex
  refine ⟨⟨_, pe_or h h2, fun S σ H ρ P Q g h q => ?_⟩⟩
  refine l S σ H ρ _ _ g h fun v d H1 st hv hp => ?_
  obtain ⟨b, rfl, hp⟩ := isB_inv hp
  refine ⟨b, hv, ?_⟩
  cases b with
  | false => exact l2 S σ H1 ρ _ _ (g.step st) hp fun v d H2 st2 => q v d H2 (st.trans st2)
  | true => exact q _ (.bl true) H1 st rfl hp
theorem de_not {F : FE} (ha : DE G a F) : DE G (.UnaryOp .Not a pos) (fun ρ P => F ρ fun c => isB c fun c => P (.bl (!c))) := by
  obtain ⟨t, h, l⟩ := ha.ex
  refine ⟨⟨_, pe_not h, fun S σ H ρ P Q g h q => ?_⟩⟩
  refine l S σ H ρ _ _ g h fun v d H1 st hv hp => ?_
  obtain ⟨b, rfl, hp⟩ := isB_inv hp
  exact ⟨b, hv, q _ (.bl (!b)) H1 st rfl hp⟩
theorem de_if {Fc : FT} {F F' : FE} (hc : DT G c Fc) (ha : DE G a F) (hb : DE G b F') : DE G (.IfExp c a b pos) (fun ρ P => Fc ρ fun c => if c = true then F ρ P else F' ρ P) := by
  obtain ⟨t0, h0, l0⟩ := hc.ex
  obtain ⟨t, h, l⟩ := ha.ex
  obtain ⟨u, h2, l2⟩ := hb.ex
  refine ⟨⟨_, pe_ifExp h0 h h2, fun S σ H ρ P Q g h q => ?_⟩⟩
  refine l0 S σ H ρ _ _ g h fun b H1 st hp => ?_
  cases b with
  | true => exact l S σ H1 ρ _ _ (g.step st) hp fun v d H2 st2 => q v d H2 (st.trans st2)
  | false => exact l2 S σ H1 ρ _ _ (g.step st) hp fun v d H2 st2 => q v d H2 (st.trans st2)
end
end DL
namespace DL
open PySem PySem.Spec PyProof.Rows L2
section
variable {G : Ctx} {S S' : Addr → Prop} {σ : L2.St} {H H' : Hp} {ρ : List Slot} {pos : Pos}
theorem getset {α : Type} (l : List α) (i j : Nat) (x : α) : (l.set i x)[j]? = if j = i then (if i < l.length then some x else none) else l[j]? := by
  rw [List.getElem?_set]
  by_cases h : i = j
  · subst h; simp
  · rw [if_neg h, if_neg (fun e => h e.symm)]
/-- other slots stay, whatever else comes to be scratch: what the old heap did not know -/
theorem SlotOk.move {K : PySem.W.Frag} {H0 : Hp} {o : Option V} {s : Slot} (q : SlotOk K S H0 H o s) (fr : Fr S H S' H') (sub : ∀ a, S a → S' a) (keep : ∀ a u, s.isOwn = true → o = some (.ref a) → H a = some u → H' a = some u) : SlotOk K S' H0 H' o s := by
  cases s with
  | un => exact trivial
  | d x =>
    cases o with
    | none => exact q.elim
    | some v => exact Dv.move fr x v q
  | raw w =>
    cases o with
    | none => exact q.elim
    | some v => exact q
  | scr ns =>
    cases o with
    | none => exact q.elim
    | some v => exact ScrOk.move q fr
  | own ds =>
    cases o with
    | none => exact q.elim
    | some v =>
      obtain ⟨a, xs, rfl, e2, e3, e4, e5⟩ := (q : ∃ a xs, v = .ref a ∧ S a ∧ H0 a = none ∧ H a = some (.lst xs) ∧ DvL K S H ds xs)
      exact ⟨a, xs, rfl, sub a e2, e3, keep a _ rfl rfl e4, DvL.move fr ds xs e5⟩
  | cus b c =>
    cases o with
    | none => exact q.elim
    | some v => exact c.mv (show c.ok b K S H0 H v from q) fr fun hb a hv => ⟨sub a, id, fun u eu => keep a u hb (by rw [hv]) eu⟩
  | ownp pp ds =>
    cases o with
    | none => exact q.elim
    | some v =>
      obtain ⟨a, xs, ⟨rfl, epp⟩, e2, e3, e4, e5⟩ := (q : ∃ a xs, (v = .ref a ∧ a = pp) ∧ S a ∧ H0 a = none ∧ H a = some (.lst xs) ∧ DvL K S H ds xs)
      exact ⟨a, xs, ⟨rfl, epp⟩, sub a e2, e3, keep a _ rfl rfl e4, DvL.move fr ds xs e5⟩
  | ownd ks ds =>
    cases o with
    | none => exact q.elim
    | some v =>
      obtain ⟨a, xs, rfl, e2, e3, e4, e6, e5⟩ := (q : ∃ a kvs, v = .ref a ∧ S a ∧ H0 a = none ∧ H a = some (.dK kvs) ∧ kvs.map (·.1) = ks ∧ DvL K S H ds (kvs.map (·.2)))
      exact ⟨a, xs, rfl, sub a e2, e3, keep a _ rfl rfl e4, e6, DvL.move fr ds _ e5⟩
  | ownt ks ds =>
    cases o with
    | none => exact q.elim
    | some v =>
      obtain ⟨a, xs, rfl, e2, e3, e4, e6, e5⟩ := (q : ∃ a kvs, v = .ref a ∧ S a ∧ H0 a = none ∧ H a = some (.dT kvs) ∧ kvs.map (·.1) = ks ∧ DvL K S H ds (kvs.map (·.2)))
      exact ⟨a, xs, rfl, sub a e2, e3, keep a _ rfl rfl e4, e6, DvL.move fr ds _ e5⟩
theorem Gd.set (g : Gd G S σ H ρ) {i : Nat} {d : Dat} {v : V} (h : Dv G.X.K S H d v) : Gd G S (σ.set i (some v)) H (ρ.set i (.d d)) := by
  refine ⟨g.wld, g.all, g.sub, by simp [g.len], fun j s hs => ?_, fun j k sj sk w h1 h2 o1 o2 e1 e2 => ?_⟩
  · rw [getset] at hs
    rw [getset]
    by_cases hj : j = i
    · subst hj
      rw [if_pos rfl] at hs ⊢
      have hl := g.len
      by_cases hi : j < ρ.length
      · rw [if_pos hi] at hs
        cases hs
        rw [if_pos (by omega)]
        exact h
      · rw [if_neg hi] at hs; cases hs
    · rw [if_neg hj] at hs ⊢
      exact g.slots j s hs
  · rw [getset] at h1 h2
    rw [getset] at e1 e2
    by_cases hj : j = i
    · rw [if_pos hj] at h1
      split at h1
      · cases h1; cases o1
      · cases h1
    · by_cases hk : k = i
      · rw [if_pos hk] at h2
        split at h2
        · cases h2; cases o2
        · cases h2
      · rw [if_neg hj] at h1 e1
        rw [if_neg hk] at h2 e2
        exact g.apart j k sj sk w h1 h2 o1 o2 e1 e2
/-- a slot forgotten -/
theorem Gd.wipe (g : Gd G S σ H ρ) {i : Nat} {o : Option V} : Gd G S (σ.set i o) H (ρ.set i .un) := by
  refine ⟨g.wld, g.all, g.sub, by simp [g.len], fun j s hs => ?_, fun j k sj sk w h1 h2 o1 o2 e1 e2 => ?_⟩
  · rw [getset] at hs
    rw [getset]
    by_cases hj : j = i
    · subst hj
      rw [if_pos rfl] at hs
      split at hs
      · cases hs; exact trivial
      · cases hs
    · rw [if_neg hj] at hs ⊢
      exact g.slots j s hs
  · rw [getset] at h1 h2
    rw [getset] at e1 e2
    by_cases hj : j = i
    · rw [if_pos hj] at h1
      split at h1
      · cases h1; cases o1
      · cases h1
    · by_cases hk : k = i
      · rw [if_pos hk] at h2
        split at h2
        · cases h2; cases o2
        · cases h2
      · rw [if_neg hj] at h1 e1
        rw [if_neg hk] at h2 e2
        exact g.apart j k sj sk w h1 h2 o1 o2 e1 e2
/-- the scratch grows by a new address -/
theorem Gd.grow (g : Gd G S σ H ρ) {p : Addr} {o : HO} (np : H p = none) : Gd G (fun a => S a ∨ a = p) σ (upd H p o) ρ ∧ Fr S H (fun a => S a ∨ a = p) (upd H p o) := by
  have fr : Fr S H (fun a => S a ∨ a = p) (upd H p o) := fun a u n e => ⟨fun z => z.elim n (ne_of_none e np), by rw [upd_ne (ne_of_none e np)]; exact e⟩
  have st : Stp G H (upd H p o) := Stp.new g.wld np
  refine ⟨⟨st.wld, fun a h => ?_, fun a h => .inl (g.sub a h), g.len, fun i s hs => (g.slots i s hs).move fr (fun a => .inl) fun a u _ _ e => by rw [upd_ne (ne_of_none e np)]; exact e, g.apart⟩, fr⟩
  rcases h with h | rfl
  · obtain ⟨u, e⟩ := g.all a h
    exact st.has a u e
  · exact ⟨o, upd_same⟩
theorem SlotOk.addr {K : PySem.W.Frag} {H0 : Hp} {o : Option V} {s : Slot} (q : SlotOk K S H0 H o s) (h : s.isOwn = true) : ∃ a u, o = some (.ref a) ∧ S a ∧ H a = some u ∧ H0 a = none := by
  cases s with
  | own ds =>
    cases o with
    | none => exact q.elim
    | some v =>
      obtain ⟨a, xs, rfl, e2, e3, e4, e5⟩ := (q : ∃ a xs, v = .ref a ∧ S a ∧ H0 a = none ∧ H a = some (.lst xs) ∧ DvL K S H ds xs)
      exact ⟨a, _, rfl, e2, e4, e3⟩
  | cus b c =>
    cases (h : b = true)
    cases o with
    | none => exact q.elim
    | some v =>
      obtain ⟨a, u, rfl, h1, h2, h3, _⟩ := c.ad (show c.ok true K S H0 H v from q)
      exact ⟨a, u, rfl, h1, h2, h3⟩
  | ownp pp ds =>
    cases o with
    | none => exact q.elim
    | some v =>
      obtain ⟨a, xs, ⟨rfl, epp⟩, e2, e3, e4, e5⟩ := (q : ∃ a xs, (v = .ref a ∧ a = pp) ∧ S a ∧ H0 a = none ∧ H a = some (.lst xs) ∧ DvL K S H ds xs)
      exact ⟨a, _, rfl, e2, e4, e3⟩
  | ownd ks ds =>
    cases o with
    | none => exact q.elim
    | some v =>
      obtain ⟨a, xs, rfl, e2, e3, e4, e6, e5⟩ := (q : ∃ a kvs, v = .ref a ∧ S a ∧ H0 a = none ∧ H a = some (.dK kvs) ∧ kvs.map (·.1) = ks ∧ DvL K S H ds (kvs.map (·.2)))
      exact ⟨a, _, rfl, e2, e4, e3⟩
  | ownt ks ds =>
    cases o with
    | none => exact q.elim
    | some v =>
      obtain ⟨a, xs, rfl, e2, e3, e4, e6, e5⟩ := (q : ∃ a kvs, v = .ref a ∧ S a ∧ H0 a = none ∧ H a = some (.dT kvs) ∧ kvs.map (·.1) = ks ∧ DvL K S H ds (kvs.map (·.2)))
      exact ⟨a, _, rfl, e2, e4, e3⟩
  | un => cases h
  | d _ => cases h
  | raw _ => cases h
  | scr _ => cases h
/-- a slot that owns a new object -/
theorem Gd.setOwn (g : Gd G S σ H ρ) {i : Nat} {s : Slot} {p : Addr} {o : HO} (np : H p = none) (hs : s.isOwn = true) (h : SlotOk G.X.K (fun a => S a ∨ a = p) G.H0 (upd H p o) (some (.ref p)) s) :
    Gd G (fun a => S a ∨ a = p) (σ.set i (some (.ref p))) (upd H p o) (ρ.set i s) := by
  obtain ⟨g1, fr⟩ := g.grow (o := o) np
  have other : ∀ (j : Nat) sj, ρ[j]? = some sj → sj.isOwn = true → σ[j]? = some (some (.ref p)) → False := fun j sj hj oj e => by
    have q := g.slots j sj hj
    rw [e] at q
    obtain ⟨a, u, e1, _, e2, _⟩ := SlotOk.addr q oj
    cases e1
    rw [np] at e2; cases e2
  refine ⟨g1.wld, g1.all, g1.sub, by simp [g.len], fun j t ht => ?_, fun j k sj sk w h1 h2 o1 o2 e1 e2 => ?_⟩
  · rw [getset] at ht
    rw [getset]
    by_cases hj : j = i
    · subst hj
      rw [if_pos rfl] at ht ⊢
      have hl := g.len
      by_cases hi : j < ρ.length
      · rw [if_pos hi] at ht
        cases ht
        rw [if_pos (by omega)]
        exact h
      · rw [if_neg hi] at ht; cases ht
    · rw [if_neg hj] at ht ⊢
      exact g1.slots j t ht
  · rw [getset] at h1 h2
    rw [getset] at e1 e2
    by_cases hj : j = i
    · by_cases hk : k = i
      · omega
      · rw [if_pos hj] at e1
        split at e1
        · cases e1
          rw [if_neg hk] at h2 e2
          exact (other k sk h2 o2 e2).elim
        · cases e1
    · by_cases hk : k = i
      · rw [if_pos hk] at e2
        split at e2
        · cases e2
          rw [if_neg hj] at h1 e1
          exact (other j sj h1 o1 e1).elim
        · cases e2
      · rw [if_neg hj] at h1 e1
        rw [if_neg hk] at h2 e2
        exact g.apart j k sj sk w h1 h2 o1 o2 e1 e2
theorem SlotOk.noext {K : PySem.W.Frag} {S : Addr → Prop} {H0 H : Hp} {p : Addr} {s : Slot} (q : SlotOk K S H0 H (some (.ref p)) s) (h : s.isOwn = true) (φ : Heap → Prop) : H p ≠ some (.ext φ) := fun z => by
  cases s with
  | own ds =>
    obtain ⟨a, xs, e1, _, _, e4, _⟩ := (q : ∃ a xs, V.ref p = .ref a ∧ S a ∧ H0 a = none ∧ H a = some (.lst xs) ∧ DvL K S H ds xs)
    cases e1
    rw [z] at e4; cases e4
  | ownp pp ds =>
    obtain ⟨a, xs, ⟨e1, epp⟩, _, _, e4, _⟩ := (q : ∃ a xs, (V.ref p = .ref a ∧ a = pp) ∧ S a ∧ H0 a = none ∧ H a = some (.lst xs) ∧ DvL K S H ds xs)
    cases e1
    rw [z] at e4; cases e4
  | ownd ks ds =>
    obtain ⟨a, xs, e1, _, _, e4, _⟩ := (q : ∃ a kvs, V.ref p = .ref a ∧ S a ∧ H0 a = none ∧ H a = some (.dK kvs) ∧ kvs.map (·.1) = ks ∧ DvL K S H ds (kvs.map (·.2)))
    cases e1
    rw [z] at e4; cases e4
  | ownt ks ds =>
    obtain ⟨a, xs, e1, _, _, e4, _⟩ := (q : ∃ a kvs, V.ref p = .ref a ∧ S a ∧ H0 a = none ∧ H a = some (.dT kvs) ∧ kvs.map (·.1) = ks ∧ DvL K S H ds (kvs.map (·.2)))
    cases e1
    rw [z] at e4; cases e4
  | cus b c =>
    cases (h : b = true)
    obtain ⟨a, u, e1, _, h2, _, h4⟩ := c.ad (show c.ok true K S H0 H (.ref p) from q)
    cases e1
    rw [h2] at z; exact h4 φ (Option.some.inj z)
  | _ => cases h
/-- an owned object is changed -/
theorem Gd.write (g : Gd G S σ H ρ) {i : Nat} {s s' : Slot} {p : Addr} {o : HO} (hs : ρ[i]? = some s) (hp : σ[i]? = some (some (.ref p))) (ho : s.isOwn = true) (ho' : s'.isOwn = true) (h : SlotOk G.X.K S G.H0 (upd H p o) (some (.ref p)) s') :
    Gd G S σ (upd H p o) (ρ.set i s') ∧ Fr S H S (upd H p o) := by
  have q := g.slots i s hs
  rw [hp] at q
  obtain ⟨a, u, e1, sa, ea, e0⟩ := SlotOk.addr q ho
  cases e1
  have fr : Fr S H S (upd H p o) := fun b u n e => ⟨n, by rw [upd_ne (fun z => n (by rw [z]; exact sa))]; exact e⟩
  have ilt : i < ρ.length := (List.getElem?_eq_some_iff.mp hs).1
  refine ⟨⟨G.clo H _ g.wld (fun b u u0 e e' => ?_) (keepX_upd (SlotOk.noext q ho)), fun b hb => ?_, g.sub, by simp [g.len], fun j t ht => ?_, fun j k sj sk w h1 h2 o1 o2 e1 e2 => ?_⟩, fr⟩
  · rw [upd_ne (fun z => by rw [z, e0] at e; cases e)]; exact e'
  · by_cases hbp : b = p
    · exact ⟨o, by rw [hbp]; exact upd_same⟩
    · obtain ⟨u, e⟩ := g.all b hb
      exact ⟨u, by rw [upd_ne hbp]; exact e⟩
  · rw [getset] at ht
    by_cases hj : j = i
    · subst hj
      rw [if_pos rfl, if_pos ilt] at ht
      cases ht
      rw [hp]
      exact h
    · rw [if_neg hj] at ht
      refine (g.slots j t ht).move fr (fun _ z => z) fun b v ob eb e => ?_
      have hne : b ≠ p := fun z => by
        subst z
        have eb' : σ[j]? = some (some (.ref b)) := by
          cases ee : σ[j]? with
          | none => rw [ee] at eb; cases eb
          | some o => rw [ee] at eb; cases eb; rfl
        exact hj (g.apart j i t s _ ht hs ob ho eb' hp)
      rw [upd_ne hne]; exact e
  · rw [getset] at h1 h2
    have back : ∀ (j : Nat) (sj : Slot), (if j = i then if i < ρ.length then some s' else none else ρ[j]?) = some sj → sj.isOwn = true → ∃ t, ρ[j]? = some t ∧ t.isOwn = true := fun j sj e oj => by
      by_cases hj : j = i
      · subst hj; exact ⟨s, hs, ho⟩
      · rw [if_neg hj] at e; exact ⟨sj, e, oj⟩
    obtain ⟨tj, b1, b2⟩ := back j sj h1 o1
    obtain ⟨tk, c1, c2⟩ := back k sk h2 o2
    exact g.apart j k tj tk w b1 c1 b2 c2 e1 e2
/-- all that is owned becomes plain data -/
def Slot.freeze : Slot → Slot
  | .own ds => .d (.lst ds)
  | .ownd ks ds => .d (.dic ks ds)
  | .ownt _ _ => .un
  | .ownp _ _ => .un
  | .cus _ c => .cus false c
  | s => s
theorem Gd.freeze (g : Gd G S σ H ρ) : Gd G G.S0 σ H (ρ.map Slot.freeze) ∧ Fr S H G.S0 H := by
  have fr : Fr S H G.S0 H := fun a o n e => ⟨fun z => n (g.sub a z), e⟩
  have n0 : ∀ a, G.H0 a = none → ¬ G.S0 a := fun a n z => by
    obtain ⟨o, e⟩ := G.s0 a z
    rw [n] at e; cases e
  refine ⟨⟨g.wld, fun a h => g.all a (g.sub a h), fun _ h => h, by simp [g.len], fun i s hs => ?_, fun i j si sj v h1 h2 o1 o2 e1 e2 => ?_⟩, fr⟩
  · rw [List.getElem?_map] at hs
    cases e : ρ[i]? with
    | none => rw [e] at hs; cases hs
    | some t =>
      rw [e] at hs
      cases hs
      have q := g.slots i t e
      cases t with
      | un => exact trivial
      | d x =>
        cases o : σ[i]?.join with
        | none => rw [o] at q; exact q.elim
        | some v => rw [o] at q; exact Dv.move fr x v q
      | raw w =>
        cases o : σ[i]?.join with
        | none => rw [o] at q; exact q.elim
        | some v => rw [o] at q; exact q
      | scr ns =>
        cases o : σ[i]?.join with
        | none => rw [o] at q; exact q.elim
        | some v => rw [o] at q; exact ScrOk.move q fr
      | own ds =>
        cases o : σ[i]?.join with
        | none => rw [o] at q; exact q.elim
        | some v =>
          rw [o] at q
          obtain ⟨a, xs, rfl, e2, e3, e4, e5⟩ := (q : ∃ a xs, v = .ref a ∧ S a ∧ G.H0 a = none ∧ H a = some (.lst xs) ∧ DvL G.X.K S H ds xs)
          exact ⟨a, xs, rfl, n0 a e3, e4, DvL.move fr ds xs e5⟩
      | ownp pp ds => exact trivial
      | cus b c =>
        cases o : σ[i]?.join with
        | none => rw [o] at q; exact q.elim
        | some v =>
          rw [o] at q
          have q' : c.ok b G.X.K S G.H0 H v := q
          cases b with
          | false => exact c.mv q' fr fun z => nomatch z
          | true =>
            refine c.fz q' fr fun a hv => ?_
            obtain ⟨a', u, e1, _, _, e0, _⟩ := c.ad q'
            cases hv; cases e1
            exact n0 _ e0
      | ownd ks ds =>
        cases o : σ[i]?.join with
        | none => rw [o] at q; exact q.elim
        | some v =>
          rw [o] at q
          obtain ⟨a, xs, rfl, e2, e3, e4, e6, e5⟩ := (q : ∃ a kvs, v = .ref a ∧ S a ∧ G.H0 a = none ∧ H a = some (.dK kvs) ∧ kvs.map (·.1) = ks ∧ DvL G.X.K S H ds (kvs.map (·.2)))
          exact ⟨a, xs, rfl, n0 a e3, e4, e6, DvL.move fr ds _ e5⟩
      | ownt ks ds => exact trivial
  · rw [List.getElem?_map] at h1
    cases e : ρ[i]? with
    | none => rw [e] at h1; cases h1
    | some t =>
      rw [e] at h1
      cases h1
      cases t <;> cases o1

/-! ### statements -/
variable {e : Expr} {st : Stmt} {rest : List Stmt}
theorem EndsOk.from {D : DEnds} {Dh : Ends} (q : EndsOk G S H D Dh) (fr : Fr S H S' H') : EndsOk G S' H' D Dh :=
  ⟨fun S2 σ2 H2 ρ2 g f => q.nx S2 σ2 H2 ρ2 g (fr.trans f), q.rt, fun S2 σ2 H2 ρ2 g f => q.bk S2 σ2 H2 ρ2 g (fr.trans f), fun S2 σ2 H2 ρ2 g f => q.ct S2 σ2 H2 ρ2 g (fr.trans f)⟩
theorem ds_set {x : Str} {pos' : Pos} {F : FE} (i : Nat) (he : DE G e F) (hN : G.X.N.Nodup) (hi : G.X.N[i]? = some x := by rfl) (hx : Loc G.X.env.scope x := by first | exact Or.inl rfl | exact Or.inr rfl) (hs : swapsWith e (some (.Name x pos')) pos.line G.X.env = pure false := by rfl)
    (hf : G.X.fn x = true ∨ G.X.env.scope.names.lookup x = some .local := by first | exact .inl rfl | exact .inr rfl) : DS G (.Assign [.Name x pos'] e pos) (fun D ρ => F ρ fun d => D.nx (ρ.set i (.d d))) := by
  obtain ⟨t, h, l⟩ := he.ex
  refine ⟨⟨_, ps_set (i := i) hN hi hx h hs hf, fun S σ H ρ D Dh g h q => ?_⟩⟩
  exact l S σ H ρ _ _ g h fun v d H1 st hv hp => q.nx S _ H1 _ ((g.step st).set hv) (st.fr g) hp
theorem ds_ret {F : FE} (he : DE G e F) : DS G (.Return (some e) pos) (fun D ρ => F ρ D.rt) := by
  obtain ⟨t, h, l⟩ := he.ex
  refine ⟨⟨_, ps_ret h, fun S σ H ρ D Dh g h q => ?_⟩⟩
  exact l S σ H ρ _ _ g h fun v d H1 st hv hp => q.rt v d H1 st.wld (hv.move fun a o n e => ⟨fun z => n (g.sub a z), e⟩) hp
theorem ds_freeze {F : FS} (h : DS G st F) : DS G st (fun D ρ => F D (ρ.map Slot.freeze)) := by
  obtain ⟨t, h, l⟩ := h.ex
  refine ⟨⟨t, h, fun S σ H ρ D Dh g h q => ?_⟩⟩
  obtain ⟨g1, fr⟩ := g.freeze
  exact l G.S0 σ H _ D Dh g1 h (q.from fr)
theorem db_nil : DB G [] (fun D ρ => D.nx ρ) := ⟨⟨_, pss_nil, fun S σ H ρ D Dh g h q => q.nx S σ H ρ g (Fr.refl S H) h⟩⟩
theorem db_one {F : FS} (h : DS G st F) : DB G [st] F := by
  obtain ⟨t, h, l⟩ := h.ex
  exact ⟨⟨t, pss_one h, l⟩⟩
theorem db_cons {F F' : FS} (h : DS G st F) (hr : DB G rest F') : DB G (st :: rest) (fun D ρ => F { D with nx := F' D } ρ) := by
  obtain ⟨t, h, l⟩ := h.ex
  obtain ⟨u, h2, l2⟩ := hr.ex
  refine ⟨⟨_, pss_cons h h2, fun S σ H ρ D Dh g h q => ?_⟩⟩
  exact l S σ H ρ _ _ g h ⟨fun S' σ' H' ρ' g' fr hp => l2 S' σ' H' ρ' D Dh g' hp (q.from fr), q.rt, q.bk, q.ct⟩
theorem ds_if {c : Expr} {a b : List Stmt} {Fc : FT} {F F' : FS} (hc : DT G c Fc) (ha : DB G a F) (hb : DB G b F') : DS G (.If c a b pos) (fun D ρ => Fc ρ fun c => if c = true then F D ρ else F' D ρ) := by
  obtain ⟨t0, h0, l0⟩ := hc.ex
  obtain ⟨t, h, l⟩ := ha.ex
  obtain ⟨u, h2, l2⟩ := hb.ex
  refine ⟨⟨_, ps_if h0 h h2, fun S σ H ρ D Dh g h q => ?_⟩⟩
  refine l0 S σ H ρ _ _ g h fun b H1 st hp => ?_
  cases b with
  | true => exact l S σ H1 ρ D Dh (g.step st) hp (q.from (st.fr g))
  | false => exact l2 S σ H1 ρ D Dh (g.step st) hp (q.from (st.fr g))
end
end DL
namespace DL
open PySem PySem.Spec PyProof.Rows L2
/-- what a def promises, by what its arguments stand for: the arguments, what is wanted of its answer, of what it raises -/
structure Con where
  C : List Dat → (Dat → Prop) → (Exc → Prop) → Prop
  mono : ∀ ds P P' X X', C ds P X → (∀ d, P d → P' d) → (∀ x, X x → X' x) → C ds P' X'
def spD (K : PySem.W.Frag) (C : Con) : Sp := fun vs H Q E => ∃ (S : Addr → Prop) (ds : List Dat), (∀ a, S a → ∃ o, H a = some o) ∧ DvL K S H ds vs ∧
  C.C ds (fun d => ∀ v H', Evl.Ex H H' → Dv K S H' d v → Q v H')
    (fun x => ∀ fs d H', Evl.Ex H H' → H d = none → H' d = some (.xd fs) → fs.map (·.1) = x.2.map (·.1) → DvL K S H' (x.2.map (·.2)) (fs.map (·.2)) → E (.ref x.1) (some d) H')
/-- a promise of a value, under a condition -/
def Con.fn (pre : List Dat → Prop) (f : List Dat → Dat) : Con := ⟨fun ds P _ => pre ds ∧ P (f ds), fun _ _ _ _ _ h m _ => ⟨h.1, m _ h.2⟩⟩
section
variable {G : Ctx} {S : Addr → Prop} {σ : L2.St} {H H' : Hp} {ρ : List Slot} {pos : Pos}
theorem spD_use {C : Con} {vs : List V} {ds : List Dat} {P : Dat → Prop} {Q : VK} {E : XK} (g : Gd G S σ H ρ) (hv : DvL G.X.K S H ds vs) (h : C.C ds P (fun _ => False)) (q : ∀ v d H', Stp G H H' → Dv G.X.K S H' d v → P d → Q v H') : spD G.X.K C vs H Q E :=
  ⟨S, ds, g.all, hv, C.mono ds _ _ _ _ h (fun d hp v H' e hd => q v d H' (Stp.ex g.wld e) hd hp) fun _ z => z.elim⟩
/-- a call of a def that raises nothing -/
theorem de_call {C : Con} {k : Nat} {f : Addr} {fd : FuncData} {ps : List Str} {x : Str} {p : Pos} {e : Expr} {es : List Expr} {Fs : FA} (F : FnOk G.X.prog G.X.w G.X.K G.X.mg G.X.base CX0 k f fd ps (spD G.X.K C)) (hr : Room k G.X.A) (hg : Gl G.X x) (hm : G.X.mg x = some (.ref f))
    (hk : PySem.W.keepIn G.X.K (.ref f) = true) (hb : Binds G.X.K fd ps []) (ha : DA G (e :: es) Fs) (hdb : (x == ("__debug__" : Str)) = false := by decide) (he : starEach (e :: es) G.X.env = (false, eval e G.X.env) :: starEach es G.X.env := by rfl) (hpl : (backTo pos (starEach es G.X.env)).any (·.1) = false := by rfl) :
    DE G (.Call (.Name x p) (e :: es) [] pos) (fun ρ P => Fs ρ fun ds => C.C ds P (fun _ => False)) := by
  obtain ⟨t, h, l⟩ := ha.ex
  refine ⟨⟨_, pe_call F hr hg hm hk hb .nil pass0 h hdb he hpl, fun S σ H ρ P Q g h q => ?_⟩⟩
  refine l S σ H ρ _ _ g h fun vs ds H1 st hv hp => ?_
  rw [List.append_nil]
  exact spD_use (g.step st) hv hp fun v d H2 st2 => q v d H2 (st.trans st2)
/-- the slots at a def's entry -/
def start (n : Nat) (ds : List Dat) : List Slot := ds.map Slot.d ++ List.replicate (n - ds.length) Slot.un
theorem gd_start {G : Ctx} {N : List Str} {vs : List V} {ds : List Dat} (hw : G.W H) (ha : ∀ a, G.S0 a → ∃ o, H a = some o) (hv : DvL G.X.K G.S0 H ds vs) (hl : ds.length ≤ N.length) : Gd G G.S0 (L2.start N vs) H (start N.length ds) := by
  have hvl := hv.len
  refine ⟨hw, ha, fun _ h => h, by unfold L2.start start; simp [hvl], fun i s hs => ?_, fun i j si sj v h1 h2 o1 o2 _ _ => ?_⟩
  · unfold start at hs
    unfold L2.start
    by_cases hi : i < ds.length
    · rw [List.getElem?_append_left (by simpa using hi), List.getElem?_map] at hs
      cases e : ds[i]? with
      | none => rw [e] at hs; cases hs
      | some d =>
        rw [e] at hs
        cases hs
        obtain ⟨v, e1, e2⟩ := hv.get e
        rw [List.getElem?_append_left (by rw [List.length_map]; omega), List.getElem?_map, e1]
        exact e2
    · rw [List.getElem?_append_right (by simpa using hi), List.getElem?_replicate] at hs
      split at hs
      · cases hs; exact trivial
      · cases hs
  · unfold start at h1
    by_cases hi : i < ds.length
    · rw [List.getElem?_append_left (by simpa using hi), List.getElem?_map] at h1
      cases e : ds[i]? with
      | none => rw [e] at h1; cases h1
      | some d => rw [e] at h1; cases h1; cases o1
    · rw [List.getElem?_append_right (by simpa using hi), List.getElem?_replicate] at h1
      split at h1
      · cases h1; cases o1
      · cases h1
/-- the context of a pure def's body that raises nothing -/
abbrev ctx0 (P : Program) (w : World) (K : PySem.W.Frag) (mg : Str → Option Value) (base : Heap) (N : List Str) (qual : Str) (sc : Scope) (f : Addr) (cdv : Value) (A : Around) (outer : List Env) (s : Shared) (H : Hp) (S : Addr → Prop) (hS : ∀ a, S a → ∃ o, H a = some o) : Ctx where
  X := (cxOf CX0 P w K mg base N qual sc f cdv A outer s H E0).nox
  H0 := H
  S0 := S
  W := Evl.Ex H
  clo := fun H1 H2 h k _ a o e => k a o o e (h a o e)
  top := fun H1 h a o e => ⟨o, h a o e⟩
  s0 := hS
  E := E0
  EX := fun _ => False
  elink := fun _ _ _ _ _ z => z.elim
/-- THE RULE for a pure def that raises nothing -/
theorem fn_pure {P : Program} {w : World} {K : PySem.W.Frag} {mg : Str → Option Value} {base : Heap} {x qual : Str} {st : Stmt} {f : Addr} {fd : FuncData} {N ps : List Str} {k : Nat} {C : Con} (F : Fun K x qual st f fd) (Sc : FnScope N ps (defScope st)) (len : ∀ ds P X, C.C ds P X → ds.length = ps.length)
    (hbody : ∀ (cdv : Value) (A : Around) (outer : List Env) (s : Shared) (H : Hp) (S : Addr → Prop) (hS : ∀ a, S a → ∃ o, H a = some o), Room k (A.deeper (envOfC qual (defScope st) s.heap.objs.size f cdv)) →
      ∃ T, DB (ctx0 P w K mg base N qual (defScope st) f cdv A outer s H S hS) (defBody st) T ∧ ∀ ds R X, C.C ds R X → T { nx := fun _ => R .non, rt := R } (start N.length ds)) : FnOk P w K mg base CX0 (k + 1) f fd ps (spD K C) := by
  have hpl : ps.length ≤ N.length := by have := congrArg List.length Sc.pre; rw [List.length_take] at this; omega
  refine F.ok Sc (fun vs H Q E ⟨S, ds, _, hv, hc⟩ => by rw [hv.len]; exact len _ _ _ hc) fun cdv A outer s H vs Q E hr h => ?_
  obtain ⟨S, ds, hS, hv, hc⟩ := h
  obtain ⟨T, ⟨t, hp, l⟩, hT⟩ := hbody cdv A outer s H S hS hr
  refine ⟨t, ?_, ?_⟩
  · exact hp
  · refine l S _ H (start N.length ds) _ _ (gd_start (G := ctx0 P w K mg base N qual (defScope st) f cdv A outer s H S hS) (fun _ _ e => e) hS hv (by rw [len _ _ _ hc]; exact hpl)) (hT ds _ _ hc) ?_
    exact ⟨fun S' σ' H' ρ' g fr q => q .non H' g.wld rfl, fun v d H' hw hv q => q v H' hw hv, fun _ _ _ _ _ _ z => z.elim, fun _ _ _ _ _ _ z => z.elim⟩
end
end DL
namespace DL
open PySem PySem.Spec PyProof.Rows L2
section
variable {G : Ctx} {S S' : Addr → Prop} {σ : L2.St} {H H' : Hp} {ρ : List Slot} {pos : Pos}
/-! ### the shapes behind what values stand for -/
theorem dv_int {K : PySem.W.Frag} {i : Int} {v : V} (h : Dv K S H (.int i) v) : v = .int i := h
theorem dv_str {K : PySem.W.Frag} {i : Str} {v : V} (h : Dv K S H (.str i) v) : v = .str i := h
theorem dv_tup {K : PySem.W.Frag} {ds : List Dat} {v : V} (h : Dv K S H (.tup ds) v) : ∃ a xs, v = .ref a ∧ ((¬ S a ∧ H a = some (.tup xs)) ∨ WrT K a xs) ∧ DvL K S H ds xs := h
theorem dv_lst {K : PySem.W.Frag} {ds : List Dat} {v : V} (h : Dv K S H (.lst ds) v) : ∃ a xs, v = .ref a ∧ ¬ S a ∧ H a = some (.lst xs) ∧ DvL K S H ds xs := h
theorem dv_anl {K : PySem.W.Frag} {v : V} (h : Dv K S H .anl v) : ∃ a xs, v = .ref a ∧ ¬ S a ∧ H a = some (.lst xs) := h
theorem dv_dic {K : PySem.W.Frag} {ks : List Key} {ds : List Dat} {v : V} (h : Dv K S H (.dic ks ds) v) : ∃ a kvs, v = .ref a ∧ ¬ S a ∧ H a = some (.dK kvs) ∧ kvs.map (·.1) = ks ∧ DvL K S H ds (kvs.map (·.2)) := h
theorem dv_adc {K : PySem.W.Frag} {v : V} (h : Dv K S H .adc v) : ∃ a kvs, v = .ref a ∧ ¬ S a ∧ H a = some (.dK kvs) := h
/-- a new tuple, a new list -/
theorem new_tup {xs : List V} {ds : List Dat} {P : Dat → Prop} {Q : VK} (g : Gd G S σ H ρ) (hv : DvL G.X.K S H ds xs) (hp : P (.tup ds)) (q : ∀ v d H', Stp G H H' → Dv G.X.K S H' d v → P d → Q v H') : ∀ p, H p = none → Q (.ref p) (upd H p (.tup xs)) := fun p np => by
  have st : Stp G H (upd H p (.tup xs)) := Stp.new g.wld np
  exact q _ (.tup ds) _ st ⟨p, xs, rfl, .inl ⟨g.fresh np, upd_same⟩, st.dvl g hv⟩ hp
theorem new_lst {xs : List V} {ds : List Dat} {P : Dat → Prop} {Q : VK} (g : Gd G S σ H ρ) (hv : DvL G.X.K S H ds xs) (hp : P (.lst ds)) (q : ∀ v d H', Stp G H H' → Dv G.X.K S H' d v → P d → Q v H') : ∀ p, H p = none → Q (.ref p) (upd H p (.lst xs)) := fun p np => by
  have st : Stp G H (upd H p (.lst xs)) := Stp.new g.wld np
  exact q _ (.lst ds) _ st ⟨p, xs, rfl, g.fresh np, upd_same, st.dvl g hv⟩ hp

/-! ### + -/
def addD : R2D
  | .int i, .int j, P => P (.int (i + j))
  | .str x, .str y, P => x.length + y.length ≤ sizeLine ∧ P (.str (x ++ y))
  | .lst xs, .lst ys, P => xs.length + ys.length ≤ sizeLine ∧ P (.lst (xs ++ ys))
  | .tup xs, .tup ys, P => xs.length + ys.length ≤ sizeLine ∧ P (.tup (xs ++ ys))
  | _, _, _ => False
theorem serves_add : Serves G (fun x y H Q => (rI0 (fun i j => V.int (i + j)) x y H Q ∨ (∃ i j, x = .str i ∧ y = .str j ∧ i.length + j.length ≤ sizeLine ∧ Q (.str (i ++ j)) H)) ∨ (rCat x y H Q ∨ rCatA G.X.K x y H Q)) addD := by
  intro S σ ρ H x y dx dy P Q g hx hy h q
  cases dx with
  | int i =>
    cases dy with
    | int j => exact .inl (.inl ⟨i, j, hx, hy, q _ (.int (i + j)) H (Stp.refl g.wld) rfl h⟩)
    | _ => exact h.elim
  | str i =>
    cases dy with
    | str j => exact .inl (.inr ⟨i, j, hx, hy, h.1, q _ (.str (i ++ j)) H (Stp.refl g.wld) rfl h.2⟩)
    | _ => exact h.elim
  | lst ds =>
    cases dy with
    | lst es =>
      obtain ⟨a, xs, rfl, n1, e1, v1⟩ := dv_lst hx
      obtain ⟨b, ys, rfl, n2, e2, v2⟩ := dv_lst hy
      exact .inr (.inl ⟨a, b, xs, ys, rfl, rfl, e1, e2, by rw [v1.len, v2.len]; exact h.1, new_lst g (v1.append v2) h.2 q⟩)
    | _ => exact h.elim
  | tup ds =>
    cases dy with
    | tup es =>
      obtain ⟨a, xs, rfl, e1, v1⟩ := dv_tup hx
      obtain ⟨b, ys, rfl, e2, v2⟩ := dv_tup hy
      refine .inr (.inr ⟨a, b, xs, ys, rfl, rfl, sqT_of e1, sqT_of e2, by rw [v1.len, v2.len]; exact h.1, fun z => ?_, fun _ z => ?_, fun _ _ => new_tup g (v1.append v2) h.2 q⟩)
      · subst z
        have e : ds = [] := List.length_eq_zero_iff.mp (by rw [← v1.len]; rfl)
        subst e
        exact q _ (.tup es) H (Stp.refl g.wld) ⟨b, ys, rfl, e2, v2⟩ h.2
      · subst z
        have e : es = [] := List.length_eq_zero_iff.mp (by rw [← v2.len]; rfl)
        subst e
        have h2 := h.2
        rw [List.append_nil] at h2
        exact q _ (.tup ds) H (Stp.refl g.wld) ⟨a, xs, rfl, e1, v1⟩ h2
    | _ => exact h.elim
  | _ => exact h.elim
theorem de_add {a b : Expr} {Fa Fb : FE} (ha : DE G a Fa) (hb : DE G b Fb) : DE G (.BinOp a .Add b pos) (fun ρ P => Fa ρ fun x => Fb ρ fun y => addD x y P) :=
  de_bin (.or (.or op_add op_add_str) (.or op_cat op_catA)) serves_add ha hb
/-! ### ints -/
def intD (f : Int → Int → Dat) (C : Int → Int → Prop) : R2D
  | .int i, .int j, P => C i j ∧ P (f i j)
  | _, _, _ => False
theorem serves_I {C : Int → Int → Prop} {f : Int → Int → Int} : Serves G (rI C fun i j => .int (f i j)) (intD (fun i j => .int (f i j)) C) := by
  intro S σ ρ H x y dx dy P Q g hx hy h q
  cases dx with
  | int i =>
    cases dy with
    | int j => exact ⟨i, j, hx, hy, h.1, q _ (.int (f i j)) H (Stp.refl g.wld) rfl h.2⟩
    | _ => exact h.elim
  | _ => exact h.elim
def int0 (f : Int → Int → Dat) : R2D
  | .int i, .int j, P => P (f i j)
  | _, _, _ => False
theorem serves_I0 {f : Int → Int → Int} : Serves G (rI0 fun i j => .int (f i j)) (int0 (fun i j => .int (f i j))) := by
  intro S σ ρ H x y dx dy P Q g hx hy h q
  cases dx with
  | int i =>
    cases dy with
    | int j => exact ⟨i, j, hx, hy, q _ (.int (f i j)) H (Stp.refl g.wld) rfl h⟩
    | _ => exact h.elim
  | _ => exact h.elim
theorem serves_B0 {f : Int → Int → Bool} : Serves G (rI0 fun i j => .bl (f i j)) (int0 (fun i j => .bl (f i j))) := by
  intro S σ ρ H x y dx dy P Q g hx hy h q
  cases dx with
  | int i =>
    cases dy with
    | int j => exact ⟨i, j, hx, hy, q _ (.bl (f i j)) H (Stp.refl g.wld) rfl h⟩
    | _ => exact h.elim
  | _ => exact h.elim
variable {a b : Expr} {Fa Fb : FE}
theorem de_sub (ha : DE G a Fa) (hb : DE G b Fb) : DE G (.BinOp a .Sub b pos) (fun ρ P => Fa ρ fun x => Fb ρ fun y => int0 (fun i j => .int (i - j)) x y P) := de_bin op_sub serves_I0 ha hb
theorem de_lt (ha : DE G a Fa) (hb : DE G b Fb) : DE G (.Compare a [.Lt] [b] pos) (fun ρ P => Fa ρ fun x => Fb ρ fun y => int0 (fun i j => .bl (decide (i < j))) x y P) := de_cmp op_lt serves_B0 ha hb
theorem de_le (ha : DE G a Fa) (hb : DE G b Fb) : DE G (.Compare a [.LtE] [b] pos) (fun ρ P => Fa ρ fun x => Fb ρ fun y => int0 (fun i j => .bl (decide (i ≤ j))) x y P) := de_cmp op_le serves_B0 ha hb
theorem de_gt (ha : DE G a Fa) (hb : DE G b Fb) : DE G (.Compare a [.Gt] [b] pos) (fun ρ P => Fa ρ fun x => Fb ρ fun y => int0 (fun i j => .bl (decide (j < i))) x y P) := de_cmp op_gt serves_B0 ha hb
theorem de_ge (ha : DE G a Fa) (hb : DE G b Fb) : DE G (.Compare a [.GtE] [b] pos) (fun ρ P => Fa ρ fun x => Fb ρ fun y => int0 (fun i j => .bl (decide (j ≤ i))) x y P) := de_cmp op_ge serves_B0 ha hb
theorem dt_lt (ha : DE G a Fa) (hb : DE G b Fb) : DT G (.Compare a [.Lt] [b] pos) (fun ρ P => Fa ρ fun x => Fb ρ fun y => int0 (fun i j => .bl (decide (i < j))) x y fun z => isB z P) := dt_cmp op_lt serves_B0 ha hb
theorem dt_gt (ha : DE G a Fa) (hb : DE G b Fb) : DT G (.Compare a [.Gt] [b] pos) (fun ρ P => Fa ρ fun x => Fb ρ fun y => int0 (fun i j => .bl (decide (j < i))) x y fun z => isB z P) := dt_cmp op_gt serves_B0 ha hb
theorem dt_ge (ha : DE G a Fa) (hb : DE G b Fb) : DT G (.Compare a [.GtE] [b] pos) (fun ρ P => Fa ρ fun x => Fb ρ fun y => int0 (fun i j => .bl (decide (j ≤ i))) x y fun z => isB z P) := dt_cmp op_ge serves_B0 ha hb
/-! ### ==, != -/
mutual
def toP : Dat → PyData
  | .non => .none
  | .bl b => .bool b
  | .int i => .int i
  | .str x => .str x
  | .tup ds => .tuple (toPs ds)
  | .lst ds => .list (toPs ds)
  | .dic _ _ => .dict []
  | .anl => .dict []
  | .adc => .dict []
def toPs : List Dat → List PyData
  | [] => []
  | d :: ds => toP d :: toPs ds
end
mutual
theorem dp_of {K : PySem.W.Frag} : ∀ (d : Dat) (v : V), Dv K S H d v → (toP d).canLay0 = true → Dp K H v (toP d)
  | .non, _, h, _ => by cases (h : _ = V.non); exact .non
  | .bl b, _, h, _ => by cases (h : _ = V.bl b); exact .bl b
  | .int b, _, h, _ => by cases (h : _ = V.int b); exact .int b
  | .str b, _, h, _ => by cases (h : _ = V.str b); exact .str b
  | .tup ds, _, h, c => by
    obtain ⟨a, xs, rfl, e1, v1⟩ := dv_tup h
    exact .tup (sqT_of e1) (dps_of ds xs v1 (by rw [toP, PyData.canLay0] at c; exact c))
  | .lst ds, _, h, c => by
    obtain ⟨a, xs, rfl, n, e1, v1⟩ := dv_lst h
    exact .lst (.inl (.inl e1)) (dps_of ds xs v1 (by rw [toP, PyData.canLay0] at c; exact c))
  | .dic _ _, _, _, c => by rw [toP, PyData.canLay0] at c; cases c
  | .anl, _, _, c => by rw [toP, PyData.canLay0] at c; cases c
  | .adc, _, _, c => by rw [toP, PyData.canLay0] at c; cases c
theorem dps_of {K : PySem.W.Frag} : ∀ (ds : List Dat) (vs : List V), DvL K S H ds vs → PyData.canLayAll0 (toPs ds) = true → DpAll K H vs (toPs ds)
  | [], _, h, _ => by cases (h : _ = []); exact .nil
  | d :: ds, _, h, c => by
    obtain ⟨v, r, rfl, h1, h2⟩ := (h : ∃ v r, _ = v :: r ∧ Dv K S H d v ∧ DvL K S H ds r)
    rw [toPs, PyData.canLayAll0, Bool.and_eq_true] at c
    exact .cons (dp_of d v h1 c.1) (dps_of ds r h2 c.2)
end
def eqD : R2D
  | .str x, .str y, P => P (.bl (decide (x = y)))
  | .int x, .int y, P => P (.bl (decide (x = y)))
  | .non, .non, P => P (.bl true)
  | .non, .str _, P => P (.bl false)
  | .str _, .non, P => P (.bl false)
  | x, y, P => SeqAt.shaped (toP x) = true ∧ SeqAt.shaped (toP y) = true ∧ P (.bl (PyData.eqv (toP x) (toP y)))
def neD : R2D
  | .str x, .str y, P => P (.bl (!decide (x = y)))
  | .int x, .int y, P => P (.bl (!decide (x = y)))
  | .non, .non, P => P (.bl false)
  | .non, .str _, P => P (.bl true)
  | .str _, .non, P => P (.bl true)
  | x, y, P => SeqAt.shaped (toP x) = true ∧ SeqAt.shaped (toP y) = true ∧ P (.bl (!PyData.eqv (toP x) (toP y)))
theorem dec_str {x y : Str} : decide (V.str x = V.str y) = decide (x = y) := by
  by_cases h : x = y
  · rw [h]; simp
  · rw [decide_eq_false h, decide_eq_false (fun e => h (V.str.inj e))]
theorem dec_int' {x y : Int} : decide (V.int x = V.int y) = decide (x = y) := by
  by_cases h : x = y
  · rw [h]; simp
  · rw [decide_eq_false h, decide_eq_false (fun e => h (V.int.inj e))]
theorem serves_eq : Serves G (fun x y H Q => rEq x y H Q ∨ rEqD G.X.K x y H Q) eqD := by
  intro S σ ρ H x y dx dy P Q g hx hy h q
  unfold eqD at h
  split at h
  · cases dv_str hx; cases dv_str hy
    refine .inl ⟨rfl, ?_⟩
    rw [dec_str]
    exact q _ (.bl _) H (Stp.refl g.wld) rfl h
  · cases dv_int hx; cases dv_int hy
    refine .inl ⟨rfl, ?_⟩
    rw [dec_int']
    exact q _ (.bl _) H (Stp.refl g.wld) rfl h
  · cases (hx : x = V.non); cases (hy : y = V.non)
    exact .inl ⟨rfl, q _ (.bl _) H (Stp.refl g.wld) (by simp [Dv]) h⟩
  · cases (hx : x = V.non); cases dv_str hy
    exact .inl ⟨rfl, q _ (.bl _) H (Stp.refl g.wld) (by simp [Dv]) h⟩
  · cases (hy : y = V.non); cases dv_str hx
    exact .inl ⟨rfl, q _ (.bl _) H (Stp.refl g.wld) (by simp [Dv]) h⟩
  · exact .inr ⟨_, _, dp_of _ _ hx (SeqAt.canLay_of_shaped h.1), dp_of _ _ hy (SeqAt.canLay_of_shaped h.2.1), h.1, h.2.1, q _ (.bl _) H (Stp.refl g.wld) rfl h.2.2⟩
theorem serves_ne : Serves G (fun x y H Q => rNe x y H Q ∨ rNeD G.X.K x y H Q) neD := by
  intro S σ ρ H x y dx dy P Q g hx hy h q
  unfold neD at h
  split at h
  · cases dv_str hx; cases dv_str hy
    refine .inl ⟨rfl, ?_⟩
    rw [dec_str]
    exact q _ (.bl _) H (Stp.refl g.wld) rfl h
  · cases dv_int hx; cases dv_int hy
    refine .inl ⟨rfl, ?_⟩
    rw [dec_int']
    exact q _ (.bl _) H (Stp.refl g.wld) rfl h
  · cases (hx : x = V.non); cases (hy : y = V.non)
    exact .inl ⟨rfl, q _ (.bl _) H (Stp.refl g.wld) (by simp [Dv]) h⟩
  · cases (hx : x = V.non); cases dv_str hy
    exact .inl ⟨rfl, q _ (.bl _) H (Stp.refl g.wld) (by simp [Dv]) h⟩
  · cases (hy : y = V.non); cases dv_str hx
    exact .inl ⟨rfl, q _ (.bl _) H (Stp.refl g.wld) (by simp [Dv]) h⟩
  · exact .inr ⟨_, _, dp_of _ _ hx (SeqAt.canLay_of_shaped h.1), dp_of _ _ hy (SeqAt.canLay_of_shaped h.2.1), h.1, h.2.1, q _ (.bl _) H (Stp.refl g.wld) rfl h.2.2⟩
theorem de_eq (hu : G.X.A.units + 64 < cLine) (ha : DE G a Fa) (hb : DE G b Fb) : DE G (.Compare a [.Eq] [b] pos) (fun ρ P => Fa ρ fun x => Fb ρ fun y => eqD x y P) := de_cmp (.or op_eq (op_eqD hu)) serves_eq ha hb
theorem dt_eq (hu : G.X.A.units + 64 < cLine) (ha : DE G a Fa) (hb : DE G b Fb) : DT G (.Compare a [.Eq] [b] pos) (fun ρ P => Fa ρ fun x => Fb ρ fun y => eqD x y fun z => isB z P) := dt_cmp (.or op_eq (op_eqD hu)) serves_eq ha hb
theorem dt_ne (hu : G.X.A.units + 64 < cLine) (ha : DE G a Fa) (hb : DE G b Fb) : DT G (.Compare a [.NotEq] [b] pos) (fun ρ P => Fa ρ fun x => Fb ρ fun y => neD x y fun z => isB z P) := dt_cmp (.or op_ne (op_neD hu)) serves_ne ha hb
/-! ### is None -/
def isN : Dat → Bool
  | .non => true
  | _ => false
theorem isN_of {K : PySem.W.Frag} {d : Dat} {v : V} (h : Dv K S H d v) : decide (v = .non) = isN d := by
  cases d with
  | non => cases (h : v = .non); rfl
  | bl b => cases (h : v = .bl b); rfl
  | int b => cases (h : v = .int b); rfl
  | str b => cases (h : v = .str b); rfl
  | tup ds => obtain ⟨a, xs, rfl, _⟩ := dv_tup h; rfl
  | lst ds => obtain ⟨a, xs, rfl, _⟩ := dv_lst h; rfl
  | dic ks ds => obtain ⟨a, xs, rfl, _⟩ := dv_dic h; rfl
  | anl => obtain ⟨a, xs, rfl, _⟩ := dv_anl h; rfl
  | adc => obtain ⟨a, xs, rfl, _⟩ := dv_adc h; rfl
theorem de_notN {j pos'} (ha : DE G a Fa) : DE G (.Compare a [.IsNot] [.Constant .none j pos'] pos) (fun ρ P => Fa ρ fun x => P (.bl (!isN x))) := by
  obtain ⟨t, h, l⟩ := ha.ex
  refine ⟨⟨_, pe_cmp (pc_notN h), fun S σ H ρ P Q g h q => ?_⟩⟩
  refine l S σ H ρ _ _ g h fun v d H1 st hv hp => ?_
  rw [isN_of hv]
  exact q _ (.bl (!isN d)) H1 st rfl hp
theorem dt_isN {j pos'} (ha : DE G a Fa) : DT G (.Compare a [.Is] [.Constant .none j pos'] pos) (fun ρ P => Fa ρ fun x => P (isN x)) := by
  obtain ⟨t, h, l⟩ := ha.ex
  refine ⟨⟨_, pt_cmp (pc_isN h), fun S σ H ρ P Q g h q => ?_⟩⟩
  refine l S σ H ρ _ _ g h fun v d H1 st hv hp => ?_
  rw [isN_of hv]
  exact ⟨_, rfl, q _ H1 st hp⟩
theorem dt_notN {j pos'} (ha : DE G a Fa) : DT G (.Compare a [.IsNot] [.Constant .none j pos'] pos) (fun ρ P => Fa ρ fun x => P (!isN x)) := by
  obtain ⟨t, h, l⟩ := ha.ex
  refine ⟨⟨_, pt_cmp (pc_notN h), fun S σ H ρ P Q g h q => ?_⟩⟩
  refine l S σ H ρ _ _ g h fun v d H1 st hv hp => ?_
  rw [isN_of hv]
  exact ⟨_, rfl, q _ H1 st hp⟩
/-! ### type(x) == T -/
def tyName : Dat → String
  | .non => "NoneType"
  | .bl _ => "bool"
  | .int _ => "int"
  | .str _ => "str"
  | .tup _ => "tuple"
  | .lst _ => "list"
  | .dic _ _ => "dict"
  | .anl => "list"
  | .adc => "dict"
theorem tyIs {X : Cx} {pins : List (Addr × Obj)} {s : Shared} {d : Dat} {v : V} {u : Value} (I : Inv X pins σ H s) (h : Dv X.K S H d v) (r : RelV v u) : s.TypeIs u (tyName d) := by
  cases d with
  | non => cases (h : v = .non); cases r; exact rfl
  | bl b => cases (h : v = .bl b); cases r; exact rfl
  | int b => cases (h : v = .int b); obtain ⟨t, rfl⟩ := r; exact typeIs_int s b t
  | str b => cases (h : v = .str b); obtain ⟨t, rfl⟩ := r; exact typeIs_str s b t
  | tup ds =>
    obtain ⟨a, xs, rfl, e, _⟩ := dv_tup h
    cases r
    obtain ⟨its, rv, p, _⟩ := I.tuple (sqT_of e)
    exact p.typeIs
  | lst ds =>
    obtain ⟨a, xs, rfl, n, e, _⟩ := dv_lst h
    cases r
    obtain ⟨its, rv, p, _⟩ := I.list (.inl (.inl e))
    exact p.isList.typeIs
  | dic ks ds =>
    obtain ⟨a, xs, rfl, n, e, _⟩ := dv_dic h
    cases r
    obtain ⟨_, _, vs, _, p⟩ := I.hok a _ e
    exact p.typeIs
  | anl =>
    obtain ⟨a, xs, rfl, n, e⟩ := dv_anl h
    cases r
    obtain ⟨its, rv, p, _⟩ := I.list (.inl (.inl e))
    exact p.isList.typeIs
  | adc =>
    obtain ⟨a, xs, rfl, n, e⟩ := dv_adc h
    cases r
    obtain ⟨_, _, vs, _, p⟩ := I.hok a _ e
    exact p.typeIs
def metas : List String := ["NoneType", "bool", "int", "str", "tuple", "list", "dict"]
theorem meta_ty {T : String} (h : T ∈ metas) (s : Shared) : s.TypeIs (.type T) "type" := by
  simp only [metas, List.mem_cons, List.not_mem_nil, or_false] at h
  rcases h with rfl | rfl | rfl | rfl | rfl | rfl | rfl <;> (show typeOf _ = pure (Value.type "type"); kernel_rfl)
theorem metas_nodup {T U : String} (h : T ∈ metas) (k : U ∈ metas) (n : T ≠ U) : (Value.type T == Value.type U) = false := by
  simp only [metas, List.mem_cons, List.not_mem_nil, or_false] at h k
  rcases h with rfl | rfl | rfl | rfl | rfl | rfl | rfl <;> rcases k with rfl | rfl | rfl | rfl | rfl | rfl | rfl <;> first | exact absurd rfl n | decide +kernel
theorem tyName_mem (d : Dat) : tyName d ∈ metas := by cases d <;> simp [tyName, metas]
def rTyD (K : PySem.W.Frag) : List V → Hp → VK → Prop := fun xs H Q => ∃ (x : V) (S : Addr → Prop) (d : Dat), xs = [x] ∧ Dv K S H d x ∧ Q (.ty (tyName d)) H
theorem call_tyD {X : Cx} : CallR X (.type "type") (rTyD X.K) := by
  intro pins s σ H xs us Q I r h
  obtain ⟨x, S, d, rfl, t, q⟩ := h
  obtain ⟨u, rfl, rx⟩ := vals1 r
  exact call_type_of (tyIs I t rx) (by cases d <;> (show (Value.type _ == Value.type _) = false; simp only [tyName]; decide +kernel)) ⟨.ty _, H, I, rfl, q⟩
def rTyEq : R2 := fun x y H Q => ∃ a b, x = .ty a ∧ y = .ty b ∧ a ∈ metas ∧ b ∈ metas ∧ Q (.bl (decide (a = b))) H
theorem op_tyEq {X : Cx} : OpR X (compareOp .Eq) rTyEq := by
  intro pins s σ H x y v u Q I rx ry h
  obtain ⟨a, b, rfl, rfl, ma, mb, q⟩ := h
  cases (show v = Value.type a from rx)
  cases (show u = Value.type b from ry)
  by_cases e : a = b
  · subst e
    exact TypeEq.eq_type_same (meta_ty ma) ⟨.bl true, H, I, rfl, by simpa using q⟩
  · exact TypeEq.eq_type_other (meta_ty ma) (meta_ty mb) (metas_nodup ma mb e) ⟨.bl false, H, I, rfl, by simpa [e] using q⟩
theorem lift_tyEq {te : TE} {F : FE} {T : String} (hT : T ∈ metas) (l : LiftE G te F) : LiftE G (tOp rTyEq (tCB (rTyD G.X.K) (tCons te tNil)) (tC (.ty T))) (fun ρ P => F ρ fun x => P (.bl (decide (tyName x = T)))) := by
  intro S σ H ρ P Q g h q
  refine l S σ H ρ _ _ g h fun v d H1 st hv hp => ?_
  exact ⟨v, S, d, rfl, hv, _, _, rfl, rfl, tyName_mem d, hT, q _ (.bl _) H1 st rfl hp⟩
theorem de_type {e : Expr} {F : FE} {T : Str} {TT : String} {p1 p2 p3 p4 : Pos} (hT : TT ∈ metas := by decide) (he : DE G e F) (hg : Gl G.X "type" := by rfl) (hm : G.X.mg "type" = none) (hgT : Gl G.X T := by rfl) (hmT : G.X.mg T = none) (hv : bootBuiltins T = some (.type TT)) (hn : T ≠ "__name__") (hd : (T == ("__debug__" : Str)) = false)
    (hs : starEach [e] G.X.env = (false, eval e G.X.env) :: starEach [] G.X.env := by rfl) :
    DE G (.Compare (.Call (.Name "type" p1) [e] [] p2) [.Eq] [.Name T p3] p4) (fun ρ P => F ρ fun x => P (.bl (decide (tyName x = TT)))) := by
  obtain ⟨t, h, l⟩ := he.ex
  exact ⟨⟨_, pe_cmpR op_tyEq (pe_callTy call_tyD hg hm (by decide +kernel) (pa_cons h pa_nil hs) (he := hs)) (pe_bltn (v := V.ty TT) hgT hmT hv rfl hn hd) (nobehind _ (by decide) (by decide)), lift_tyEq hT l⟩⟩
end
end DL
namespace DL
open PySem PySem.Spec PyProof.Rows L2
section
variable {G : Ctx} {S S' : Addr → Prop} {σ : L2.St} {H H' : Hp} {ρ : List Slot} {pos : Pos} {a b : Expr} {Fa Fb : FE}
/-! ### in, not in -/
def strsOf : List Dat → Option (List Str)
  | [] => some []
  | .str x :: r => (strsOf r).map (x :: ·)
  | _ :: _ => none
theorem strsOf_eq : ∀ {ds : List Dat} {zs : List Str}, strsOf ds = some zs → ds = zs.map Dat.str
  | [], zs, h => by cases h; rfl
  | .str x :: r, zs, h => by
    unfold strsOf at h
    cases e : strsOf r with
    | none => rw [e] at h; cases h
    | some ys =>
      rw [e] at h
      cases h
      rw [strsOf_eq e]; rfl
  | .non :: _, _, h => by cases h
  | .bl _ :: _, _, h => by cases h
  | .int _ :: _, _, h => by cases h
  | .tup _ :: _, _, h => by cases h
  | .lst _ :: _, _, h => by cases h
  | .dic _ _ :: _, _, h => by cases h
theorem inV_str (x : Str) : ∀ (zs : List Str), inV (.str x) (zs.map V.str) = decide (x ∈ zs)
  | [] => by simp [inV]
  | z :: zs => by
    have ih := inV_str x zs
    unfold inV at ih ⊢
    rw [List.map_cons, List.any_cons, ih]
    by_cases h : x = z
    · subst h; simp [eqV]
    · have h2 : (z == x) = false := beq_eq_false_iff_ne.mpr (fun e => h e.symm)
      simp [eqV, h2, h]
theorem flat_strs : ∀ (zs : List Str), (zs.map V.str).all flatV = true
  | [] => rfl
  | z :: zs => by rw [List.map_cons, List.all_cons, flat_strs zs]; rfl
def inOf (neg : Bool) (x : Str) (ds : List Dat) (P : Dat → Prop) : Prop := match strsOf ds with
  | some zs => P (.bl (if neg then !decide (x ∈ zs) else decide (x ∈ zs)))
  | none => False
def inD (neg : Bool) : R2D
  | .str x, .tup ds, P => inOf neg x ds P
  | .str x, .lst ds, P => inOf neg x ds P
  | _, _, _ => False
theorem inOf_inv {neg : Bool} {x : Str} {ds : List Dat} {P : Dat → Prop} (h : inOf neg x ds P) : ∃ zs : List Str, ds = zs.map Dat.str ∧ P (.bl (if neg then !decide (x ∈ zs) else decide (x ∈ zs))) := by
  unfold inOf at h
  split at h
  · rename_i zs e; exact ⟨zs, strsOf_eq e, h⟩
  · exact h.elim
theorem serves_in {neg : Bool} : Serves G (rIn G.X.K neg) (inD neg) := by
  intro S σ ρ H x y dx dy P Q g hx hy h q
  cases dx with
  | str z =>
    cases dv_str hx
    cases dy with
    | tup ds =>
      obtain ⟨zs, rfl, hp⟩ := inOf_inv h
      obtain ⟨a, xs, rfl, e, v⟩ := dv_tup hy
      rw [v.strs] at e
      refine ⟨a, zs.map V.str, rfl, .inr (sqT_of e), rfl, flat_strs zs, ?_⟩
      rw [inV_str]
      exact q _ (.bl _) H (Stp.refl g.wld) rfl hp
    | lst ds =>
      obtain ⟨zs, rfl, hp⟩ := inOf_inv h
      obtain ⟨a, xs, rfl, n, e, v⟩ := dv_lst hy
      rw [v.strs] at e
      refine ⟨a, zs.map V.str, rfl, .inl (.inl (.inl e)), rfl, flat_strs zs, ?_⟩
      rw [inV_str]
      exact q _ (.bl _) H (Stp.refl g.wld) rfl hp
    | _ => exact h.elim
  | _ => exact h.elim
theorem de_in (ha : DE G a Fa) (hb : DE G b Fb) (hm : behindInMarks .In b = false := by rfl) : DE G (.Compare a [.In] [b] pos) (fun ρ P => Fa ρ fun x => Fb ρ fun y => inD false x y P) := de_cmp op_in_seq serves_in ha hb hm
/-! ### subscripts, slices -/
def someD {α : Type} (o : Option α) (P : α → Prop) : Prop := match o with
  | some x => P x
  | none => False
theorem someD_inv {α : Type} {o : Option α} {P : α → Prop} (h : someD o P) : ∃ x, o = some x ∧ P x := by
  cases o with
  | none => exact h.elim
  | some x => exact ⟨x, rfl, h⟩
def ixD : R2D
  | .tup ds, .int i, P => someD (atI ds i) P
  | .lst ds, .int i, P => someD (atI ds i) P
  | .str z, .int i, P => z.length ≤ sizeLine ∧ someD (atI z.cps.toList i) fun c => P (.str ⟨#[c]⟩)
  | _, _, _ => False
theorem atI_dv {K : PySem.W.Frag} {ds : List Dat} {xs : List V} {i : Int} {d : Dat} (v : DvL K S H ds xs) (h : atI ds i = some d) : ∃ x, atI xs i = some x ∧ Dv K S H d x := by
  unfold atI at h ⊢
  rw [v.len]
  cases e : ixN ds.length i with
  | none => rw [e] at h; cases h
  | some j =>
    rw [e] at h
    exact v.get h
theorem serves_ix : Serves G (fun x y H Q => (rIxL G.X.K x y H Q ∨ rIxT G.X.K x y H Q) ∨ rIxS x y H Q) ixD := by
  intro S σ ρ H x y dx dy P Q g hx hy h q
  cases dy with
  | int i =>
    cases dv_int hy
    cases dx with
    | tup ds =>
      obtain ⟨d, e, hp⟩ := someD_inv h
      obtain ⟨a, xs, rfl, e1, v⟩ := dv_tup hx
      obtain ⟨z, ez, hz⟩ := atI_dv v e
      exact .inl (.inr ⟨a, xs, i, z, rfl, rfl, sqT_of e1, ez, q z d H (Stp.refl g.wld) hz hp⟩)
    | lst ds =>
      obtain ⟨d, e, hp⟩ := someD_inv h
      obtain ⟨a, xs, rfl, n, e1, v⟩ := dv_lst hx
      obtain ⟨z, ez, hz⟩ := atI_dv v e
      exact .inl (.inl ⟨a, xs, i, z, rfl, rfl, .inl (.inl e1), ez, q z d H (Stp.refl g.wld) hz hp⟩)
    | str z =>
      cases dv_str hx
      obtain ⟨d, e, hp⟩ := someD_inv h.2
      exact .inr ⟨z, i, d, rfl, rfl, h.1, e, q _ (.str _) H (Stp.refl g.wld) rfl hp⟩
    | _ => exact h.elim
  | _ => cases dx <;> exact h.elim
theorem de_ix (ha : DE G a Fa) (hb : DE G b Fb) (hs : PlainIx b := by exact fun _ _ => rfl) : DE G (.Subscript a b pos) (fun ρ P => Fa ρ fun x => Fb ρ fun y => ixD x y P) := by
  obtain ⟨ta, h1, l1⟩ := ha.ex
  obtain ⟨tb, h2, l2⟩ := hb.ex
  exact ⟨⟨_, pe_ix (.or (.or ix_list ix_tup) ix_str) h1 h2 hs, lift_op serves_ix l1 l2⟩⟩
abbrev FO := List Slot → (Option Int → Prop) → Prop
def LiftO (G : Ctx) (t : TO) (F : FO) : Prop := ∀ S σ H ρ P (Q : Option Int → Hp → Prop), Gd G S σ H ρ → F ρ P → (∀ b H', Stp G H H' → P b → Q b H') → t σ H Q
structure DO (G : Ctx) (e : Option Expr) (F : FO) : Prop where
  ex : ∃ t, PO G.X e t ∧ LiftO G t F
theorem do_none : DO G none (fun _ P => P none) := ⟨⟨_, po_none, fun _ _ H _ _ _ g h q => q none H (Stp.refl g.wld) h⟩⟩
def isI (d : Dat) (P : Int → Prop) : Prop := match d with
  | .int b => P b
  | _ => False
theorem isI_inv {d : Dat} {P : Int → Prop} (h : isI d P) : ∃ b, d = .int b ∧ P b := by
  unfold isI at h
  split at h
  · exact ⟨_, rfl, h⟩
  · exact h.elim
theorem do_some (ha : DE G a Fa) : DO G (some a) (fun ρ P => Fa ρ fun x => isI x fun i => P (some i)) := by
  obtain ⟨t, h, l⟩ := ha.ex
  refine ⟨⟨_, po_some h, fun S σ H ρ P Q g h q => ?_⟩⟩
  refine l S σ H ρ _ _ g h fun v d H1 st hv hp => ?_
  obtain ⟨i, rfl, hp⟩ := isI_inv hp
  exact ⟨i, hv, q _ H1 st hp⟩
def cutG {α : Type} (xs : List α) (lo hi : Option Int) : List α := (xs.drop (HT.sIx xs.length 0 lo)).take (HT.sIx xs.length xs.length hi - HT.sIx xs.length 0 lo)
def slD (x : Dat) (lo hi : Option Int) (P : Dat → Prop) : Prop := match x with
  | .tup ds => P (.tup (cutG ds lo hi))
  | .lst ds => P (.lst (cutG ds lo hi))
  | .str z => z.length ≤ sizeLine ∧ P (.str (cutS z lo hi))
  | _ => False
theorem cut_dv {K : PySem.W.Frag} {ds : List Dat} {xs : List V} (v : DvL K S H ds xs) (lo hi : Option Int) : DvL K S H (cutG ds lo hi) (cutV xs lo hi) := by
  unfold cutG cutV
  rw [v.len]
  exact (v.drop _).take _
theorem de_sl {lo hi : Option Expr} {p2 : Pos} {Fl Fh : FO} (ha : DE G a Fa) (hl : DO G lo Fl) (hh : DO G hi Fh) : DE G (.Subscript a (.Slice lo hi none p2) pos) (fun ρ P => Fa ρ fun x => Fl ρ fun l => Fh ρ fun u => slD x l u P) := by
  obtain ⟨t, h, l⟩ := ha.ex
  obtain ⟨t1, h1, l1⟩ := hl.ex
  obtain ⟨t2, h2, l2⟩ := hh.ex
  refine ⟨⟨_, pe_slice (.or (.or sl_list sl_tupA) sl_str) h h1 h2, fun S σ H ρ P Q g h q => ?_⟩⟩
  refine l S σ H ρ _ _ g h fun v d H1 st hv hp => ?_
  have g1 := g.step st
  refine l1 S σ H1 ρ _ _ g1 hp fun lo H2 st2 hp => ?_
  have g2 := g1.step st2
  refine l2 S σ H2 ρ _ _ g2 hp fun hi H3 st3 hp => ?_
  have g3 := g2.step st3
  have hv3 := st3.dv g2 (st2.dv g1 hv)
  have q' : ∀ v d H', Stp G H3 H' → Dv G.X.K S H' d v → P d → Q v H' := fun v d H' s4 => q v d H' (((st.trans st2).trans st3).trans s4)
  cases d with
  | tup ds =>
    obtain ⟨a, xs, rfl, e, v⟩ := dv_tup hv3
    refine .inl (.inr ⟨a, xs, rfl, sqT_of e, fun w => ?_, fun _ => new_tup g3 (cut_dv v lo hi) hp q'⟩)
    have ec : cutG ds lo hi = ds := by
      unfold cutG
      rw [← v.len, w.1, w.2, List.drop_zero, Nat.sub_zero, v.len, List.take_length]
    have hp' : P (.tup ds) := by
      have hp2 : P (.tup (cutG ds lo hi)) := hp
      rw [ec] at hp2; exact hp2
    exact q' _ (.tup ds) H3 (Stp.refl g3.wld) ⟨a, xs, rfl, e, v⟩ hp'
  | lst ds =>
    obtain ⟨a, xs, rfl, n, e, v⟩ := dv_lst hv3
    exact .inl (.inl ⟨a, xs, rfl, .inl (.inl e), new_lst g3 (cut_dv v lo hi) hp q'⟩)
  | str z =>
    cases dv_str hv3
    exact .inr ⟨z, rfl, hp.1, q' _ (.str _) H3 (Stp.refl g3.wld) rfl hp.2⟩
  | _ => exact hp.elim

/-! ### calls of built-ins by what their arguments stand for -/
abbrev RCD := List Dat → (Dat → Prop) → Prop
def ServesC (G : Ctx) (r : List V → Hp → VK → Prop) (D : RCD) : Prop := ∀ S σ ρ H vs ds P (Q : VK), Gd G S σ H ρ → DvL G.X.K S H ds vs → D ds P → (∀ v d H', Stp G H H' → Dv G.X.K S H' d v → P d → Q v H') → r vs H Q
theorem lift_cb {r : List V → Hp → VK → Prop} {D : RCD} {t : TA} {Fs : FA} (hr : ServesC G r D) (l : LiftA G t Fs) : LiftE G (tCB r t) (fun ρ P => Fs ρ fun ds => D ds P) := by
  intro S σ H ρ P Q g h q
  refine l S σ H ρ _ _ g h fun vs ds H1 st hv hp => ?_
  exact hr S σ ρ H1 vs ds P Q (g.step st) hv hp fun v d H2 st2 => q v d H2 (st.trans st2)
theorem de_cb {id : String} {r : List V → Hp → VK → Prop} {D : RCD} {x : Str} {p : Pos} {e : Expr} {es : List Expr} {Fs : FA} (hc : CallR G.X (.builtin id) r) (hr : ServesC G r D) (hm : G.X.mg x = none) (hv : bootBuiltins x = some (.builtin id)) (ha : DA G (e :: es) Fs) (hg : Gl G.X x := by rfl)
    (hn : x ≠ "__name__" := by decide) (hdb : (x == ("__debug__" : Str)) = false := by decide) (he : starEach (e :: es) G.X.env = (false, eval e G.X.env) :: starEach es G.X.env := by rfl) (hpl : (backTo pos (starEach es G.X.env)).any (·.1) = false := by rfl) :
    DE G (.Call (.Name x p) (e :: es) [] pos) (fun ρ P => Fs ρ fun ds => D ds P) := by
  obtain ⟨t, h, l⟩ := ha.ex
  exact ⟨⟨_, pe_callB hc hg hm hv h hn hdb he hpl, lift_cb hr l⟩⟩
theorem de_ct {T : String} {r : List V → Hp → VK → Prop} {D : RCD} {x : Str} {p : Pos} {e : Expr} {es : List Expr} {Fs : FA} (hc : CallR G.X (.type T) r) (hr : ServesC G r D) (hm : G.X.mg x = none) (hv : bootBuiltins x = some (.type T)) (ha : DA G (e :: es) Fs) (hg : Gl G.X x := by rfl)
    (hn : x ≠ "__name__" := by decide) (hdb : (x == ("__debug__" : Str)) = false := by decide) (he : starEach (e :: es) G.X.env = (false, eval e G.X.env) :: starEach es G.X.env := by rfl) (hpl : (backTo pos (starEach es G.X.env)).any (·.1) = false := by rfl) :
    DE G (.Call (.Name x p) (e :: es) [] pos) (fun ρ P => Fs ρ fun ds => D ds P) := by
  obtain ⟨t, h, l⟩ := ha.ex
  exact ⟨⟨_, pe_callTy hc hg hm hv h hn hdb he hpl, lift_cb hr l⟩⟩
theorem dvl1 {K : PySem.W.Frag} {d : Dat} {vs : List V} (h : DvL K S H [d] vs) : ∃ v, vs = [v] ∧ Dv K S H d v := by
  obtain ⟨v, r, rfl, h1, h2⟩ := (h : ∃ v r, vs = v :: r ∧ Dv K S H d v ∧ DvL K S H [] r)
  cases (h2 : r = [])
  exact ⟨v, rfl, h1⟩
theorem dvl2 {K : PySem.W.Frag} {d e : Dat} {vs : List V} (h : DvL K S H [d, e] vs) : ∃ v w, vs = [v, w] ∧ Dv K S H d v ∧ Dv K S H e w := by
  obtain ⟨v, r, rfl, h1, h2⟩ := (h : ∃ v r, vs = v :: r ∧ Dv K S H d v ∧ DvL K S H [e] r)
  obtain ⟨w, rfl, h3⟩ := dvl1 h2
  exact ⟨v, w, rfl, h1, h3⟩
def lenD : RCD
  | [.str x], P => x.length ≤ sizeLine ∧ P (.int (x.length : Nat))
  | [.tup x], P => P (.int (x.length : Nat))
  | [.lst x], P => P (.int (x.length : Nat))
  | _, _ => False
theorem serves_len : ServesC G (fun xs H Q => ∃ x n, xs = [x] ∧ LenV G.X.K x H n ∧ Q (.int n) H) lenD := by
  intro S σ ρ H vs ds P Q g hv h q
  unfold lenD at h
  split at h
  · obtain ⟨v, rfl, h1⟩ := dvl1 hv
    cases dv_str h1
    exact ⟨_, _, rfl, ⟨h.1, rfl⟩, q _ (.int _) H (Stp.refl g.wld) rfl h.2⟩
  · obtain ⟨v, rfl, h1⟩ := dvl1 hv
    obtain ⟨a, xs, rfl, e, hl⟩ := dv_tup h1
    exact ⟨_, _, rfl, .inr ⟨xs, sqT_of e, rfl⟩, q _ (.int _) H (Stp.refl g.wld) (by rw [hl.len]; rfl) h⟩
  · obtain ⟨v, rfl, h1⟩ := dvl1 hv
    obtain ⟨a, xs, rfl, n, e, hl⟩ := dv_lst h1
    exact ⟨_, _, rfl, .inl ⟨xs, .inl (.inl e), rfl⟩, q _ (.int _) H (Stp.refl g.wld) (by rw [hl.len]; rfl) h⟩
  · exact h.elim
theorem de_len {p : Pos} {Fs : FA} (hm : G.X.mg "len" = none) (ha : DA G [a] Fs) (hg : Gl G.X "len" := by rfl) (he : starEach [a] G.X.env = (false, eval a G.X.env) :: starEach [] G.X.env := by rfl) : DE G (.Call (.Name "len" p) [a] [] pos) (fun ρ P => Fs ρ fun ds => lenD ds P) := de_cb call_len serves_len hm PySem.boot_len ha hg (he := he)
def strD : RCD
  | [.int i], P => i.natAbs.log2 < 1920 ∧ P (.str (toString i))
  | _, _ => False
theorem serves_str : ServesC G (fun xs H Q => ∃ i, xs = [.int i] ∧ i.natAbs.log2 < 1920 ∧ Q (.str (toString i)) H) strD := by
  intro S σ ρ H vs ds P Q g hv h q
  unfold strD at h
  split at h
  · obtain ⟨v, rfl, h1⟩ := dvl1 hv
    cases dv_int h1
    exact ⟨_, rfl, h.1, q _ (.str _) H (Stp.refl g.wld) rfl h.2⟩
  · exact h.elim
theorem de_strI {p : Pos} {Fs : FA} (hm : G.X.mg "str" = none) (ha : DA G [a] Fs) (hg : Gl G.X "str" := by rfl) (he : starEach [a] G.X.env = (false, eval a G.X.env) :: starEach [] G.X.env := by rfl) : DE G (.Call (.Name "str" p) [a] [] pos) (fun ρ P => Fs ρ fun ds => strD ds P) := de_ct call_str_int serves_str hm (by decide +kernel) ha hg (he := he)
def tupleD : RCD
  | [.tup x], P => P (.tup x)
  | [.lst x], P => P (.tup x)
  | _, _ => False
theorem serves_tuple : ServesC G (fun xs H Q => ∃ p ys, xs = [.ref p] ∧ ((SqL G.X.K H p ys ∧ ∀ l, H l = none → Q (.ref l) (upd H l (.tup ys))) ∨ (SqT G.X.K H p ys ∧ Q (.ref p) H))) tupleD := by
  intro S σ ρ H vs ds P Q g hv h q
  unfold tupleD at h
  split at h
  · obtain ⟨v, rfl, h1⟩ := dvl1 hv
    obtain ⟨a, xs, rfl, e, hl⟩ := dv_tup h1
    exact ⟨_, _, rfl, .inr ⟨sqT_of e, q _ (.tup _) H (Stp.refl g.wld) ⟨a, xs, rfl, e, hl⟩ h⟩⟩
  · obtain ⟨v, rfl, h1⟩ := dvl1 hv
    obtain ⟨a, xs, rfl, n, e, hl⟩ := dv_lst h1
    exact ⟨_, _, rfl, .inl ⟨.inl (.inl e), new_tup g hl h q⟩⟩
  · exact h.elim
theorem de_tuple {p : Pos} {Fs : FA} (hm : G.X.mg "tuple" = none) (ha : DA G [a] Fs) (hg : Gl G.X "tuple" := by rfl) (he : starEach [a] G.X.env = (false, eval a G.X.env) :: starEach [] G.X.env := by rfl) : DE G (.Call (.Name "tuple" p) [a] [] pos) (fun ρ P => Fs ρ fun ds => tupleD ds P) := de_ct call_tuple_of serves_tuple hm (by decide +kernel) ha hg (he := he)
def blsOf : List Dat → Option (List Bool)
  | [] => some []
  | .bl x :: r => (blsOf r).map (x :: ·)
  | _ :: _ => none
theorem blsOf_vals {K : PySem.W.Frag} : ∀ {ds : List Dat} {zs : List Bool} {vs : List V}, blsOf ds = some zs → DvL K S H ds vs → vs = zs.map V.bl
  | [], zs, _, h, v => by cases h; exact v
  | .bl x :: r, zs, vs, h, v => by
    unfold blsOf at h
    cases e : blsOf r with
    | none => rw [e] at h; cases h
    | some ys =>
      rw [e] at h
      cases h
      obtain ⟨v, r', rfl, h1, h2⟩ := (v : ∃ v r', vs = v :: r' ∧ Dv K S H (.bl x) v ∧ DvL K S H r r')
      cases (h1 : v = .bl x)
      rw [blsOf_vals e h2]; rfl
  | .non :: _, _, _, h, _ => by cases h
  | .str _ :: _, _, _, h, _ => by cases h
  | .int _ :: _, _, _, h, _ => by cases h
  | .tup _ :: _, _, _, h, _ => by cases h
  | .lst _ :: _, _, _, h, _ => by cases h
  | .dic _ _ :: _, _, _, h, _ => by cases h
def allD : RCD
  | [.lst ds], P => someD (blsOf ds) fun bs => P (.bl (bs.all id))
  | _, _ => False
theorem serves_all : ServesC G (rAll G.X.K) allD := by
  intro S σ ρ H vs ds P Q g hv h q
  unfold allD at h
  split at h
  · obtain ⟨bs, e, hp⟩ := someD_inv h
    obtain ⟨v, rfl, h1⟩ := dvl1 hv
    obtain ⟨a, xs, rfl, n, e1, hl⟩ := dv_lst h1
    rw [blsOf_vals e hl] at e1
    exact ⟨a, bs, rfl, .inl (.inl e1), q _ (.bl _) H (Stp.refl g.wld) rfl hp⟩
  · exact h.elim
theorem de_all {p : Pos} {Fs : FA} (hc : G.X.calm = true) (hm : G.X.mg "all" = none) (ha : DA G [a] Fs) (hg : Gl G.X "all" := by rfl) (he : starEach [a] G.X.env = (false, eval a G.X.env) :: starEach [] G.X.env := by rfl) : DE G (.Call (.Name "all" p) [a] [] pos) (fun ρ P => Fs ρ fun ds => allD ds P) := de_cb (cr_all hc) serves_all hm (by decide +kernel) ha hg (he := he)

/-! ### texts -/
def isS (d : Dat) (P : Str → Prop) : Prop := match d with
  | .str b => P b
  | _ => False
theorem isS_inv {d : Dat} {P : Str → Prop} (h : isS d P) : ∃ b, d = .str b ∧ P b := by
  unfold isS at h
  split at h
  · exact ⟨_, rfl, h⟩
  · exact h.elim
def seqOf (d : Dat) (P : List Dat → Prop) : Prop := match d with
  | .tup x => P x
  | .lst x => P x
  | _ => False
/-- f-strings -/
def fmtD (d : Dat) (P : Str → Prop) : Prop := match d with
  | .str y => y.length ≤ sizeLine ∧ P y
  | .int i => i.natAbs.log2 < 1920 ∧ P (toString i)
  | _ => False
abbrev FJ := List Slot → (Str → Prop) → Prop
theorem de_fmt (ha : DE G a Fa) : DE G (.FormattedValue a (-1) none pos) (fun ρ P => Fa ρ fun x => fmtD x fun s => P (.str s)) := by
  obtain ⟨ta, h1, l1⟩ := ha.ex
  refine ⟨⟨_, pe_fmt h1, fun S σ H ρ P Q g h q => ?_⟩⟩
  refine l1 S σ H ρ _ _ g h fun v d H1 st hv hp => ?_
  cases d with
  | str y => cases dv_str hv; exact .inl ⟨y, rfl, hp.1, q _ (.str _) H1 st rfl hp.2⟩
  | int i => cases dv_int hv; exact .inr ⟨i, rfl, hp.1, q _ (.str _) H1 st rfl hp.2⟩
  | _ => exact hp.elim
structure DJ (G : Ctx) (es : List Expr) (F : Str → FJ) : Prop where
  ex : ∃ ts, PJ G.X es ts ∧ ∀ acc S σ H ρ P (Q : Str → Hp → Prop), Gd G S σ H ρ → F acc ρ P → (∀ z H', Stp G H H' → P z → Q z H') → tJs ts acc σ H Q
theorem dj_nil : DJ G [] (fun acc _ P => P acc) := ⟨⟨[], .nil, fun acc S σ H ρ P Q g h q => q acc H (Stp.refl g.wld) h⟩⟩
theorem dj_cons {es : List Expr} {F : Str → FJ} (ha : DE G a Fa) (hr : DJ G es F) : DJ G (a :: es) (fun acc ρ P => Fa ρ fun x => isS x fun y => (acc ++ y).length ≤ sizeLine ∧ F (acc ++ y) ρ P) := by
  obtain ⟨ta, h1, l1⟩ := ha.ex
  obtain ⟨ts, h2, l2⟩ := hr.ex
  refine ⟨⟨ta :: ts, .cons h1 h2, fun acc S σ H ρ P Q g h q => ?_⟩⟩
  refine l1 S σ H ρ _ _ g h fun v d H1 st hv hp => ?_
  obtain ⟨y, rfl, hz, hp⟩ := isS_inv hp
  cases dv_str hv
  exact ⟨y, rfl, hz, l2 _ S σ H1 ρ P Q (g.step st) hp fun z H2 st2 => q z H2 (st.trans st2)⟩
theorem de_joined {v1 v2 : Expr} {rest : List Expr} {F : Str → FJ} (h : DJ G (v1 :: v2 :: rest) F) : DE G (.JoinedStr (v1 :: v2 :: rest) pos) (fun ρ P => F Str.empty ρ fun s => P (.str s)) := by
  obtain ⟨ts, h1, l1⟩ := h.ex
  refine ⟨⟨_, pe_joined h1, fun S σ H ρ P Q g h q => ?_⟩⟩
  exact l1 _ S σ H ρ _ _ g h fun z H' st hp => q _ (.str z) H' st rfl hp

/-! ### targets -/
abbrev FG := Dat → List Slot → (List Slot → Prop) → Prop
abbrev FGs := List Dat → List Slot → (List Slot → Prop) → Prop
def LiftG (G : Ctx) (t : TG) (F : FG) : Prop := ∀ S σ H ρ d v P (Q : L2.St → Hp → Prop), Gd G S σ H ρ → Dv G.X.K S H d v → F d ρ P → (∀ σ' ρ', Gd G S σ' H ρ' → P ρ' → Q σ' H) → t v σ H Q
def LiftGs (G : Ctx) (t : TGs) (F : FGs) : Prop := ∀ S σ H ρ d v P (Q : L2.St → Hp → Prop), Gd G S σ H ρ → DvL G.X.K S H d v → F d ρ P → (∀ σ' ρ', Gd G S σ' H ρ' → P ρ' → Q σ' H) → t v σ H Q
structure DG (G : Ctx) (e : Expr) (F : FG) : Prop where
  ex : ∃ t, PG G.X e t ∧ LiftG G t F
structure DGs (G : Ctx) (e : List Expr) (F : FGs) : Prop where
  ex : ∃ t, PGs G.X e t ∧ LiftGs G t F
theorem dg_name {x : Str} (i : Nat) (hN : G.X.N.Nodup) (hi : G.X.N[i]? = some x := by rfl) (hx : Loc G.X.env.scope x := by first | exact Or.inl rfl | exact Or.inr rfl) (hf : G.X.fn x = true ∨ G.X.env.scope.names.lookup x = some .local := by first | exact .inl rfl | exact .inr rfl) : DG G (.Name x pos) (fun d ρ P => P (ρ.set i (.d d))) :=
  ⟨⟨gName i, pg_name hN hi hx hf, fun S σ H ρ d v P Q g hv h q => q _ _ (g.set hv) h⟩⟩
theorem dgs_nil : DGs G [] (fun ds ρ P => ds = [] ∧ P ρ) := ⟨⟨gNil, pgs_nil, fun S σ H ρ d v P Q g hv h q => by
  obtain ⟨rfl, h⟩ := h
  exact ⟨hv, q σ ρ g h⟩⟩⟩
def consD {α : Type} (ds : List α) (P : α → List α → Prop) : Prop := match ds with
  | d :: r => P d r
  | [] => False
theorem dgs_cons {e : Expr} {es : List Expr} {F : FG} {F' : FGs} (h1 : DG G e F) (h2 : DGs G es F') (hs : (assignEach (e :: es) G.X.env).map (·.2) = assign e G.X.env :: (assignEach es G.X.env).map (·.2) := by rfl) :
    DGs G (e :: es) (fun ds ρ P => consD ds fun d r => F d ρ fun ρ' => F' r ρ' P) := by
  obtain ⟨t, p1, l1⟩ := h1.ex
  obtain ⟨u, p2, l2⟩ := h2.ex
  refine ⟨⟨_, pgs_cons p1 p2 hs, fun S σ H ρ d v P Q g hv h q => ?_⟩⟩
  cases d with
  | nil => exact h.elim
  | cons d ds =>
    obtain ⟨x, r, rfl, h1, h2⟩ := (hv : ∃ x r, v = x :: r ∧ Dv G.X.K S H d x ∧ DvL G.X.K S H ds r)
    exact ⟨x, r, rfl, l1 S σ H ρ d x _ _ g h1 h fun σ' ρ' g' hp => l2 S σ' H ρ' ds r P Q g' h2 hp q⟩
def tupD (d : Dat) (n : Nat) (P : List Dat → Prop) : Prop := match d with
  | .tup ds => ds.length = n ∧ P ds
  | _ => False
theorem dg_tup {es : List Expr} {k : Nat} {F : FGs} (n : Nat) (hc : G.X.calm = true) (h : DGs G es F) (hn : (assignEach es G.X.env).length = n := by rfl) (hst : (assignEach es G.X.env).findIdx? (·.1) = none := by rfl) : DG G (.Tuple es k pos) (fun d ρ P => tupD d n fun ds => F ds ρ P) := by
  obtain ⟨t, p1, l1⟩ := h.ex
  refine ⟨⟨_, pg_tup hc p1 hn hst, fun S σ H ρ d v P Q g hv h q => ?_⟩⟩
  cases d with
  | tup ds =>
    obtain ⟨a, xs, rfl, e, hl⟩ := dv_tup hv
    exact ⟨a, xs, rfl, sqT_of e, by rw [hl.len]; exact h.1, l1 S σ H ρ ds xs P Q g hl h.2 q⟩
  | _ => exact h.elim
theorem ds_asg {tg e : Expr} {F : FE} {Fg : FG} (he : DE G e F) (hg : DG G tg Fg) (hs : swapsWithSole [tg] e pos.line G.X.env = pure false := by rfl) (hw : swappedStores [tg] e G.X.env = pure none := by rfl) (h1 : (assignEach [tg] G.X.env).map (·.2) = [assign tg G.X.env] := by rfl) :
    DS G (.Assign [tg] e pos) (fun D ρ => F ρ fun d => Fg d ρ D.nx) := by
  obtain ⟨t, p1, l1⟩ := he.ex
  obtain ⟨u, p2, l2⟩ := hg.ex
  refine ⟨⟨_, ps_asg p1 p2 hs hw h1, fun S σ H ρ D Dh g h q => ?_⟩⟩
  refine l1 S σ H ρ _ _ g h fun v d H1 st hv hp => ?_
  have g1 := g.step st
  exact l2 S σ H1 ρ d v _ _ g1 hv hp fun σ' ρ' g' hp => q.nx S σ' H1 ρ' g' (st.fr g) hp
end
end DL
namespace DL
open PySem PySem.Spec PyProof.Rows L2
section
variable {G : Ctx} {S S' : Addr → Prop} {σ : L2.St} {H H' : Hp} {ρ : List Slot} {pos : Pos} {a b : Expr} {Fa Fb : FE}
/-! ### what is walked -/
structure WalkOk (G : Ctx) (J : It) (items : List Dat) (S : Addr → Prop) (H1 : Hp) : Prop where
  go : ∀ i S' H', i < items.length → Fr S H1 S' H' → J.go i H'
  yld : ∀ i d S' σ' ρ' H' x H2, items[i]? = some d → Gd G S' σ' H' ρ' → Fr S H1 S' H' → J.yld i H' x H2 → Stp G H' H2 ∧ Dv G.X.K S' H2 d x
  stop : ∀ S' H', Fr S H1 S' H' → J.stop items.length H'
abbrev FI := List Slot → (List Dat → Prop) → Prop
def LiftI (G : Ctx) (w : TI) (F : FI) : Prop := ∀ S σ H ρ P (R : It → Hp → Prop), Gd G S σ H ρ → F ρ P → (∀ J items H1, Stp G H H1 → WalkOk G J items S H1 → P items → R J H1) → w σ H R
structure DI (G : Ctx) (tg iter : Expr) (F : FI) : Prop where
  ex : ∃ w, PI G.X tg iter w ∧ LiftI G w F
/-- a list or a tuple -/
def iSeq (K : PySem.W.Frag) (tl : TE) : TI := fun σ H R => tl σ H fun x H1 => ∃ a, x = .ref a ∧ (((∃ xs, SqL K H1 a xs) ∧ R (Itl K a) H1) ∨ ((∃ xs, SqT K H1 a xs) ∧ R (Itt K a) H1))
theorem pi_seq {X : Cx} {tg l : Expr} {tl : TE} (hl : PE X l tl) : PI X tg l (iSeq X.K tl) := by
  refine ⟨fun pins s σ H R I h => ?_⟩
  refine thn (hl.run pins s σ H _ I h) fun v s1 ⟨x, H1, I1, r1, q1⟩ => ?_
  obtain ⟨a, e, q⟩ := q1
  subst e
  cases r1
  have fp : ∀ b ∈ [s1.heap.objs.size], FpOk X pins H1 b := fun b hb => by
    have e : b = s1.heap.objs.size := by simpa using hb
    subst e
    exact I1.fpOk (Nat.le_refl _) (I1.hok.fresh (Nat.le_refl _))
  rcases q with ⟨⟨xs, hq⟩, q⟩ | ⟨⟨xs, hq⟩, q⟩
  · obtain ⟨its, rv, p, hz⟩ := I1.list hq
    refine wpAny_pyIter_list p.isList ?_
    exact ⟨s1.heap.objs.size, [s1.heap.objs.size], _, _, H1, rfl, I1.kept (t' := s1.toks) fun b o e => Heap.get?_push_of_some _ e, turn_list a _, ⟨_, Heap.get?_push_size _ rfl, rfl, rfl⟩, fp, q⟩
  · obtain ⟨its, rv, p, hz⟩ := I1.tuple hq
    refine wpAny_pyIter_tuple (show s1.heap.IsTuple a its.toArray from p) ?_
    exact ⟨s1.heap.objs.size, [s1.heap.objs.size], _, _, H1, rfl, I1.kept (t' := s1.toks) fun b o e => Heap.get?_push_of_some _ e, turn_tuple a _, ⟨_, Heap.get?_push_size _ rfl, rfl, rfl⟩, fp, q⟩
theorem frT {K : PySem.W.Frag} {S' : Addr → Prop} {H1 : Hp} {a : Addr} {xs : List V} (fr : Fr S H1 S' H') (e : (¬ S a ∧ H1 a = some (.tup xs)) ∨ WrT K a xs) : SqT K H' a xs := by
  rcases e with ⟨n, e⟩ | e
  · exact .inl (.inl (fr a _ n e).2)
  · exact .inr e
theorem walk_lst {xs : List V} {ds : List Dat} {p : Addr} (n : ¬ S p) (e : H p = some (.lst xs)) (hl : DvL G.X.K S H ds xs) : WalkOk G (Itl G.X.K p) ds S H := by
  refine ⟨fun i S' H' hi fr => ?_, fun i d S' σ' ρ' H' x H2 hd g fr y => ?_, fun S' H' fr => ⟨xs, .inl (.inl (fr p _ n e).2), by rw [hl.len]; exact Nat.le_refl _⟩⟩
  · obtain ⟨v, ev, _⟩ := hl.get (List.getElem?_eq_getElem hi)
    exact ⟨xs, v, .inl (.inl (fr p _ n e).2), ev⟩
  · obtain ⟨rfl, y⟩ := y
    obtain ⟨v, ev, hv⟩ := hl.get hd
    cases ev.symm.trans (y xs (.inl (.inl (fr p _ n e).2)))
    exact ⟨Stp.refl g.wld, hv.move fr⟩
theorem walk_tup {xs : List V} {ds : List Dat} {p : Addr} (e : (¬ S p ∧ H p = some (.tup xs)) ∨ WrT G.X.K p xs) (hl : DvL G.X.K S H ds xs) : WalkOk G (Itt G.X.K p) ds S H := by
  refine ⟨fun i S' H' hi fr => ?_, fun i d S' σ' ρ' H' x H2 hd g fr y => ?_, fun S' H' fr => ⟨xs, frT fr e, by rw [hl.len]; exact Nat.le_refl _⟩⟩
  · obtain ⟨v, ev, _⟩ := hl.get (List.getElem?_eq_getElem hi)
    exact ⟨xs, v, frT fr e, ev⟩
  · obtain ⟨rfl, y⟩ := y
    obtain ⟨v, ev, hv⟩ := hl.get hd
    cases ev.symm.trans (y xs (frT fr e))
    exact ⟨Stp.refl g.wld, hv.move fr⟩
theorem di_seq {tg : Expr} (ha : DE G a Fa) : DI G tg a (fun ρ P => Fa ρ fun x => seqOf x P) := by
  obtain ⟨t, h1, l1⟩ := ha.ex
  refine ⟨⟨_, pi_seq h1, fun S σ H ρ P R g h q => ?_⟩⟩
  refine l1 S σ H ρ _ _ g h fun v d H1 st hv hp => ?_
  cases d with
  | lst ds =>
    obtain ⟨p, xs, rfl, n, e, hl⟩ := dv_lst hv
    exact ⟨p, rfl, .inl ⟨⟨xs, .inl (.inl e)⟩, q _ ds H1 st (walk_lst n e hl) hp⟩⟩
  | tup ds =>
    obtain ⟨p, xs, rfl, e, hl⟩ := dv_tup hv
    exact ⟨p, rfl, .inr ⟨⟨xs, sqT_of e⟩, q _ ds H1 st (walk_tup e hl) hp⟩⟩
  | _ => exact hp.elim
/-- a text, sign by sign -/
def signs (z : Str) : List Dat := z.cps.toList.map fun c => .str ⟨#[c]⟩
theorem di_str {tg : Expr} (ha : DE G a Fa) : DI G tg a (fun ρ P => Fa ρ fun x => isS x fun z => P (signs z)) := by
  obtain ⟨t, h1, l1⟩ := ha.ex
  refine ⟨⟨_, pi_str h1, fun S σ H ρ P R g h q => ?_⟩⟩
  refine l1 S σ H ρ _ _ g h fun v d H1 st hv hp => ?_
  obtain ⟨z, rfl, hp⟩ := isS_inv hp
  cases dv_str hv
  refine ⟨z, rfl, q _ (signs z) H1 st ⟨fun i S' H' hi _ => ?_, fun i d S' σ' ρ' H' x H2 hd g fr y => ?_, fun S' H' _ => ?_⟩ hp⟩
  · have h2 : i < z.cps.size := by simpa [signs] using hi
    exact h2
  · obtain ⟨rfl, c, ec, rfl⟩ := y
    rw [signs, List.getElem?_map, Array.getElem?_toList, ec] at hd
    cases hd
    exact ⟨Stp.refl g.wld, rfl⟩
  · simp [signs, Its]
/-- range(n) -/
def rints (lo : Int) (n : Nat) : List Dat := (List.range n).map fun (i : Nat) => .int (lo + (i : Int))
theorem walk_rng {lo : Int} {n : Nat} : WalkOk G (Itr lo n) (rints lo n) S H := by
  refine ⟨fun i S' H' hi _ => by simpa [rints, Itr] using hi, fun i d S' σ' ρ' H' x H2 hd g fr y => ?_, fun S' H' _ => by simp [rints, Itr]⟩
  obtain ⟨rfl, rfl⟩ := y
  rw [rints, List.getElem?_map] at hd
  cases e : (List.range n)[i]? with
  | none => rw [e] at hd; cases hd
  | some j =>
    rw [e] at hd
    cases hd
    have hj : j = i := by
      obtain ⟨h1, h2⟩ := List.getElem?_eq_some_iff.mp e
      rw [List.getElem_range] at h2; exact h2.symm
    subst hj
    exact ⟨Stp.refl g.wld, rfl⟩
def int1 (ds : List Dat) (P : Int → Prop) : Prop := match ds with
  | [.int i] => P i
  | _ => False
def int2 (ds : List Dat) (P : Int → Int → Prop) : Prop := match ds with
  | [.int i, .int j] => P i j
  | _ => False
theorem di_range1 {tg : Expr} {p : Pos} {Fs : FA} (hm : G.X.mg "range" = none) (ha : DA G [a] Fs) (hg : Gl G.X "range" := by rfl) (hs : starEach [a] G.X.env = [(false, eval a G.X.env)] := by rfl) : DI G tg (.Call (.Name "range" p) [a] [] pos) (fun ρ P => Fs ρ fun ds => int1 ds fun n => (-(2 ^ 62) ≤ n ∧ n < 2 ^ 62) ∧ P (rints 0 n.toNat)) := by
  obtain ⟨t, h1, l1⟩ := ha.ex
  refine ⟨⟨_, pi_range1 hg hm h1 hs, fun S σ H ρ P R g h q => ?_⟩⟩
  refine l1 S σ H ρ _ _ g h fun vs ds H1 st hv hp => ?_
  unfold int1 at hp
  split at hp
  · obtain ⟨v, rfl, hd⟩ := dvl1 hv
    cases dv_int hd
    exact ⟨_, rfl, hp.1.1, hp.1.2, q _ _ H1 st walk_rng hp.2⟩
  · exact hp.elim
theorem di_range2 {tg : Expr} {p : Pos} {Fs : FA} (hm : G.X.mg "range" = none) (ha : DA G [a, b] Fs) (hg : Gl G.X "range" := by rfl) (hs : starEach [a, b] G.X.env = [(false, eval a G.X.env), (false, eval b G.X.env)] := by rfl) (hs2 : starEach [b] G.X.env = [(false, eval b G.X.env)] := by rfl) : DI G tg (.Call (.Name "range" p) [a, b] [] pos) (fun ρ P => Fs ρ fun ds => int2 ds fun m n => (-(2 ^ 62) ≤ m ∧ m < 2 ^ 62 ∧ -(2 ^ 62) ≤ n ∧ n < 2 ^ 62) ∧ P (rints m (n - m).toNat)) := by
  obtain ⟨t, h1, l1⟩ := ha.ex
  refine ⟨⟨_, pi_range2 hg hm h1 hs hs2, fun S σ H ρ P R g h q => ?_⟩⟩
  refine l1 S σ H ρ _ _ g h fun vs ds H1 st hv hp => ?_
  unfold int2 at hp
  split at hp
  · obtain ⟨v, w, rfl, hd, he⟩ := dvl2 hv
    cases dv_int hd; cases dv_int he
    exact ⟨_, _, rfl, hp.1, q _ _ H1 st walk_rng hp.2⟩
  · exact hp.elim
/-! ### for -/
/-! ### comprehensions -/
/-- the frame of a comprehension -/
abbrev Ctx.blk (G : Ctx) (s : Shared) (H : Hp) (scope : Scope) (cenv : Env) (fp : List Addr) : Ctx := { G with X := G.X.blk s H scope cenv fp }
theorem Gd.blk {s : Shared} {H9 : Hp} {scope : Scope} {cenv : Env} {fp : List Addr} (g : Gd G S σ H ρ) : Gd (G.blk s H9 scope cenv fp) S σ H ρ := ⟨g.wld, g.all, g.sub, g.len, g.slots, g.apart⟩
def compF (Fg : FG) (Ft : FT) (Fe : FE) (ρ : List Slot) : List Dat → List Dat → (List Dat → Prop) → Prop
  | [], acc, P => P acc
  | d :: ds, acc, P => Fg d ρ fun ρ2 => Ft ρ2 fun b => if b = true then Fe ρ2 fun y => acc.length < sizeLine ∧ compF Fg Ft Fe ρ ds (acc ++ [y]) P else compF Fg Ft Fe ρ ds acc P
structure DTs (G : Ctx) (ifs : List Expr) (F : FT) : Prop where
  ex : ∃ t, PTs G.X ifs t ∧ LiftT G t F
theorem dts_nil : DTs G [] (fun _ P => P true) := ⟨⟨_, pts_nil, fun _ _ H _ _ _ g h q => q true H (Stp.refl g.wld) h⟩⟩
theorem dts_one {F : FT} (h : DT G a F) : DTs G [a] F := by
  obtain ⟨t, h, l⟩ := h.ex
  exact ⟨⟨_, pts_one h, l⟩⟩
/-- the weakest readings -/
def tW (G : Ctx) (F : FE) : TE := fun σ H Q => ∃ S ρ P, Gd G S σ H ρ ∧ F ρ P ∧ ∀ v d H', Stp G H H' → Dv G.X.K S H' d v → P d → Q v H'
def tTW (G : Ctx) (F : FT) : TT := fun σ H Q => ∃ S ρ P, Gd G S σ H ρ ∧ F ρ P ∧ ∀ b H', Stp G H H' → P b → Q b H'
theorem Stp.unblk {s : Shared} {H9 : Hp} {scope : Scope} {cenv : Env} {fp : List Addr} (g : Stp (G.blk s H9 scope cenv fp) H H') : Stp G H H' := ⟨g.wld, g.keep, g.has⟩
theorem DE.blk {e : Expr} {F : FE} {s : Shared} {H9 : Hp} {scope : Scope} {cenv : Env} {fp : List Addr} (h : DE (G.blk s H9 scope cenv fp) e F) : PE (G.X.blk s H9 scope cenv fp) e (tW G F) := by
  obtain ⟨t, h, l⟩ := h.ex
  refine ⟨fun pins s' σ H Q I ⟨S, ρ, P, g, hf, q⟩ => h.run pins s' σ H Q I (l S σ H ρ P Q g.blk hf fun v d H' st => q v d H' st.unblk)⟩
theorem DTs.blk {e : List Expr} {F : FT} {s : Shared} {H9 : Hp} {scope : Scope} {cenv : Env} {fp : List Addr} (h : DTs (G.blk s H9 scope cenv fp) e F) : PTs (G.X.blk s H9 scope cenv fp) e (tTW G F) := by
  obtain ⟨t, h, l⟩ := h.ex
  refine ⟨fun pins s' σ H Q I ⟨S, ρ, P, g, hf, q⟩ => h.run pins s' σ H Q I (l S σ H ρ P Q g.blk hf fun b H' st => q b H' st.unblk)⟩
/-- the new list changes; nothing else sees it -/
theorem Gd.acc {D : Addr} {o : HO} (g : Gd G S' σ H ρ) (sd : S' D) (h0 : G.H0 D = none) (hx : ∀ φ, H D ≠ some (.ext φ)) (hn : ∀ (i : Nat) (s : Slot), ρ[i]? = some s → s.isOwn = true → σ[i]? ≠ some (some (.ref D))) : Gd G S' σ (upd H D o) ρ ∧ Fr S' H S' (upd H D o) := by
  have fr : Fr S' H S' (upd H D o) := fun b u n e => ⟨n, by rw [upd_ne (fun z => n (by rw [z]; exact sd))]; exact e⟩
  refine ⟨⟨G.clo H _ g.wld (fun b u u0 e e' => by rw [upd_ne (fun z => by rw [z, h0] at e; cases e)]; exact e') (keepX_upd hx), fun b hb => ?_, g.sub, g.len, fun i s hs => (g.slots i s hs).move fr (fun _ z => z) fun b u ob eb e => ?_, g.apart⟩, fr⟩
  · by_cases hbp : b = D
    · exact ⟨o, by rw [hbp]; exact upd_same⟩
    · obtain ⟨u, e⟩ := g.all b hb
      exact ⟨u, by rw [upd_ne hbp]; exact e⟩
  · have hne : b ≠ D := fun z => by
      subst z
      refine hn i s hs ob ?_
      cases ee : σ[i]? with
      | none => rw [ee] at eb; cases eb
      | some o => rw [ee] at eb; cases eb; rfl
    rw [upd_ne hne]; exact e
theorem lift_lc {w : TI} {F : FI} {Ft : FT} {Fe : FE} (j : Nat) (lw : LiftI G w F) :
    ∀ S σ H ρ P (Q : VK), Gd G S σ H ρ → (F ρ fun items => compF (fun d ρ P => P (ρ.set j (.d d))) Ft Fe (ρ.set j .un) items [] P) → (∀ p xs ds H', H p = none → Stp G H H' → H' p = some (.lst xs) → DvL G.X.K (fun a => S a ∨ a = p) H' ds xs → P ds → Q (.ref p) H') → tLc w (gName j) (tTW G Ft) (tW G Fe) [j] σ H Q := by
  intro S σ H ρ P Q gd h q
  refine lw S σ H ρ _ _ gd h fun J items H1 st wk hp D nD => ?_
  have g1 := gd.step st
  have gw : Gd G S (σ.set j none) H1 (ρ.set j .un) := g1.wipe
  have nS : ¬ S D := g1.fresh nD
  have nS0 : ¬ G.S0 D := fun z => nS (gd.sub D z)
  have h0 : G.H0 D = none := g1.fresh0 nD
  have ndH : H D = none := by
    cases e : H D with
    | none => rfl
    | some o =>
      obtain ⟨o', e'⟩ := st.has D o e
      rw [nD] at e'; cases e'
  obtain ⟨g2, fr2⟩ := gw.grow (o := .lst []) nD
  have hn : ∀ (i : Nat) (s : Slot), (ρ.set j .un)[i]? = some s → s.isOwn = true → (σ.set j none)[i]? ≠ some (some (.ref D)) := fun i s hs ho e => by
    have k := gw.slots i s hs
    rw [e] at k
    obtain ⟨a, u, e1, _, e2, _⟩ := SlotOk.addr k ho
    cases e1
    rw [nD] at e2; cases e2
  have wipe1 : L2.wipe σ [j] = σ.set j none := rfl
  have hn2 : ∀ (d : Dat) (x : V) (i : Nat) (s : Slot), ((ρ.set j .un).set j (.d d))[i]? = some s → s.isOwn = true → ((σ.set j none).set j (some x))[i]? ≠ some (some (.ref D)) := fun d x i s hs ho => by
    by_cases hi : i = j
    · subst hi
      rw [getset, if_pos rfl] at hs
      split at hs
      · cases hs; cases ho
      · cases hs
    · rw [getset, if_neg hi] at hs
      rw [getset, if_neg hi]
      exact hn i s hs ho
  let Pv : Nat → Hp → Prop := fun i H' => ∃ acc dacc, H' D = some (.lst acc) ∧ DvL G.X.K (fun a => S a ∨ a = D) H' dacc acc ∧ Gd G (fun a => S a ∨ a = D) (σ.set j none) H' (ρ.set j .un) ∧ Fr S H1 (fun a => S a ∨ a = D) H' ∧ Stp G H H' ∧
    compF (fun d ρ P => P (ρ.set j (.d d))) Ft Fe (ρ.set j .un) (items.drop i) dacc P
  refine ⟨fun i m H' => m = items.length - i ∧ i ≤ items.length ∧ Pv i H', ⟨items.length, rfl, Nat.zero_le _, [], [], upd_same, rfl, g2, fr2, st.trans (Stp.new g1.wld nD), hp⟩, ?_⟩
  rintro i m H' ⟨rfl, hi, acc, dacc, eD, hacc, g', fr, st', hf⟩
  by_cases hlt : i < items.length
  · refine .inr ⟨wk.go i _ H' hlt fr, Pv (i + 1), fun H2 p => ⟨items.length - (i + 1), by omega, rfl, hlt, p⟩, fun x H2 y => ?_⟩
    obtain ⟨s2, hd⟩ := wk.yld i _ _ _ _ H' x H2 (List.getElem?_eq_getElem hlt) g' fr y
    have g3 := g'.step s2
    rw [List.drop_eq_getElem_cons hlt] at hf
    rw [wipe1]
    refine ⟨by show ((σ.set j none).set j (some x)).set j none = σ.set j none; rw [List.set_set, List.set_set], ?_⟩
    have gx : Gd G (fun a => S a ∨ a = D) ((σ.set j none).set j (some x)) H2 ((ρ.set j .un).set j (.d items[i])) := g3.set hd
    refine ⟨_, _, _, gx, hf, fun b H3 st3 hb => ?_⟩
    have s13 := s2.trans st3
    cases b with
    | false =>
      exact ⟨acc, dacc, s13.keep D _ nS0 eD, s13.dvl g' hacc, g'.step s13, fr.trans (s13.fr g'), st'.trans s13, hb⟩
    | true =>
      refine ⟨_, _, _, gx.step st3, hb, fun v d H4 st4 hv ⟨hz, hc⟩ => ?_⟩
      have s14 := s13.trans st4
      have g4 := g'.step s14
      have eD4 := s14.keep D _ nS0 eD
      obtain ⟨g5, fr5⟩ := g4.acc (o := .lst (acc ++ [v])) (.inr rfl) h0 (fun φ z => by rw [eD4] at z; cases z) hn
      have hacc4 := s14.dvl g' hacc
      refine ⟨acc, eD4, by rw [hacc4.len]; exact hz, acc ++ [v], dacc ++ [d], upd_same, (hacc4.append (es := [d]) (us := [v]) ⟨v, [], rfl, hv, rfl⟩).move fr5, g5, (fr.trans (s14.fr g')).trans fr5, ?_, hc⟩
      have ss := st'.trans s14
      refine ⟨g5.wld, fun a o n e => ?_, fun a o e => ?_⟩
      · rw [upd_ne (ne_of_none e ndH)]; exact ss.keep a o n e
      · obtain ⟨o', e'⟩ := ss.has a o e
        exact ⟨o', by rw [upd_ne (ne_of_none e ndH)]; exact e'⟩
  · have e : i = items.length := by omega
    subst e
    rw [List.drop_length] at hf
    exact .inl ⟨wk.stop _ H' fr, q D acc dacc H' ndH st' eD hacc hf⟩
abbrev gNm (j : Nat) : FG := fun d ρ P => P (ρ.set j (.d d))
theorem de_lc {elt tg iter : Expr} {ifs : List Expr} {scope : Scope} {x : Str} (j : Nat) {F : FI} {Ft : FT} {Fe : FE} (hc : G.X.calm = true) (hN : G.X.N.Nodup) (hi : DI G tg iter F) (ok : BlkOk G.X.N G.X.env.scope scope [(x, j)])
    (hg : ∀ (s : Shared) (H : Hp) (C : Addr) (cl : List (Str × Addr)) (fp : List Addr), PG (G.X.blk s H scope (compEnvC scope cl C G.X.env) fp) tg (gName j)) (ht : ∀ (s : Shared) (H : Hp) (C : Addr) (cl : List (Str × Addr)) (fp : List Addr), DTs (G.blk s H scope (compEnvC scope cl C G.X.env) fp) ifs Ft)
    (he : ∀ (s : Shared) (H : Hp) (C : Addr) (cl : List (Str × Addr)) (fp : List Addr), DE (G.blk s H scope (compEnvC scope cl C G.X.env) fp) elt Fe) (hs : ∀ x, foldedSetIterable iter G.X.env x = pure x := by intro _; rfl) :
    DE G (.ListComp elt [⟨tg, iter, ifs, 0⟩] scope pos) (fun ρ P => F ρ fun items => compF (gNm j) Ft Fe (ρ.set j .un) items [] fun ds => P (.lst ds)) := by
  obtain ⟨w, h1, l1⟩ := hi.ex
  refine ⟨⟨_, pe_lc (own := [(x, j)]) hc hN h1 ok hg (fun s H C cl fp => (ht s H C cl fp).blk) (fun s H C cl fp => (he s H C cl fp).blk) hs, fun S σ H ρ P Q g h q => ?_⟩⟩
  refine lift_lc j l1 S σ H ρ _ Q g h fun p xs ds H' np st e hv hp => ?_
  have nS : ¬ S p := g.fresh np
  exact q _ (.lst ds) H' st ⟨p, xs, rfl, nS, e, hv.move fun a o n e => ⟨fun z => n (.inl z), e⟩⟩ hp
theorem ds_setLc {y : Str} {py spos : Pos} {elt tg iter : Expr} {ifs : List Expr} {scope : Scope} {x : Str} (i j : Nat) {F : FI} {Ft : FT} {Fe : FE} (hc : G.X.calm = true) (hN : G.X.N.Nodup) (hsw : swapsWith (.ListComp elt [⟨tg, iter, ifs, 0⟩] scope pos) (some (.Name y py)) spos.line G.X.env = pure true) (hi : DI G tg iter F) (ok : BlkOk G.X.N G.X.env.scope scope [(x, j)])
    (hg : ∀ (s : Shared) (H : Hp) (C : Addr) (cl : List (Str × Addr)) (fp : List Addr), PG (G.X.blk s H scope (compEnvC scope cl C G.X.env) fp) tg (gName j)) (ht : ∀ (s : Shared) (H : Hp) (C : Addr) (cl : List (Str × Addr)) (fp : List Addr), DTs (G.blk s H scope (compEnvC scope cl C G.X.env) fp) ifs Ft)
    (he : ∀ (s : Shared) (H : Hp) (C : Addr) (cl : List (Str × Addr)) (fp : List Addr), DE (G.blk s H scope (compEnvC scope cl C G.X.env) fp) elt Fe) (hy : G.X.N[i]? = some y := by rfl) (hyl : G.X.env.scope.names.lookup y = some .local := by rfl) (hs : ∀ x, foldedSetIterable iter G.X.env x = pure x := by intro _; rfl) :
    DS G (.Assign [.Name y py] (.ListComp elt [⟨tg, iter, ifs, 0⟩] scope pos) spos) (fun D ρ => F ρ fun items => compF (gNm j) Ft Fe (ρ.set j .un) items [] fun ds => D.nx (ρ.set i (.d (.lst ds)))) := by
  obtain ⟨w, h1, l1⟩ := hi.ex
  refine ⟨⟨_, ps_setLc (i := i) (own := [(x, j)]) hc hN hy hyl hsw h1 ok hg (fun s H C cl fp => (ht s H C cl fp).blk) (fun s H C cl fp => (he s H C cl fp).blk) hs, fun S σ H ρ D Dh g h q => ?_⟩⟩
  refine lift_lc j l1 S σ H ρ _ _ g h fun p xs ds H' np st e hv hp => ?_
  have g1 := g.step st
  have nS : ¬ S p := g.fresh np
  exact q.nx S _ H' _ (g1.set (d := .lst ds) ⟨p, xs, rfl, nS, e, hv.move fun a o n e => ⟨fun z => n (.inl z), e⟩⟩) (st.fr g) hp
end
end DL
namespace DL
open PySem PySem.Spec PyProof.Rows L2
section
variable {G : Ctx} {S S' : Addr → Prop} {σ : L2.St} {H H' : Hp} {ρ : List Slot} {pos : Pos} {a b : Expr} {Fa Fb : FE}
/-! ### lists of one's own -/
def ownL (ρ : List Slot) (i : Nat) (P : List Dat → Prop) : Prop := match ρ[i]? with
  | some (.own ds) => P ds
  | _ => False
theorem ownL_inv {ρ : List Slot} {i : Nat} {P : List Dat → Prop} (h : ownL ρ i P) : ∃ x, ρ[i]? = some (.own x) ∧ P x := by
  unfold ownL at h
  split at h
  · rename_i x e; exact ⟨x, e, h⟩
  · exact h.elim
theorem own_append {i : Nat} {ds es : List Dat} {p : Addr} {xs ys : List V} (g : Gd G S σ H ρ) (hs : ρ[i]? = some (.own ds)) (hp : σ[i]? = some (some (.ref p))) (sp : S p) (e0 : G.H0 p = none) (hl : DvL G.X.K S H ds xs) (hy : DvL G.X.K S H es ys) :
    Gd G S σ (upd H p (.lst (xs ++ ys))) (ρ.set i (.own (ds ++ es))) ∧ Fr S H S (upd H p (.lst (xs ++ ys))) := by
  have fr : Fr S H S (upd H p (.lst (xs ++ ys))) := fun b u n e => ⟨n, by rw [upd_ne (fun z => n (by rw [z]; exact sp))]; exact e⟩
  exact g.write (s' := .own (ds ++ es)) hs hp rfl rfl ⟨p, xs ++ ys, rfl, sp, e0, upd_same, (hl.append hy).move fr⟩
/-- name.append(e), the list one's own -/
theorem ds_append {x : Str} {e : Expr} {F : FE} {np apos cpos : Pos} (i : Nat) (hi : G.X.N[i]? = some x := by rfl) (hv : Vis G.X.env.scope x := by first | exact Or.inl rfl | exact Or.inr (Or.inl rfl) | exact Or.inr (Or.inr rfl)) (hd : (x == ("__debug__" : Str)) = false := by decide)
    (hcd : (x == ("__classdict__" : Str)) = false := by decide) (he : DE G e F) (hst : starEach [e] G.X.env = (false, eval e G.X.env) :: starEach [] G.X.env := by rfl)
    (hbase : attributeBase (.Name x np) "append" G.X.env (eval (.Name x np) G.X.env) = eval (.Name x np) G.X.env := by rfl)
    (hfew : ((backTo cpos (starEach [e] G.X.env)).all (fun x => !x.1) && (backToKw cpos (keywordEach [] G.X.env)).all (fun x => x.1.isSome) && decide ([e].length + ([] : List Keyword).length + (if ([] : List Keyword).isEmpty then 0 else 1) < 30)) = true := by rfl)
    (hline : (apos.endLine == cpos.line) = true := by rfl) (hplain : (backTo cpos (starEach [] G.X.env)).any (·.1) = false := by rfl) (hs : swapsWith (.Call (.Attribute (.Name x np) "append" apos) [e] [] cpos) none pos.line G.X.env = pure false := by rfl) :
    DS G (.Expr (.Call (.Attribute (.Name x np) "append" apos) [e] [] cpos) pos) (fun D ρ => ownL ρ i fun ds => F ρ fun y => ds.length < sizeLine ∧ D.nx (ρ.set i (.own (ds ++ [y])))) := by
  obtain ⟨t, h, l⟩ := he.ex
  refine ⟨⟨_, ps_expr (pe_bm PySem.F.plainAttrs_list PySem.F.slot_list_append PySem.F.type_list_append mt_append (pe_var hi hv hd hcd) (pa_cons h pa_nil hst) hbase hfew hline hst hplain) hs, fun S σ H ρ D Dh g h q => ?_⟩⟩
  obtain ⟨ds, es, hf⟩ := ownL_inv h
  obtain ⟨p, xs, e1, sp, e0, eh, hl⟩ := g.slot_own es
  refine ⟨.ref p, e1, .inl ⟨rfl, xs, .inl (.inl eh)⟩, l S σ H ρ _ _ g hf fun v d H1 st hv ⟨hz, hp⟩ => ?_⟩
  have g1 := g.step st
  obtain ⟨p', xs', e1', sp', e0', eh', hl'⟩ := g1.slot_own es
  cases e1.symm.trans e1'
  obtain ⟨g2, fr⟩ := own_append (es := [d]) (ys := [v]) g1 es e1 sp e0 hl' ⟨v, [], rfl, hv, rfl⟩
  exact ⟨p, xs', v, rfl, rfl, eh', by rw [hl'.len]; exact hz, q.nx _ _ _ _ g2 (Fr.trans (st.fr g) fr) hp⟩
/-! ### dicts -/
def getK : List Key → List Dat → Key → Option Dat
  | k0 :: ks, d0 :: ds, k => if k0 = k then some d0 else getK ks ds k
  | _, _, _ => none
/-- d[text] -/
def getD : R2D
  | .dic ks ds, .str z, P => someD (getK ks ds (Sum.inr z)) P
  | _, _, _ => False
/-- {} -/
theorem de_dnew : DE G (.Dict [] [] pos) (fun _ P => P (.dic [] [])) := by
  refine ⟨⟨_, pe_dnewK, fun S σ H ρ P Q g h q => fun p np => ?_⟩⟩
  exact q _ (.dic [] []) _ (Stp.new g.wld np) ⟨p, [], rfl, g.fresh np, upd_same, rfl, rfl⟩ h
end
end DL
namespace DL
open PySem PySem.Spec PyProof.Rows L2
/-! ### t * 1 is t -/
section
variable {X : Cx}
end
section
variable {G : Ctx} {S S' : Addr → Prop} {σ : L2.St} {H H' : Hp} {ρ : List Slot} {pos : Pos} {a b : Expr} {Fa Fb : FE}
/-! ### written dicts with text keys -/
/-! ### a def by its name -/
structure Callee (P : Program) (w : World) (K : PySem.W.Frag) (mg : Str → Option Value) (base : Heap) (x : Str) (k : Nat) (ps : List Str) (C : Con) : Prop where
  ex : ∃ f fd, FnOk P w K mg base CX0 k f fd ps (spD K C) ∧ mg x = some (.ref f) ∧ PySem.W.keepIn K (.ref f) = true ∧ Binds K fd ps []
theorem de_fn {x : Str} {k m : Nat} {ps : List Str} {C : Con} {p : Pos} {e : Expr} {es : List Expr} {Fs : FA} (h : Callee G.X.prog G.X.w G.X.K G.X.mg G.X.base x k ps C) (hr : Room m G.X.A) (ha : DA G (e :: es) Fs) (hk : k ≤ m := by decide) (hg : Gl G.X x := by rfl) (hdb : (x == ("__debug__" : Str)) = false := by decide)
    (he : starEach (e :: es) G.X.env = (false, eval e G.X.env) :: starEach es G.X.env := by rfl) (hpl : (backTo pos (starEach es G.X.env)).any (·.1) = false := by rfl) :
    DE G (.Call (.Name x p) (e :: es) [] pos) (fun ρ P => Fs ρ fun ds => C.C ds P (fun _ => False)) := by
  obtain ⟨f, fd, F, hm, hkp, hb⟩ := h.ex
  exact de_call F (hr.mono hk) hg hm hkp hb ha hdb he hpl
/-- the built-ins that a text uses, by their own names -/
structure Bt (mg : Str → Option Value) : Prop where
  type : mg "type" = none
  tuple : mg "tuple" = none
  str : mg "str" = none
  int : mg "int" = none
  list : mg "list" = none
  len : mg "len" = none
  min : mg "min" = none
  zip : mg "zip" = none
  range : mg "range" = none
  all : mg "all" = none
  sorted : mg "sorted" = none
  dict : mg "dict" = none
  isinstance : mg "isinstance" = none
  bool : mg "bool" = none
  repr : mg "repr" = none
  enumerate : mg "enumerate" = none
def CI (mg : Str → Option Value) (x : Str) (i : Int) : Prop := ∃ t, mg x = some (.int i t)
theorem de_ci {x : Str} {i : Int} (h : CI G.X.mg x i) (hg : Gl G.X x := by rfl) (hd : (x == ("__debug__" : Str)) = false := by decide) : DE G (.Name x pos) (fun _ P => P (.int i)) := by
  obtain ⟨t, h⟩ := h
  exact de_glob hg h (v := .int i) ⟨t, rfl⟩ (fun _ _ => rfl) hd
/-- a written tuple of texts -/
structure CT (K : PySem.W.Frag) (mg : Str → Option Value) (x : Str) (d : Dat) : Prop where
  ex : ∃ a, mg x = some (.ref a) ∧ ∀ S H, Dv K S H d (.ref a)
theorem de_ctup {x : Str} {d : Dat} (h : CT G.X.K G.X.mg x d) (hg : Gl G.X x := by rfl) (hd : (x == ("__debug__" : Str)) = false := by decide) : DE G (.Name x pos) (fun _ P => P d) := by
  obtain ⟨a, h, hv⟩ := h.ex
  exact de_glob hg h (v := .ref a) rfl hv hd
end
end DL
namespace DL
open PySem PySem.Spec PyProof.Rows L2
section
variable {G : Ctx} {S S' : Addr → Prop} {σ : L2.St} {H H' : Hp} {ρ : List Slot} {pos : Pos} {a b c : Expr} {Fa Fb Fc : FE}
/-- <= of ints, of texts -/
def leD : R2D
  | .int i, .int j, P => P (.bl (decide (i ≤ j)))
  | .str x, .str y, P => P (.bl (!decide (y.cps.toList < x.cps.toList)))
  | _, _, _ => False
theorem serves_le : Serves G (fun x y H Q => rI0 (fun i j => .bl (decide (i ≤ j))) x y H Q ∨ (∃ i j, x = .str i ∧ y = .str j ∧ Q (.bl (!decide (j.cps.toList < i.cps.toList))) H)) leD := by
  intro S σ ρ H x y dx dy P Q g hx hy h q
  cases dx with
  | int i =>
    cases dy with
    | int j => exact .inl ⟨i, j, hx, hy, q _ (.bl _) H (Stp.refl g.wld) rfl h⟩
    | _ => exact h.elim
  | str i =>
    cases dy with
    | str j => exact .inr ⟨i, j, hx, hy, q _ (.bl _) H (Stp.refl g.wld) rfl h⟩
    | _ => exact h.elim
  | _ => exact h.elim
theorem lift_chain {r r' : R2} {D D' : R2D} {ta tb tc : TE} (hr : Serves G r D) (hr' : Serves G r' D') (la : LiftE G ta Fa) (lb : LiftE G tb Fb) (lc : LiftE G tc Fc) :
    LiftE G (tChain r r' ta tb tc) (fun ρ P => Fa ρ fun x => Fb ρ fun y => D x y fun z => isB z fun k => if k = true then Fc ρ fun w => D' y w P else P (.bl false)) := by
  intro S σ H ρ P Q g h q
  refine la S σ H ρ _ _ g h fun v d H1 st hv h' => ?_
  have g1 := g.step st
  refine lb S σ H1 ρ _ _ g1 h' fun v2 d2 H2 st2 hv2 hp => ?_
  have g2 := g1.step st2
  refine hr S σ ρ H2 v v2 d d2 _ _ g2 (st2.dv g1 hv) hv2 hp fun v3 d3 H3 st3 hv3 hp => ?_
  obtain ⟨k, rfl, hp⟩ := isB_inv hp
  refine ⟨k, hv3, ?_⟩
  have g3 := g2.step st3
  have s13 := (st.trans st2).trans st3
  cases k with
  | true =>
    refine lc S σ H3 ρ _ _ g3 hp fun v4 d4 H4 st4 hv4 hp => ?_
    exact hr' S σ ρ H4 v2 v4 d2 d4 P Q (g3.step st4) (st4.dv g3 (st3.dv g2 hv2)) hv4 hp fun v5 d5 H5 st5 => q v5 d5 H5 ((s13.trans st4).trans st5)
  | false => exact q _ (.bl false) H3 s13 rfl hp
theorem de_chain_le (ha : DE G a Fa) (hb : DE G b Fb) (hc : DE G c Fc) (hm : lastMarks [CmpOp.LtE, CmpOp.LtE] [b, c] = false := by rfl) : DE G (.Compare a [.LtE, .LtE] [b, c] pos) (fun ρ P => Fa ρ fun x => Fb ρ fun y => leD x y fun z => isB z fun k => if k = true then Fc ρ fun w => leD y w P else P (.bl false)) := by
  obtain ⟨ta, h1, l1⟩ := ha.ex
  obtain ⟨tb, h2, l2⟩ := hb.ex
  obtain ⟨tc, h3, l3⟩ := hc.ex
  exact ⟨⟨_, pe_chain (.or op_le op_le_str) (.or op_le op_le_str) h1 h2 h3 hm, lift_chain serves_le serves_le l1 l2 l3⟩⟩
/-- -a -/
def negD (d : Dat) (P : Dat → Prop) : Prop := match d with
  | .int i => P (.int (-i))
  | _ => False
theorem de_neg (ha : DE G a Fa) : DE G (.UnaryOp .USub a pos) (fun ρ P => Fa ρ fun x => negD x P) := by
  obtain ⟨t, h, l⟩ := ha.ex
  refine ⟨⟨_, pe_un un_neg h, fun S σ H ρ P Q g h q => ?_⟩⟩
  refine l S σ H ρ _ _ g h fun v d H1 st hv hp => ?_
  cases d with
  | int i => exact ⟨i, hv, q _ (.int (-i)) H1 st rfl hp⟩
  | _ => exact hp.elim
/-- x += e, ints -/
theorem ds_augI {x : Str} {e : Expr} {F : FE} {pos' : Pos} (i : Nat) (he : DE G e F) (hN : G.X.N.Nodup) (hi : G.X.N[i]? = some x := by rfl) (hx : Loc G.X.env.scope x := by first | exact Or.inl rfl | exact Or.inr rfl) (hf : G.X.fn x = true ∨ G.X.env.scope.names.lookup x = some .local := by first | exact .inl rfl | exact .inr rfl) :
    DS G (.AugAssign (.Name x pos') .Add e pos) (fun D ρ => rd ρ i fun x => F ρ fun y => int0 (fun i j => .int (i + j)) x y fun z => D.nx (ρ.set i (.d z))) := by
  obtain ⟨t, h, l⟩ := he.ex
  refine ⟨⟨_, ps_aug (i := i) hN hi hx h ip_add hf, fun S σ H ρ D Dh g h q => ?_⟩⟩
  obtain ⟨d, e, hp⟩ := rd_inv h
  obtain ⟨v, e1, hv⟩ := g.slot_d e
  refine ⟨v, e1, l S σ H ρ _ _ g hp fun w d2 H1 st hw hp => ?_⟩
  have g1 := g.step st
  cases d with
  | int i1 =>
    cases d2 with
    | int j1 =>
      cases dv_int hv; cases dv_int hw
      exact ⟨i1, j1, rfl, rfl, q.nx _ _ _ _ (g1.set (d := .int (i1 + j1)) (v := .int (i1 + j1)) rfl) (st.fr g) hp⟩
    | _ => exact hp.elim
  | _ => exact hp.elim
/-- a, b = e1, e2 -/
def two {α : Type} (ds : List α) (P : α → α → Prop) : Prop := match ds with
  | [x, y] => P x y
  | _ => False
theorem ds_par {x y : Str} {Fs : FA} {px py pt : Pos} {kt k2 pt2} (i j : Nat) (ha : DA G [a, b] Fs) (hN : G.X.N.Nodup) (hc : G.X.calm = true := by rfl) (hi : G.X.N[i]? = some x := by rfl) (hj : G.X.N[j]? = some y := by rfl) (hij : i ≠ j := by decide)
    (hx : G.X.env.scope.names.lookup x = some .local := by rfl) (hy : G.X.env.scope.names.lookup y = some .local := by rfl)
    (hw : swappedStores [.Tuple [.Name x px, .Name y py] kt pt] (.Tuple [a, b] k2 pt2) G.X.env = pure (some [x, y]) := by rfl)
    (hs : swapsWithSole [.Tuple [.Name x px, .Name y py] kt pt] (.Tuple [a, b] k2 pt2) pos.line G.X.env = pure false := by rfl) :
    DS G (.Assign [.Tuple [.Name x px, .Name y py] kt pt] (.Tuple [a, b] k2 pt2) pos) (fun D ρ => Fs ρ fun ds => two ds fun d e => D.nx ((ρ.set i (.d d)).set j (.d e))) := by
  obtain ⟨t, h, l⟩ := ha.ex
  refine ⟨⟨_, ps_par hc hN hi hj hij hx hy h hw hs, fun S σ H ρ D Dh g h q => ?_⟩⟩
  refine l S σ H ρ _ _ g h fun vs ds H1 st hv hp => ?_
  unfold two at hp
  split at hp
  · obtain ⟨v, w, rfl, h1, h2⟩ := dvl2 hv
    exact ⟨v, w, rfl, q.nx _ _ _ _ (((g.step st).set h1).set h2) (st.fr g) hp⟩
  · exact hp.elim
end
end DL
namespace DL
open PySem PySem.Spec PyProof.Rows L2
theorem slot_type_ne : PySem.Slot "type" (cmpInfo .NotEq).2.1 "object.__ne__" :=
  .of (owner := "object") (n := "__ne__") (by rw [typeLookup_type, builtinLookup_eq_fast]; kernel_rfl) (by decide +kernel) (by decide +kernel) (by decide +kernel)
    (by first | exact .inl (by decide +kernel) | exact .inr (by decide +kernel)) (by rw [isSubtype_type]; kernel_rfl)
theorem slot_type_ne_refl : PySem.Slot "type" (cmpInfo .NotEq).2.2 "object.__ne__" :=
  .of (owner := "object") (n := "__ne__") (by rw [typeLookup_type, builtinLookup_eq_fast]; kernel_rfl) (by decide +kernel) (by decide +kernel) (by decide +kernel)
    (by first | exact .inl (by decide +kernel) | exact .inr (by decide +kernel)) (by rw [isSubtype_type]; kernel_rfl)
theorem meets_ne_same {X : String} : Meets (Builtin.«object.__ne__» ⟨[.type X, .type X], []⟩) (fun _ R s => s.TypeIs (.type X) "type" ∧ R (.ok (.ret (.bool false))) s) :=
  .of_wp fun prog w A R s h => by
    obtain ⟨hT, h⟩ := h
    unfold Builtin.«object.__ne__»
    simp only [slotArgs]
    refine wpAny_bind (wpAny_pure ?_)
    refine wpAny_bind (wpAny_cRoomFor_or (.inl rfl) ?_)
    refine wpAny_bind (wpAny_callSpecialIfBound?_slot (T := "type") hT TypeEq.slot_type_eq (call_gives TypeEq.slot_type_eq hT F.entry_object_eq (F.args_object_eq_2 _ _) (TypeEq.object_eq_same rfl (by simp)) ?_))
    show wpAny (model prog w) A.in1 (truthy (.bool true) >>= fun b => ret (.bool !b)) _ _ s
    exact wpAny_bind (wpAny_truthy_bool (wpAny_pure ⟨_, rfl, h⟩))
theorem meets_ne_other {X Y : String} (hne : (Value.type X == Value.type Y) = false) : Meets (Builtin.«object.__ne__» ⟨[.type X, .type Y], []⟩) (fun _ R s => s.TypeIs (.type X) "type" ∧ R (.ok (.ret .notImplemented)) s) :=
  .of_wp fun prog w A R s h => by
    obtain ⟨hT, h⟩ := h
    unfold Builtin.«object.__ne__»
    simp only [slotArgs]
    refine wpAny_bind (wpAny_pure ?_)
    refine wpAny_bind (wpAny_cRoomFor_or (.inl rfl) ?_)
    refine wpAny_bind (wpAny_callSpecialIfBound?_slot (T := "type") hT TypeEq.slot_type_eq (call_gives TypeEq.slot_type_eq hT F.entry_object_eq (F.args_object_eq_2 _ _) (TypeEq.object_eq_other rfl hne) ?_))
    exact wpAny_pure ⟨_, rfl, h⟩
section
variable {M : Model} {A : Around} {E : Value → Shared → Prop} {s : Shared}
theorem wpAny_richCompare_ne_same_decline {a b : Value} {T id : String} {k : Bool} {Q : Value → Shared → Prop} (ha : ∀ s' : Shared, s'.TypeIs a T) (hb : ∀ s' : Shared, s'.TypeIs b T)
    (h1 : PySem.Slot T (cmpInfo .NotEq).2.1 id) (h2 : PySem.Slot T (cmpInfo .NotEq).2.2 id) (hv : [a, b].any Value.onHeap = false) (hk : isSame a b = pure k)
    (hc : wpAny M A (call (.builtin id) [a, b]) (fun v s₁ => v = .notImplemented ∧ wpAny M A (call (.builtin id) [b, a]) (fun v s₂ => v = .notImplemented ∧ Q (.bool (!k)) s₂) E s₁) E s) :
    wpAny M A (richCompare .NotEq a b) Q E s := by
  rcases hi : cmpInfo CmpOp.NotEq with ⟨sym, f, r⟩
  rw [hi] at h1 h2
  simp only [richCompare, hi, (ha s).oneThing_none]
  try with_reducible refine wpAny_holding ?_
  refine wpAny_bind (wpAny_cRoomFor_or (.inl hv) ?_)
  refine wpAny_bind (wpAny_typeOf (ha s) (wpAny_bind (wpAny_typeOf (hb s) ?_)))
  simp only [bne_self_eq_false, Bool.false_eq_true, if_false, pure_bind, Bool.not_false, if_true]
  refine wpAny_bind (m := tryCompare a _ b) (wpAny_tryCompare_declines (ha s) h1 (wpAny_mono hc (fun v s₁ h₁ => ⟨h₁.1, ?_⟩) fun _ _ x => x))
  refine wpAny_bind (m := tryCompare b _ a) (wpAny_tryCompare_declines (hb s₁) h2 (wpAny_mono h₁.2 (fun v s₂ h₂ => ⟨h₂.1, ?_⟩) fun _ _ x => x))
  refine wpAny_bind (wpAny_rule (wpAny_bind (wpAny_of_eq hk (wpAny_pure h₂.2))))
end
section
variable {prog : Program} {w : World} {A : Around} {E : Value → Shared → Prop} {s : Shared} {Q : Value → Shared → Prop}
theorem ne_type_same {X : String} (hX : ∀ s' : Shared, s'.TypeIs (.type X) "type") (h : Q (.bool false) s) : wpAny (model prog w) A (compareOp .NotEq (.type X) (.type X)) Q E s := by
  show wpAny _ A (richCompare .NotEq _ _) Q E s
  exact wpAny_richCompare_same (T := "type") (hX s) (hX s) slot_type_ne
    (call_meets slot_type_ne (hX s) F.entry_object_ne (F.args_object_ne_2 _ _) meets_ne_same ⟨hX s, (by intro e; cases e), h⟩)
theorem ne_type_other {X Y : String} (hX : ∀ s' : Shared, s'.TypeIs (.type X) "type") (hY : ∀ s' : Shared, s'.TypeIs (.type Y) "type") (hne : (Value.type X == Value.type Y) = false) (h : Q (.bool true) s) : wpAny (model prog w) A (compareOp .NotEq (.type X) (.type Y)) Q E s := by
  have hne' : (Value.type Y == Value.type X) = false := by
    rw [Bool.eq_false_iff] at hne ⊢
    intro e
    exact hne (by rw [beq_iff_eq] at e ⊢; exact e.symm)
  show wpAny _ A (richCompare .NotEq _ _) Q E s
  exact wpAny_richCompare_ne_same_decline (T := "type") (k := false) hX hY slot_type_ne slot_type_ne_refl rfl (by rw [isSame_plain rfl, hne])
    (call_meets slot_type_ne (hX s) F.entry_object_ne (F.args_object_ne_2 _ _) (meets_ne_other hne)
      ⟨hX s, rfl, call_meets slot_type_ne_refl (hY s) F.entry_object_ne (F.args_object_ne_2 _ _) (meets_ne_other hne') ⟨hY s, rfl, h⟩⟩)
end
def rTyNe : R2 := fun x y H Q => ∃ a b, x = .ty a ∧ y = .ty b ∧ a ∈ metas ∧ b ∈ metas ∧ Q (.bl (!decide (a = b))) H
theorem op_tyNe {X : Cx} : OpR X (compareOp .NotEq) rTyNe := by
  intro pins s σ H x y v u Q I rx ry h
  obtain ⟨a, b, rfl, rfl, ma, mb, q⟩ := h
  cases (show v = Value.type a from rx)
  cases (show u = Value.type b from ry)
  by_cases e : a = b
  · subst e
    exact ne_type_same (meta_ty ma) ⟨.bl false, H, I, rfl, by simpa using q⟩
  · exact ne_type_other (meta_ty ma) (meta_ty mb) (metas_nodup ma mb e) ⟨.bl true, H, I, rfl, by simpa [e] using q⟩
section
variable {G : Ctx}
theorem lift_tyNe {te : TE} {F : FE} {T : String} (hT : T ∈ metas) (l : LiftE G te F) : LiftE G (tOp rTyNe (tCB (rTyD G.X.K) (tCons te tNil)) (tC (.ty T))) (fun ρ P => F ρ fun x => P (.bl (!decide (tyName x = T)))) := by
  intro S σ H ρ P Q g h q
  refine l S σ H ρ _ _ g h fun v d H1 st hv hp => ?_
  exact ⟨v, S, d, rfl, hv, _, _, rfl, rfl, tyName_mem d, hT, q _ (.bl _) H1 st rfl hp⟩
theorem dt_ntype {e : Expr} {F : FE} {T : Str} {TT : String} {p1 p2 p3 p4 : Pos} (hT : TT ∈ metas := by decide) (he : DE G e F) (hg : Gl G.X "type" := by rfl) (hm : G.X.mg "type" = none) (hgT : Gl G.X T := by rfl) (hmT : G.X.mg T = none) (hv : bootBuiltins T = some (.type TT)) (hn : T ≠ "__name__") (hd : (T == ("__debug__" : Str)) = false)
    (hs : starEach [e] G.X.env = (false, eval e G.X.env) :: starEach [] G.X.env := by rfl) :
    DT G (.Compare (.Call (.Name "type" p1) [e] [] p2) [.NotEq] [.Name T p3] p4) (fun ρ P => F ρ fun x => P (!decide (tyName x = TT))) := by
  obtain ⟨t, h, l⟩ := he.ex
  refine ⟨⟨_, pt_cmpR op_tyNe (pe_callTy call_tyD hg hm (by decide +kernel) (pa_cons h pa_nil hs) (he := hs)) (pe_bltn (v := V.ty TT) hgT hmT hv rfl hn hd) (nobehind _ (by decide) (by decide)), fun S σ H ρ P Q g h q => ?_⟩⟩
  exact lift_tyNe hT l S σ H ρ (fun z => isB z P) _ g h fun v d H1 st hv hp => by
    obtain ⟨b, rfl, hp⟩ := isB_inv hp
    exact ⟨b, hv, q b H1 st hp⟩
end
end DL
namespace K01
open PySem PySem.Spec PyProof.Rows L2 DL
/-! texts are of a length that may be asked for -/
mutual
def Fine : Dat → Prop
  | .str z => z.length ≤ 10000
  | .tup ds => Fines ds
  | .lst ds => Fines ds
  | .dic ks ds => Fines ds
  | _ => True
def Fines : List Dat → Prop
  | [] => True
  | d :: ds => Fine d ∧ Fines ds
end
theorem Fines.get : ∀ {ds : List Dat} {i : Nat} {d : Dat}, Fines ds → ds[i]? = some d → Fine d
  | [], _, _, _, h => by simp at h
  | d :: ds, 0, d', f, h => by simp at h; subst h; exact f.1
  | d :: ds, i + 1, d', f, h => Fines.get f.2 (by simpa using h)
theorem Fines.mem {ds : List Dat} {d : Dat} (f : Fines ds) (h : d ∈ ds) : Fine d := by
  obtain ⟨i, hi, e⟩ := List.mem_iff_getElem.mp h
  exact f.get (i := i) (by rw [List.getElem?_eq_getElem hi, e])
theorem fine_str {z : Str} (h : Fine (.str z)) : z.length ≤ 10000 := h
theorem fine_line {z : Str} (h : Fine (.str z)) : z.length ≤ sizeLine := Nat.le_trans (fine_str h) (by decide)
/-! ### the mirror -/
def hasWord : Dat → Bool
  | .tup (.str _ :: _) => true
  | _ => false
def sorts : List Str := ["thing", "num", "tree", "set", "bits"]
def isSort : Dat → Bool
  | .str z => decide (z ∈ sorts)
  | _ => false
def small (c : Nat) : Bool := decide (97 ≤ c) && decide (c ≤ 122)
def isName : Dat → Bool
  | .str z => decide (1 ≤ z.length) && decide (z.length ≤ 6) && z.cps.toList.all small
  | _ => false
/-- a word's row: its sort, the bounds of its number, the sorts within -/
abbrev Row := Str × Option (Int × Int) × List Str
def table : List (Str × Row) := [("number", "num", some (-1000000, 1000000), []), ("plus", "num", none, ["num", "num"]), ("times", "num", some (-1000000, 1000000), ["num"]), ("tip", "tree", none, ["num"]), ("node", "tree", none, ["tree", "tree"]),
  ("none", "set", none, []), ("one", "set", none, ["num"]), ("union", "set", none, ["set", "set"]), ("both", "set", none, ["set", "set"]), ("without", "set", none, ["set", "set"]),
  ("bits", "bits", some (0, 15), []), ("band", "bits", none, ["bits", "bits"]), ("bor", "bits", none, ["bits", "bits"]), ("badd", "bits", none, ["bits", "bits"]), ("bnot", "bits", none, ["bits"])]
def row (w : Str) : Option Row := (table.find? fun p => decide (p.1 = w)).map (·.2)
def bndD : Option (Int × Int) → Dat
  | none => .tup []
  | some (lo, hi) => .tup [.int lo, .int hi]
def rowD (r : Row) : Dat := .tup [.str r.1, bndD r.2.1, .tup (r.2.2.map Dat.str)]
def words (z : Str) : Option Dat := (row z).map rowD
/-- what stands behind a word of the table -/
def behind (b : Option (Int × Int)) (n : Nat) (r : List Dat) : Option (List Dat) := match b with
  | none => if r.length = n then some r else none
  | some (lo, hi) => match r with
    | .int i :: r' => if r'.length = n ∧ lo ≤ i ∧ i ≤ hi then some r' else none
    | _ => none
def strOr (d : Dat) : Str := match d with
  | .str z => z
  | _ => ""
def topS (i : Nat) : Stmt := PySem.Challenge.pw_allsorts_k11_models_told.main.body.getD i (.Pass ⟨0, 0, 0, 0⟩)
/-- one argument -/
def con1 (pre : Dat → Prop) (f : Dat → Dat) : Con := ⟨fun ds P _ => ∃ d, ds = [d] ∧ pre d ∧ P (f d), fun _ _ _ _ _ ⟨d, e, h, q⟩ m _ => ⟨d, e, h, m _ q⟩⟩
section
variable {P : Program} {w : World} {K : PySem.W.Frag} {mg : Str → Option Value} {base : Heap} {f : Addr} {fd : FuncData} {k : Nat}
/-! ### has_word, is_sort, is_name -/
abbrev s_has_word : Stmt := topS 10
theorem sc_has_word : FnScope ["thing"] ["thing"] (defScope s_has_word) := ⟨rfl, rfl, rfl, by decide +kernel, rfl, by decide +kernel, by decide +kernel⟩
def c_has_word : Con := con1 (fun _ => True) fun d => .bl (hasWord d)
theorem ok_has_word (B : Bt mg) (F : Fun K "has_word" "has_word" s_has_word f fd) : FnOk P w K mg base CX0 (k + 1) f fd ["thing"] (spD K c_has_word) := by
  refine fn_pure F sc_has_word (fun ds P X ⟨d, e, _⟩ => by rw [e]; rfl) fun cdv A outer s H S hS hr => ?_
  have nd := sc_has_word.nd
  refine ⟨_, (db_one (ds_ret (de_and (de_type (TT := "tuple") (he := (de_var 0)) (hm := B.type) (hmT := B.tuple) (hv := by decide +kernel) (hn := by decide) (hd := by decide)) (de_and (de_gt (de_len B.len (da_cons (de_var 0) da_nil)) de_int) (de_one (de_type (TT := "str") (he := (de_ix (de_var 0) de_int)) (hm := B.type) (hmT := B.str) (hv := by decide +kernel) (hn := by decide) (hd := by decide))))))), ?_⟩
  rintro ds R X ⟨d, rfl, _, h⟩
  cases d with
  | tup xs =>
    cases xs with
    | nil => exact h
    | cons x r =>
      simp [rd, DL.start, isB, tyName, lenD, int0, ixD, someD, atI, ixN]
      cases x <;> simpa [hasWord, tyName, someD] using h
  | _ => exact h
abbrev s_is_sort : Stmt := topS 11
theorem sc_is_sort : FnScope ["thing"] ["thing"] (defScope s_is_sort) := ⟨rfl, rfl, rfl, by decide +kernel, rfl, by decide +kernel, by decide +kernel⟩
def c_is_sort : Con := con1 (fun _ => True) fun d => .bl (isSort d)
theorem ok_is_sort (B : Bt mg) (C_SORTS : CT K mg "SORTS" (.tup (sorts.map Dat.str))) (F : Fun K "is_sort" "is_sort" s_is_sort f fd) : FnOk P w K mg base CX0 (k + 1) f fd ["thing"] (spD K c_is_sort) := by
  refine fn_pure F sc_is_sort (fun ds P X ⟨d, e, _⟩ => by rw [e]; rfl) fun cdv A outer s H S hS hr => ?_
  have nd := sc_is_sort.nd
  refine ⟨_, (db_one (ds_ret (de_and (de_type (TT := "str") (he := (de_var 0)) (hm := B.type) (hmT := B.str) (hv := by decide +kernel) (hn := by decide) (hd := by decide)) (de_one (de_in (de_var 0) (de_ctup C_SORTS)))))), ?_⟩
  rintro ds R X ⟨d, rfl, _, h⟩
  cases d with
  | str z => exact h
  | _ => exact h
end
end K01
namespace K01
open PySem PySem.Spec PyProof.Rows L2 DL
theorem compF_map {j : Nat} {Fe : FE} {ρ : List DL.Slot} {f : Dat → Dat} : ∀ {items acc : List Dat} {P : List Dat → Prop}, (∀ d ∈ items, ∀ R : Dat → Prop, R (f d) → Fe (ρ.set j (.d d)) R) → acc.length + items.length ≤ sizeLine → P (acc ++ items.map f) →
    compF (gNm j) (fun _ P => P true) Fe ρ items acc P
  | [], acc, P, _, _, h => by simpa [compF] using h
  | d :: ds, acc, P, he, hl, h => by
    unfold compF
    refine he d List.mem_cons_self _ ⟨by simp at hl; omega, ?_⟩
    exact compF_map (fun x hx => he x (List.mem_cons_of_mem _ hx)) (by simp at hl ⊢; omega) (by simpa using h)
theorem line_big : 100000 ≤ sizeLine := by decide
theorem small_of (c : Nat) : (!decide (([c] : List Nat) < [97]) && !decide (([122] : List Nat) < [c])) = small c := by
  unfold small
  have h1 : (([c] : List Nat) < [97]) ↔ c < 97 := by
    rw [List.cons_lt_cons_iff]; simp
  have h2 : (([122] : List Nat) < [c]) ↔ 122 < c := by
    rw [List.cons_lt_cons_iff]; simp
  have e1 : decide (([c] : List Nat) < [97]) = decide (c < 97) := decide_eq_decide.mpr h1
  have e2 : decide (([122] : List Nat) < [c]) = decide (122 < c) := decide_eq_decide.mpr h2
  rw [e1, e2]
  by_cases a : c < 97 <;> by_cases b : 122 < c <;> simp [a, b] <;> omega
theorem blsOf_map (g : Nat → Bool) : ∀ cs : List Nat, blsOf (cs.map fun c => Dat.bl (g c)) = some (cs.map g)
  | [] => rfl
  | c :: cs => by simp [blsOf, blsOf_map g cs]
def nameOf (d : Dat) : Dat := match d with
  | .str z => .bl (match z.cps.toList with | [c] => small c | _ => false)
  | _ => .bl false
section
variable {P : Program} {w : World} {K : PySem.W.Frag} {mg : Str → Option Value} {base : Heap} {f : Addr} {fd : FuncData} {k : Nat}
abbrev s_is_name : Stmt := topS 12
theorem sc_is_name : FnScope ["thing", "sign"] ["thing"] (defScope s_is_name) := ⟨rfl, rfl, rfl, by decide +kernel, rfl, by decide +kernel, by decide +kernel⟩
def c_is_name : Con := con1 Fine fun d => .bl (isName d)
theorem ok_is_name (B : Bt mg) (C_MOST_LETTERS : CI mg "MOST_LETTERS" 6) (F : Fun K "is_name" "is_name" s_is_name f fd) : FnOk P w K mg base CX0 (k + 1) f fd ["thing"] (spD K c_is_name) := by
  refine fn_pure F sc_is_name (fun ds P X ⟨d, e, _⟩ => by rw [e]; rfl) fun cdv A outer s H S hS hr => ?_
  have nd := sc_is_name.nd
  refine ⟨_, (db_cons (ds_if (dt_w (dw_or (dt_ntype (TT := "str") (he := (de_var 0)) (hm := B.type) (hmT := B.str) (hv := by decide +kernel) (hn := by decide) (hd := by decide)) (dw_or (dt_lt (de_len B.len (da_cons (de_var 0) da_nil)) de_int) (dw_or1 (dt_gt (de_len B.len (da_cons (de_var 0) da_nil)) (de_ci C_MOST_LETTERS)))))) (db_one (ds_ret de_bl)) db_nil) (db_one (ds_ret (de_all rfl B.all (da_cons (de_lc 1 (x := "sign") rfl nd (di_str (de_var 0)) (blkOk_by (own := [("sign", 1)]) (N := ["thing", "sign"]) (sc := defScope s_is_name) (by decide +kernel)) (fun _ _ _ _ _ => pg_name (i := 1) nd rfl (Or.inl rfl)) (fun _ _ _ _ _ => dts_nil) (fun _ _ _ _ _ => (de_chain_le de_str (de_var 1) de_str))) da_nil))))), ?_⟩
  rintro ds R X ⟨d, rfl, hf, h⟩
  replace h : R (.bl (isName d)) := h
  cases d with
  | str z =>
    have hl := fine_line hf
    by_cases h1 : z.length < 1
    · have e : isName (.str z) = false := by simp [isName]; omega
      rw [e] at h
      simp [rd, DL.start, isB, tyName, lenD, int0, hl]
      rw [if_pos (by omega)]
      exact h
    · by_cases h2 : 6 < z.length
      · have e : isName (.str z) = false := by simp [isName]; omega
        rw [e] at h
        simp [rd, DL.start, isB, tyName, lenD, int0, hl]
        rw [if_neg (by omega), if_pos (by omega)]
        exact h
      · have e : isName (.str z) = z.cps.toList.all small := by
          simp only [isName]
          rw [decide_eq_true (show 1 ≤ z.length by omega), decide_eq_true (show z.length ≤ 6 by omega)]; rfl
        rw [e] at h
        simp [rd, DL.start, isB, tyName, lenD, int0, hl]
        rw [if_neg (by omega), if_neg (by omega)]
        refine compF_map (f := nameOf) (fun d hd R hR => ?_) (by have := line_big; simp [DL.signs]; have : z.cps.size = z.length := rfl; omega) ?_
        · obtain ⟨c, hc, rfl⟩ := List.mem_map.mp hd
          have e1 : nameOf (.str ⟨#[c]⟩) = .bl (small c) := rfl
          rw [e1, ← small_of] at hR
          have ea : (Str.ofString "a").cps.toList = [97] := by decide +kernel
          have ez : (Str.ofString "z").cps.toList = [122] := by decide +kernel
          show if (!decide (([c] : List Nat) < (Str.ofString "a").cps.toList)) = true then R (.bl (!decide ((Str.ofString "z").cps.toList < ([c] : List Nat)))) else R (.bl false)
          rw [ea, ez]
          cases hx : decide (([c] : List Nat) < [97]) with
          | true => rw [hx] at hR; exact hR
          | false => rw [hx] at hR; exact hR
        · have e2 : (DL.signs z).map nameOf = z.cps.toList.map fun c => Dat.bl (small c) := by
            rw [DL.signs, List.map_map]; rfl
          rw [List.nil_append, e2]
          simp only [allD, blsOf_map, someD]
          rw [List.all_map]
          exact h
  | _ => exact h
end
end K01
namespace DL
open PySem PySem.Spec PyProof.Rows L2
section
variable {P : Dat → Prop} {PB : Bool → Prop} {b : Bool} {i j : Int} {x y : Str} {xs ys ds : List Dat} {PS : Str → Prop} {PI' : Int → Prop} {PL : List Dat → Prop}
theorem rd_here {ρ : List DL.Slot} {i : Nat} {x : Dat} (e : ρ[i]? = some (.d x)) (h : P x) : rd ρ i P := by unfold rd; rw [e]; exact h
theorem ownL_here {ρ : List DL.Slot} {i : Nat} {ds : List Dat} {P : List Dat → Prop} (e : ρ[i]? = some (.own ds)) (h : P ds) : ownL ρ i P := by unfold ownL; rw [e]; exact h
theorem isB_bl : isB (.bl b) PB = PB b := rfl
theorem isI_int : isI (.int i) PI' = PI' i := rfl
theorem someD_some {α : Type} {a : α} {P : α → Prop} : someD (some a) P = P a := rfl
theorem lenD_tup : lenD [.tup ds] P = P (.int (ds.length : Nat)) := rfl
theorem lenD_lst : lenD [.lst ds] P = P (.int (ds.length : Nat)) := rfl
theorem ixD_tup : ixD (.tup ds) (.int i) P = someD (atI ds i) P := rfl
theorem ixD_lst : ixD (.lst ds) (.int i) P = someD (atI ds i) P := rfl
theorem eqD_int : eqD (.int i) (.int j) P = P (.bl (decide (i = j))) := rfl
theorem eqD_str : eqD (.str x) (.str y) P = P (.bl (decide (x = y))) := rfl
theorem neD_int : neD (.int i) (.int j) P = P (.bl (!decide (i = j))) := rfl
theorem neD_str : neD (.str x) (.str y) P = P (.bl (!decide (x = y))) := rfl
theorem addD_int : addD (.int i) (.int j) P = P (.int (i + j)) := rfl
theorem addD_lst : addD (.lst xs) (.lst ys) P = (xs.length + ys.length ≤ sizeLine ∧ P (.lst (xs ++ ys))) := rfl
theorem int0_int {f : Int → Int → Dat} : int0 f (.int i) (.int j) P = P (f i j) := rfl
theorem seqOf_tup : seqOf (.tup ds) PL = PL ds := rfl
theorem seqOf_lst : seqOf (.lst ds) PL = PL ds := rfl
theorem tupD_tup {n : Nat} : tupD (.tup ds) n PL = (ds.length = n ∧ PL ds) := rfl
theorem consD_cons {α : Type} {a : α} {r : List α} {P : α → List α → Prop} : consD (a :: r) P = P a r := rfl
theorem slD_tup {lo hi : Option Int} : slD (.tup ds) lo hi P = P (.tup (cutG ds lo hi)) := rfl
theorem slD_lst {lo hi : Option Int} : slD (.lst ds) lo hi P = P (.lst (cutG ds lo hi)) := rfl
theorem strsOf_map : ∀ zs : List Str, strsOf (zs.map Dat.str) = some zs
  | [] => rfl
  | z :: zs => by simp [strsOf, strsOf_map zs]
theorem at0 {α : Type} {a : α} {r : List α} : atI (a :: r) 0 = some a := atI_nat (j := 0) rfl
theorem at1 {α : Type} {a b : α} {r : List α} : atI (a :: b :: r) 1 = some b := atI_nat (j := 1) rfl
theorem at2 {α : Type} {a b c : α} {r : List α} : atI (a :: b :: c :: r) 2 = some c := atI_nat (j := 2) rfl
theorem at3 {α : Type} {a b c d : α} {r : List α} : atI (a :: b :: c :: d :: r) 3 = some d := atI_nat (j := 3) rfl
end
end DL
namespace K01
open PySem PySem.Spec PyProof.Rows L2 DL
def conE {α : Type} (args : α → List Dat) (pre : α → Prop) (out : α → Dat) : Con := ⟨fun ds P _ => ∃ a, ds = args a ∧ pre a ∧ P (out a), fun _ _ _ _ _ ⟨a, e, h, q⟩ m _ => ⟨a, e, h, m _ q⟩⟩
theorem con1_C {pre : Dat → Prop} {g : Dat → Dat} {a : Dat} {P : Dat → Prop} {X : Exc → Prop} : (con1 pre g).C [a] P X ↔ pre a ∧ P (g a) :=
  ⟨fun ⟨d, e, h, q⟩ => by cases e; exact ⟨h, q⟩, fun h => ⟨a, rfl, h.1, h.2⟩⟩
section
variable {P : Program} {w : World} {K : PySem.W.Frag} {mg : Str → Option Value} {base : Heap} {f : Addr} {fd : FuncData} {k : Nat}
end
end K01
namespace K01
open PySem PySem.Spec PyProof.Rows L2 DL
section
variable {P : Program} {w : World} {K : PySem.W.Frag} {mg : Str → Option Value} {base : Heap} {f : Addr} {fd : FuncData} {k : Nat}
theorem cut_from {α : Type} (xs : List α) (j : Nat) : cutG xs (some (j : Int)) none = xs.drop j := by
  unfold cutG
  rw [HT.sIx_nat xs.length 0 j, HT.sIx_none]
  by_cases h : j ≤ xs.length
  · rw [Nat.min_eq_left h, List.take_of_length_le (by rw [List.length_drop]; exact Nat.le_refl _)]
  · rw [Nat.min_eq_right (by omega), List.drop_length, List.drop_eq_nil_of_le (by omega), List.take_nil]
-- calls ['has_word', 'is_sort', 'is_name', 'sorts_in_call', 'has_row'] consts ['TERM_WORDS']
-- calls [] consts ['TERM_WORDS']
-- calls [] consts ['TERM_WORDS']
end
end K01
namespace DL
open PySem PySem.Spec PyProof.Rows L2
section
variable {G : Ctx} {S S' : Addr → Prop} {σ : L2.St} {H H' : Hp} {ρ : List Slot} {pos : Pos}
/-- an if, its test told first -/
theorem ds_ifc {c : Expr} {a b : List Stmt} {Fc : FT} {F F' : FS} (hc : DT G c Fc) (ha : DB G a F) (hb : DB G b F') : DS G (.If c a b pos) (fun D ρ => ∃ Pc : Bool → Prop, Fc ρ Pc ∧ (Pc true → F D ρ) ∧ (Pc false → F' D ρ)) := by
  obtain ⟨t0, h0, l0⟩ := hc.ex
  obtain ⟨t, h, l⟩ := ha.ex
  obtain ⟨u, h2, l2⟩ := hb.ex
  refine ⟨⟨_, ps_if h0 h h2, fun S σ H ρ D Dh g h q => ?_⟩⟩
  obtain ⟨Pc, hc, h1, h2⟩ := h
  refine l0 S σ H ρ _ _ g hc fun b H1 st hp => ?_
  cases b with
  | true => exact l S σ H1 ρ D Dh (g.step st) (h1 hp) (q.from (st.fr g))
  | false => exact l2 S σ H1 ρ D Dh (g.step st) (h2 hp) (q.from (st.fr g))
/-- name = e, the value told first -/
theorem ds_setc {e : Expr} {x : Str} {pos' : Pos} {F : FE} (i : Nat) (he : DE G e F) (hN : G.X.N.Nodup) (hi : G.X.N[i]? = some x := by rfl) (hx : Loc G.X.env.scope x := by first | exact Or.inl rfl | exact Or.inr rfl) (hs : swapsWith e (some (.Name x pos')) pos.line G.X.env = pure false := by rfl)
    (hf : G.X.fn x = true ∨ G.X.env.scope.names.lookup x = some .local := by first | exact .inl rfl | exact .inr rfl) : DS G (.Assign [.Name x pos'] e pos) (fun D ρ => ∃ Pc : Dat → Prop, F ρ Pc ∧ ∀ d, Pc d → D.nx (ρ.set i (.d d))) := by
  obtain ⟨t, h, l⟩ := he.ex
  refine ⟨⟨_, ps_set (i := i) hN hi hx h hs hf, fun S σ H ρ D Dh g h q => ?_⟩⟩
  obtain ⟨Pc, hc, h1⟩ := h
  exact l S σ H ρ _ _ g hc fun v d H1 st hv hp => q.nx S _ H1 _ ((g.step st).set hv) (st.fr g) (h1 d hp)
/-- a for, by a word of what is left and the slots -/
theorem ds_forI {tg iter : Expr} {body : List Stmt} {F : FI} {g : FG} {Fb : FS} (hp : PassesOwn (model G.X.prog G.X.w) G.X.A G.X.env G.X.xe) (hc : G.X.calm = true) (hi : DI G tg iter F) (hg : DG G tg g) (hb : DB G body Fb) (hs : ∀ x, foldedSetIterable iter G.X.env x = pure x := by intro _; rfl) :
    DS G (.For tg iter body [] pos) (fun D ρ => ∃ Inv : List Dat → List Slot → Prop, F ρ (fun items => Inv items ρ) ∧ (∀ ρ, Inv [] ρ → D.nx ρ) ∧ ∀ d ds ρ, Inv (d :: ds) ρ → g d ρ fun ρ' => Fb { nx := Inv ds, ct := Inv ds, bk := D.nx, rt := D.rt } ρ') := by
  obtain ⟨w, h1, lw⟩ := hi.ex
  obtain ⟨t, h2, lg⟩ := hg.ex
  obtain ⟨u, h3, lb⟩ := hb.ex
  refine ⟨⟨_, ps_for hp hc h1 h2 h3 hs, ?_⟩⟩
  intro S σ H ρ D Dh gd h q
  obtain ⟨Inv, h, k0, ks⟩ := h
  refine lw S σ H ρ _ _ gd h fun J items H1 st wk hp => ?_
  have g1 := gd.step st
  have fr1 : Fr S H S H1 := st.fr gd
  refine ⟨fun i m σ' H' => m = items.length - i ∧ i ≤ items.length ∧ ∃ S' ρ', Gd G S' σ' H' ρ' ∧ Fr S H1 S' H' ∧ Inv (items.drop i) ρ', ⟨items.length, rfl, Nat.zero_le _, S, ρ, g1, Fr.refl _ _, hp⟩, ?_⟩
  rintro i m σ' H' ⟨rfl, hi, S', ρ', g', fr, hf⟩
  by_cases hlt : i < items.length
  · refine .inr ⟨wk.go i S' H' hlt fr, fun σ2 H2 => ∃ S2 ρ2, Gd G S2 σ2 H2 ρ2 ∧ Fr S H1 S2 H2 ∧ Inv (items.drop (i + 1)) ρ2, fun σ2 H2 ⟨S2, ρ2, a1, a2, a3⟩ => ⟨items.length - (i + 1), by omega, rfl, hlt, S2, ρ2, a1, a2, a3⟩, fun x H2 y => ?_⟩
    obtain ⟨s2, hd⟩ := wk.yld i _ S' σ' ρ' H' x H2 (List.getElem?_eq_getElem hlt) g' fr y
    have g2 := g'.step s2
    rw [List.drop_eq_getElem_cons hlt] at hf
    refine lg S' σ' H2 ρ' _ x _ _ g2 hd (ks _ _ _ hf) fun σ3 ρ3 g3 hb => ?_
    have frx : Fr S' H' S' H2 := s2.fr g'
    refine lb S' σ3 H2 ρ3 _ _ g3 hb ⟨fun S4 σ4 H4 ρ4 g4 fr4 hn => ⟨S4, ρ4, g4, (fr.trans frx).trans fr4, hn⟩, q.rt, fun S4 σ4 H4 ρ4 g4 fr4 hn => q.nx S4 σ4 H4 ρ4 g4 (fr1.trans ((fr.trans frx).trans fr4)) hn, fun S4 σ4 H4 ρ4 g4 fr4 hn => ⟨S4, ρ4, g4, (fr.trans frx).trans fr4, hn⟩⟩
  · have e : i = items.length := by omega
    subst e
    rw [List.drop_length] at hf
    exact .inl ⟨wk.stop S' H' fr, q.nx S' σ' H' ρ' g' (fr1.trans fr) (k0 _ hf)⟩
end
end DL
namespace K01
open PySem PySem.Spec PyProof.Rows L2 DL
/-! ### sizes -/
section
variable {P : Program} {w : World} {K : PySem.W.Frag} {mg : Str → Option Value} {base : Heap} {f : Addr} {fd : FuncData} {k : Nat}
-- calls ['sorts_within', 'term_sort', 'places_size', 'inner_terms'] consts ['TERM_DEEP', 'TERM_PARTS']
theorem conE_use {α : Type} {args : α → List Dat} {pre : α → Prop} {out : α → Dat} {P : Dat → Prop} {X : Exc → Prop} (a : α) (h : pre a) (q : P (out a)) : (conE args pre out).C (args a) P X := ⟨a, rfl, h, q⟩
-- calls ['term_size'] consts []
end
end K01
namespace K01
open PySem PySem.Spec PyProof.Rows L2 DL
/-- a def as it stands -/
structure At (K : PySem.W.Frag) (mg : Str → Option Value) (x : Str) (st : Stmt) (ps : List Str) (f : Addr) (fd : FuncData) : Prop where
  F : Fun K x x st f fd
  m : mg x = some (.ref f)
  b : Binds K fd ps []
/-- what can't be asked -/
theorem fn_no {P : Program} {w : World} {K : PySem.W.Frag} {mg : Str → Option Value} {base : Heap} {f : Addr} {fd : FuncData} {k : Nat} {ps : List Str} {C : Con} (h : ∀ ds P X, ¬ C.C ds P X) : FnOk P w K mg base CX0 k f fd ps (spD K C) :=
  ⟨fun vs H Q E ⟨_, _, _, _, hc⟩ => absurd hc (h _ _ _), fun A outer s H args us vs Q E _ _ _ _ ⟨_, _, _, _, hc⟩ => absurd hc (h _ _ _)⟩
section
variable {P : Program} {w : World} {K : PySem.W.Frag} {mg : Str → Option Value} {base : Heap} {f f2 : Addr} {fd fd2 : FuncData} {k : Nat}
theorem At.callee {x : Str} {st : Stmt} {ps : List Str} {C : Con} (h : At K mg x st ps f fd) (ok : FnOk P w K mg base CX0 k f fd ps (spD K C)) : Callee P w K mg base x k ps C := ⟨f, fd, ok, h.m, h.F.kp, h.b⟩
theorem Callee.mono {x : Str} {ps : List Str} {C : Con} {j : Nat} (h : Callee P w K mg base x j ps C) (hj : j ≤ k) : Callee P w K mg base x k ps C := by
  obtain ⟨f, fd, F, r⟩ := h.ex
  exact ⟨f, fd, F.mono hj, r⟩
/-! ### is_term -/
-- calls ['term_size'] consts ['TERM_PARTS', 'TERM_DEEP']
/-! ### parts_in_order -/
-- calls ['inner_terms', 'parts_in_order'] consts []
/-! ### texts -/
-- calls [] consts []
end
end K01
namespace K01
open PySem PySem.Spec PyProof.Rows L2 DL
def intOr (d : Dat) : Int := match d with
  | .int i => i
  | _ => 0
section
variable {P : Program} {w : World} {K : PySem.W.Frag} {mg : Str → Option Value} {base : Heap} {f f2 : Addr} {fd fd2 : FuncData} {k : Nat}
-- calls ['inner_terms', 'term_text', 'in_brackets'] consts []
end
end K01
namespace DL
open PySem PySem.Spec PyProof.Rows L2
/-! ### what such a dict holds -/
def putP (l : List (Key × Dat)) (k : Key) (d : Dat) : List (Key × Dat) := if (l.any fun kv => decide (kv.1 = k)) = true then l.map (fun kv => if kv.1 = k then (kv.1, d) else kv) else l ++ [(k, d)]
def mergeP (l more : List (Key × Dat)) : List (Key × Dat) := more.foldl (fun acc kv => putP acc kv.1 kv.2) l
def RelP (K : PySem.W.Frag) (S : Addr → Prop) (H : Hp) (kvs : List (Key × V)) (l : List (Key × Dat)) : Prop := kvs.map (·.1) = l.map (·.1) ∧ DvL K S H (l.map (·.2)) (kvs.map (·.2))
section
variable {K : PySem.W.Frag} {S : Addr → Prop} {H : Hp}
theorem RelP.any {k : Key} : ∀ {kvs : List (Key × V)} {l : List (Key × Dat)}, kvs.map (·.1) = l.map (·.1) → (kvs.any fun kv => decide (kv.1 = k)) = (l.any fun kv => decide (kv.1 = k))
  | [], [], _ => rfl
  | [], _ :: _, h => by cases h
  | _ :: _, [], h => by cases h
  | x :: r, y :: t, h => by
    rw [List.map_cons, List.map_cons] at h
    injection h with h1 h2
    rw [List.any_cons, List.any_cons, RelP.any h2, h1]
theorem RelP.over {k : Key} {v : V} {d : Dat} (hd : Dv K S H d v) : ∀ {kvs : List (Key × V)} {l : List (Key × Dat)}, RelP K S H kvs l → RelP K S H (kvs.map fun kv => if kv.1 = k then (kv.1, v) else kv) (l.map fun kv => if kv.1 = k then (kv.1, d) else kv)
  | [], [], h => h
  | [], _ :: _, ⟨h, _⟩ => by cases h
  | _ :: _, [], ⟨h, _⟩ => by cases h
  | x :: r, y :: t, ⟨h, h'⟩ => by
    rw [List.map_cons, List.map_cons] at h
    injection h with h1 h2
    obtain ⟨z, r', e1, h3, h4⟩ := (h' : ∃ z r', _ = z :: r' ∧ Dv K S H y.2 z ∧ DvL K S H (t.map (·.2)) r')
    rw [List.map_cons] at e1
    injection e1 with ea eb
    subst ea; subst eb
    obtain ⟨g1, g2⟩ := RelP.over (k := k) hd (kvs := r) (l := t) ⟨h2, h4⟩
    rw [List.map_cons, List.map_cons]
    by_cases hk : x.1 = k
    · rw [if_pos hk, if_pos (h1 ▸ hk)]
      exact ⟨by rw [List.map_cons, List.map_cons, g1, h1], ⟨v, _, rfl, hd, g2⟩⟩
    · rw [if_neg hk, if_neg (h1 ▸ hk)]
      exact ⟨by rw [List.map_cons, List.map_cons, g1, h1], ⟨x.2, _, rfl, h3, g2⟩⟩
theorem RelP.put {k : Key} {v : V} {d : Dat} {kvs : List (Key × V)} {l : List (Key × Dat)} (h : RelP K S H kvs l) (hd : Dv K S H d v) : RelP K S H (putK kvs k v) (putP l k d) := by
  unfold putK putP
  rw [RelP.any h.1]
  split
  · exact h.over hd
  · exact ⟨by rw [List.map_append, List.map_append, h.1]; rfl, by rw [List.map_append, List.map_append]; exact h.2.append ⟨v, [], rfl, hd, rfl⟩⟩
theorem RelP.merge : ∀ {more : List (Key × V)} {lm : List (Key × Dat)} {kvs : List (Key × V)} {l : List (Key × Dat)}, RelP K S H kvs l → RelP K S H more lm → RelP K S H (mergeK kvs more) (mergeP l lm)
  | [], [], _, _, h, _ => h
  | [], _ :: _, _, _, _, ⟨h, _⟩ => by cases h
  | _ :: _, [], _, _, _, ⟨h, _⟩ => by cases h
  | x :: r, y :: t, kvs, l, h, ⟨e, h'⟩ => by
    rw [List.map_cons, List.map_cons] at e
    injection e with h1 h2
    obtain ⟨z, r', e1, h3, h4⟩ := (h' : ∃ z r', _ = z :: r' ∧ Dv K S H y.2 z ∧ DvL K S H (t.map (·.2)) r')
    rw [List.map_cons] at e1
    injection e1 with ea eb
    subst ea; subst eb
    have q := h.put (k := x.1) h3
    have := RelP.merge (more := r) (lm := t) (h1 ▸ q) ⟨h2, h4⟩
    unfold mergeK mergeP
    rw [List.foldl_cons, List.foldl_cons, ← h1]
    unfold mergeK mergeP at this
    rw [← h1] at this
    exact this
end
section
variable {G : Ctx} {S : Addr → Prop} {H : Hp} {pos : Pos} {a b : Expr}
end
end DL
namespace DL
open PySem PySem.Spec PyProof.Rows L2
/-! ### a def that may raise -/
/-- the context of a pure def's body that may raise -/
abbrev ctxX (P : Program) (w : World) (K : PySem.W.Frag) (mg : Str → Option Value) (base : Heap) (N : List Str) (qual : Str) (sc : Scope) (f : Addr) (cdv : Value) (A : Around) (outer : List Env) (s : Shared) (H : Hp) (S : Addr → Prop) (hS : ∀ a, S a → ∃ o, H a = some o) (E : XK) (EX : Exc → Prop)
    (el : ∀ (C d : Addr) (fs : List (Str × V)) (ds : List (Str × Dat)) (H' : Hp), EX (C, ds) → Evl.Ex H H' → H' d = some (.xd fs) → fs.map (·.1) = ds.map (·.1) → DvL K S H' (ds.map (·.2)) (fs.map (·.2)) → H d = none → E (.ref C) (some d) H') : Ctx where
  X := cxOf (L2.CX P w) P w K mg base N qual sc f cdv A outer s H E
  H0 := H
  S0 := S
  W := Evl.Ex H
  clo := fun H1 H2 h k _ a o e => k a o o e (h a o e)
  top := fun H1 h a o e => ⟨o, h a o e⟩
  s0 := hS
  E := E
  EX := EX
  elink := el
/-- THE RULE for a pure def that may raise -/
theorem fn_pureX {P : Program} {w : World} {K : PySem.W.Frag} {mg : Str → Option Value} {base : Heap} {x qual : Str} {st : Stmt} {f : Addr} {fd : FuncData} {N ps : List Str} {k : Nat} {C : Con} (F : Fun K x qual st f fd) (Sc : FnScope N ps (defScope st)) (len : ∀ ds P X, C.C ds P X → ds.length = ps.length)
    (hbody : ∀ (cdv : Value) (A : Around) (outer : List Env) (s : Shared) (H : Hp) (S : Addr → Prop) (hS : ∀ a, S a → ∃ o, H a = some o) (E : XK) (EX : Exc → Prop) (el), Room k (A.deeper (envOfC qual (defScope st) s.heap.objs.size f cdv)) →
      ∃ T, DB (ctxX P w K mg base N qual (defScope st) f cdv A outer s H S hS E EX el) (defBody st) T ∧ ∀ ds R, C.C ds R EX → T { nx := fun _ => R .non, rt := R } (start N.length ds)) : FnOk P w K mg base (L2.CX P w) (k + 1) f fd ps (spD K C) := by
  have hpl : ps.length ≤ N.length := by have := congrArg List.length Sc.pre; rw [List.length_take] at this; omega
  refine F.okX Sc (fun vs H Q E ⟨S, ds, _, hv, hc⟩ => by rw [hv.len]; exact len _ _ _ hc) fun cdv A outer s H vs Q E hr h => ?_
  obtain ⟨S, ds, hS, hv, hc⟩ := h
  obtain ⟨T, ⟨t, hp, l⟩, hT⟩ := hbody cdv A outer s H S hS E (fun x => ∀ fs d H', Evl.Ex H H' → H d = none → H' d = some (.xd fs) → fs.map (·.1) = x.2.map (·.1) → DvL K S H' (x.2.map (·.2)) (fs.map (·.2)) → E (.ref x.1) (some d) H')
    (fun C d fs ds H' q e h1 h2 h3 h4 => q fs d H' e h4 h1 h2 h3) hr
  refine ⟨t, hp, ?_⟩
  refine l S _ H (start N.length ds) _ _ (gd_start (G := ctxX P w K mg base N qual (defScope st) f cdv A outer s H S hS E _ _) (fun _ _ e => e) hS hv (by rw [len _ _ _ hc]; exact hpl)) (hT ds _ hc) ?_
  exact ⟨fun S' σ' H' ρ' g fr q => q .non H' g.wld rfl, fun v d H' hw hv q => q v H' hw hv, fun _ _ _ _ _ _ z => z.elim, fun _ _ _ _ _ _ z => z.elim⟩
section
variable {G : Ctx} {S : Addr → Prop} {σ : L2.St} {H H' : Hp} {ρ : List Slot} {pos : Pos}
abbrev TkG (G : Ctx) : Prop := Takes G.X (fun cls d _ H => G.E cls d H)
/-- a raised one's way out -/
theorem elink' (g : Gd G S σ H ρ) {x : Exc} {fs : List (Str × V)} {d : Addr} (h : G.EX x) (e : Evl.Ex H H') (hd : H d = none) (hf : H' d = some (.xd fs)) (hn : fs.map (·.1) = x.2.map (·.1)) (hv : DvL G.X.K S H' (x.2.map (·.2)) (fs.map (·.2))) : G.E (.ref x.1) (some d) H' :=
  G.elink x.1 d fs x.2 H' h (Stp.ex g.wld e).wld hf hn (hv.move fun a o n q => ⟨fun z => n (g.sub a z), q⟩) (g.fresh0 hd)
theorem spD_useX {C : Con} {vs : List V} {ds : List Dat} {P : Dat → Prop} {Q : VK} (g : Gd G S σ H ρ) (hv : DvL G.X.K S H ds vs) (h : C.C ds P G.EX) (q : ∀ v d H', Stp G H H' → Dv G.X.K S H' d v → P d → Q v H') : spD G.X.K C vs H Q G.E :=
  ⟨S, ds, g.all, hv, C.mono ds _ _ _ _ h (fun d hp v H' e hd => q v d H' (Stp.ex g.wld e) hd hp) fun x hx fs d H' e hd hf hn hv => elink' g hx e hd hf hn hv⟩
/-- a def by its name that may raise -/
structure CalleeX (P : Program) (w : World) (K : PySem.W.Frag) (mg : Str → Option Value) (base : Heap) (x : Str) (k : Nat) (ps : List Str) (C : Con) : Prop where
  ex : ∃ f fd, FnOk P w K mg base (L2.CX P w) k f fd ps (spD K C) ∧ mg x = some (.ref f) ∧ PySem.W.keepIn K (.ref f) = true ∧ Binds K fd ps []
theorem de_fnX {x : Str} {k m : Nat} {ps : List Str} {C : Con} {p : Pos} {e : Expr} {es : List Expr} {Fs : FA} (h : CalleeX G.X.prog G.X.w G.X.K G.X.mg G.X.base x k ps C) (hr : Room m G.X.A) (ha : DA G (e :: es) Fs) (hk : k ≤ m := by decide) (tk : TkG G := by exact takes_of rfl rfl rfl rfl) (hg : Gl G.X x := by rfl) (hdb : (x == ("__debug__" : Str)) = false := by decide)
    (he : starEach (e :: es) G.X.env = (false, eval e G.X.env) :: starEach es G.X.env := by rfl) (hpl : (backTo pos (starEach es G.X.env)).any (·.1) = false := by rfl) :
    DE G (.Call (.Name x p) (e :: es) [] pos) (fun ρ P => Fs ρ fun ds => C.C ds P G.EX) := by
  obtain ⟨f, fd, F, hm, hkp, hb⟩ := h.ex
  obtain ⟨t, h, l⟩ := ha.ex
  refine ⟨⟨_, pe_call F (hr.mono hk) hg hm hkp hb .nil (passes_call tk fun _ _ _ _ z => z) h hdb he hpl, fun S σ H ρ P Q g h q => ?_⟩⟩
  refine l S σ H ρ _ _ g h fun vs ds H1 st hv hp => ?_
  rw [List.append_nil]
  exact spD_useX (g.step st) hv hp fun v d H2 st2 => q v d H2 (st.trans st2)
/-! ### an own error over ValueError, of one field -/
/-- what its __init__ keeps -/
def spInit (K : PySem.W.Frag) (fld : Str) : Sp := fun vs H Q E => ∃ (a C : Addr) (y : V), vs = [.ref a, y] ∧ OexC K C ∧ PySem.W.findIn K (.ref C) fld = some none ∧ H a = some (exo a C none) ∧ ∀ dx, H dx = none → dx ≠ a → Q .non (upd (upd H dx (exd dx [(fld, y)])) a (exo a C (some dx)))
/-- what the written part says of it -/
structure OwnX (P : Program) (w : World) (K : PySem.W.Frag) (mg : Str → Option Value) (base : Heap) (x : Str) (C : Addr) (fld : Str) (k : Nat) : Prop where
  T : OexC K C
  m : mg x = some (.ref C)
  no : PySem.W.findIn K (.ref C) fld = some none
  ex : ∃ fI fd ps, PySem.W.findIn K (.ref C) "__init__" = some (some (.ref fI)) ∧ PySem.W.typeIn K (.ref fI) = some (.type "function") ∧ FnOk P w K mg base CX0 k fI fd ps (spInit K fld) ∧ Binds K fd ps []
theorem ds_raise {x fld : Str} {C : Addr} {k m : Nat} {e : Expr} {F : FE} {p pos pos' : Pos} (O : OwnX G.X.prog G.X.w G.X.K G.X.mg G.X.base x C fld k) (hr : Room m G.X.A) (he : DE G e F) (hk : k + 1 ≤ m := by decide) (hc : G.X.calm = true := by rfl) (tk : TkG G := by exact takes_of rfl rfl rfl rfl) (hg : Gl G.X x := by rfl) (hdb : (x == ("__debug__" : Str)) = false := by decide)
    (hs : starEach [e] G.X.env = (false, eval e G.X.env) :: starEach [] G.X.env := by rfl) (hpl : (backTo pos (starEach [] G.X.env)).any (·.1) = false := by rfl) :
    DS G (.Raise (some (.Call (.Name x p) [e] [] pos)) none pos') (fun _ ρ => F ρ fun d => G.EX (C, [(fld, d)])) := by
  obtain ⟨fI, fd, ps, i1, i2, F1, hb⟩ := O.ex
  obtain ⟨t, h, l⟩ := he.ex
  have hx : Passes CX0 G.X (fun _ _ _ => False) := pass0
  refine ⟨⟨_, ps_raise hc tk (pmk_oex O.T i1 i2 F1 (hr.mono hk) hb .nil hx hg O.m (pa_cons h pa_nil hs) hdb hs hpl), fun S σ H ρ D Dh g h q => ?_⟩⟩
  refine l S σ H ρ _ _ g h fun v d H1 st hv hp => ?_
  refine ⟨show 1 ≤ 1000 by decide, fun a na => ?_⟩
  have g1 := g.step st
  refine ⟨a, C, v, rfl, O.T, O.no, upd_same, fun dx ndx dne => ⟨rfl, dx, [(fld, v)], upd_same, ?_, ?_, ?_⟩⟩
  · rw [upd_ne dne, upd_same]
  · rw [upd_ne dne] at ndx; exact ndx
  · rw [upd_ne dne] at ndx
    have ex : Evl.Ex H1 (upd (del (upd (upd (upd H1 a (exo a C none)) dx (exd dx [(fld, v)])) a (exo a C (some dx))) a) dx (.xd [(fld, v)])) := fun b o e => by
      have h1 : b ≠ dx := fun z => by rw [z, ndx] at e; cases e
      have h2 : b ≠ a := fun z => by rw [z, na] at e; cases e
      rw [upd_ne h1, del_ne h2, upd_ne h2, upd_ne h1, upd_ne h2]
      exact e
    exact elink' (x := (C, [(fld, d)])) (fs := [(fld, v)]) g1 hp ex ndx upd_same rfl ⟨v, [], rfl, (Stp.ex g1.wld ex).dv g1 hv, rfl⟩
end
end DL
namespace DL
open PySem PySem.Spec PyProof.Rows L2
section
variable {G : Ctx} {S : Addr → Prop} {σ : L2.St} {H H' : Hp} {ρ : List Slot} {pos : Pos} {a b : Expr} {Fa Fb : FE} {F : FE} {e : Expr}
/-! ### isinstance -/
theorem tyX_of {K : PySem.W.Frag} {d : Dat} {v : V} (h : Dv K S H d v) : TyX K H v (.type (tyName d)) := by
  cases d with
  | non => cases (h : v = .non); exact .base .non
  | bl b => cases (h : v = .bl b); exact .base (.bl b)
  | int b => cases (h : v = .int b); exact .base (.int b)
  | str b => cases (h : v = .str b); exact .base (.str b)
  | tup ds =>
    obtain ⟨a, xs, rfl, e, _⟩ := dv_tup h
    rcases e with ⟨_, e⟩ | ⟨o, its, n, e, c, _⟩
    · exact .base (.tup e)
    · exact .kTuple e c
  | lst ds =>
    obtain ⟨a, xs, rfl, n, e, _⟩ := dv_lst h
    exact .base (.lst e)
  | dic ks ds =>
    obtain ⟨a, xs, rfl, n, e, _⟩ := dv_dic h
    exact .base (.dK e)
  | anl =>
    obtain ⟨a, xs, rfl, n, e⟩ := dv_anl h
    exact .base (.lst e)
  | adc =>
    obtain ⟨a, xs, rfl, n, e⟩ := dv_adc h
    exact .base (.dK e)
/-! ### == with one side shallow -/
/-! ### ints -/
theorem de_mod (ha : DE G a Fa) (hb : DE G b Fb) : DE G (.BinOp a .Mod b pos) (fun ρ P => Fa ρ fun x => Fb ρ fun y => intD (fun i j => .int (i % j)) (fun _ j => 0 < j) x y P) := de_bin op_mod serves_I ha hb
theorem de_mulI (ha : DE G a Fa) (hb : DE G b Fb) : DE G (.BinOp a .Mult b pos) (fun ρ P => Fa ρ fun x => Fb ρ fun y => intD (fun i j => .int (i * j)) CMul x y P) := de_bin op_mul serves_I ha hb
theorem de_pow (ha : DE G a Fa) (hb : DE G b Fb) : DE G (.BinOp a .Pow b pos) (fun ρ P => Fa ρ fun x => Fb ρ fun y => intD (fun i j => .int (i ^ j.toNat)) CPow x y P) := de_bin op_pow serves_I ha hb
theorem de_fdiv (ha : DE G a Fa) (hb : DE G b Fb) : DE G (.BinOp a .FloorDiv b pos) (fun ρ P => Fa ρ fun x => Fb ρ fun y => intD (fun i j => .int (i / j)) CDiv x y P) := de_bin op_fdiv serves_I ha hb
/-! ### a sign in a text -/
end
end DL
namespace DL
open PySem PySem.Spec PyProof.Rows L2
section
variable {G : Ctx} {S S' : Addr → Prop} {σ : L2.St} {H H' : Hp} {ρ : List Slot} {pos : Pos} {a b : Expr} {Fa Fb : FE} {F : FE} {e : Expr}
/-- a scratch object that no slot owns is changed, and owned by a slot -/
theorem Gd.ownAt (g : Gd G S σ H ρ) {i : Nat} {s : Slot} {p : Addr} {o : HO} (sp : S p) (e0 : G.H0 p = none) (hx : ∀ φ, H p ≠ some (.ext φ)) (hs : s.isOwn = true) (other : ∀ (j : Nat) sj, ρ[j]? = some sj → sj.isOwn = true → σ[j]? = some (some (.ref p)) → False) (h : SlotOk G.X.K S G.H0 (upd H p o) (some (.ref p)) s) :
    Gd G S (σ.set i (some (.ref p))) (upd H p o) (ρ.set i s) ∧ Fr S H S (upd H p o) := by
  have fr : Fr S H S (upd H p o) := fun b u n e => ⟨n, by rw [upd_ne (fun z => n (by rw [z]; exact sp))]; exact e⟩
  refine ⟨⟨G.clo H _ g.wld (fun b u u0 e e' => ?_) (keepX_upd hx), fun b hb => ?_, g.sub, by simp [g.len], fun j t ht => ?_, fun j k sj sk w h1 h2 o1 o2 e1 e2 => ?_⟩, fr⟩
  · rw [upd_ne (fun z => by rw [z, e0] at e; cases e)]; exact e'
  · by_cases hbp : b = p
    · exact ⟨o, by rw [hbp]; exact upd_same⟩
    · obtain ⟨u, e⟩ := g.all b hb
      exact ⟨u, by rw [upd_ne hbp]; exact e⟩
  · rw [getset] at ht
    rw [getset]
    by_cases hj : j = i
    · subst hj
      rw [if_pos rfl] at ht ⊢
      have hl := g.len
      by_cases hi : j < ρ.length
      · rw [if_pos hi] at ht
        cases ht
        rw [if_pos (by omega)]
        exact h
      · rw [if_neg hi] at ht; cases ht
    · rw [if_neg hj] at ht ⊢
      refine (g.slots j t ht).move fr (fun _ z => z) fun b v ob eb e => ?_
      have hne : b ≠ p := fun z => by
        subst z
        have eb' : σ[j]? = some (some (.ref b)) := by
          cases ee : σ[j]? with
          | none => rw [ee] at eb; cases eb
          | some o => rw [ee] at eb; cases eb; rfl
        exact other j t ht ob eb'
      rw [upd_ne hne]; exact e
  · rw [getset] at h1 h2
    rw [getset] at e1 e2
    by_cases hj : j = i
    · by_cases hk : k = i
      · omega
      · rw [if_pos hj] at e1
        split at e1
        · cases e1
          rw [if_neg hk] at h2 e2
          exact (other k sk h2 o2 e2).elim
        · cases e1
    · by_cases hk : k = i
      · rw [if_pos hk] at e2
        split at e2
        · cases e2
          rw [if_neg hj] at h1 e1
          exact (other j sj h1 o1 e1).elim
        · cases e2
      · rw [if_neg hj] at h1 e1
        rw [if_neg hk] at h2 e2
        exact g.apart j k sj sk w h1 h2 o1 o2 e1 e2
/-! ### {k: v, ..} -/
abbrev FP := List Slot → (List (Key × Dat) → Prop) → Prop
structure DPs (G : Ctx) (pos : Pos) (keys : List (Option Expr)) (values : List Expr) (F : FP) : Prop where
  ex : ∃ trs, PPs G.X pos keys values trs ∧ ∀ S σ H ρ P (Q : List (V × V) → Hp → Prop), Gd G S σ H ρ → F ρ P → (∀ (kvs : List (Key × V)) l H', Stp G H H' → RelP G.X.K S H' kvs l → P l → Q (kvs.map fun kv => (kV kv.1, kv.2)) H') → tPairs trs σ H Q
theorem dps_nil : DPs G pos [] [] (fun _ P => P []) := ⟨⟨[], pps_nil, fun S σ H ρ P Q g h q => q [] [] H (Stp.refl g.wld) ⟨rfl, rfl⟩ h⟩⟩
theorem dps_cons {ks : List (Option Expr)} {vs : List Expr} {Fr : FP} (ha : DE G a Fa) (hb : DE G b Fb) (hr : DPs G pos ks vs Fr) : DPs G pos (some a :: ks) (b :: vs) (fun ρ P => Fa ρ fun x => isS x fun z => Fb ρ fun y => Fr ρ fun l => P ((.inr z, y) :: l)) := by
  obtain ⟨ta, h1, l1⟩ := ha.ex
  obtain ⟨tb, h2, l2⟩ := hb.ex
  obtain ⟨tr, h3, l3⟩ := hr.ex
  refine ⟨⟨_, pps_cons h1 h2 h3, fun S σ H ρ P Q g h q => ?_⟩⟩
  refine l1 S σ H ρ _ _ g h fun v d H1 st hv hp => ?_
  have g1 := g.step st
  obtain ⟨z, rfl, hp⟩ := isS_inv hp
  cases dv_str hv
  refine l2 S σ H1 ρ _ _ g1 hp fun v2 d2 H2 st2 hv2 hp => ?_
  have g2 := g1.step st2
  refine l3 S σ H2 ρ _ _ g2 hp fun kvs l H3 st3 hrel hp => ?_
  exact q ((.inr z, v2) :: kvs) ((.inr z, d2) :: l) H3 ((st.trans st2).trans st3) ⟨by rw [List.map_cons, List.map_cons, hrel.1], v2, _, rfl, st3.dv g2 hv2, hrel.2⟩ hp
theorem disp_own {keys : List (Option Expr)} {values : List Expr} {Fp : FP} (hp : DPs G pos keys values Fp) (hall : keys.all (·.isSome) = true) (hl : keys.length = values.length) (h0 : keys ≠ []) (h15 : keys.length ≤ 15) :
    ∃ t, PE G.X (.Dict keys values pos) t ∧ ∀ S σ H ρ P (Q : VK), Gd G S σ H ρ → Fp ρ P → (∀ l, P l → l.length ≤ 15) → (∀ p H2 kvs l, H p = none → Gd G (fun a => S a ∨ a = p) σ H2 ρ → Fr S H (fun a => S a ∨ a = p) H2 → H2 p = some (.dK []) → RelP G.X.K (fun a => S a ∨ a = p) H2 kvs (mergeP [] l) → Stp G H (upd H2 p (.dK kvs)) → P l → Q (.ref p) (upd H2 p (.dK kvs))) → t σ H Q := by
  obtain ⟨trs, h, l⟩ := hp.ex
  refine ⟨_, pe_disp h hall hl h0 h15, fun S σ H ρ P Q g hf hlen q => fun p np => ?_⟩
  obtain ⟨g1, fr1⟩ := g.grow (o := .dK []) np
  have stn : Stp G H (upd H p (.dK [])) := Stp.new g.wld np
  refine l _ σ _ ρ P _ g1 hf fun kvs lt H2 st hrel hP => ?_
  have e0 := g.fresh0 np
  have ns0 : ¬ G.S0 p := fun z => g.fresh np (g.sub p z)
  have hp2 : H2 p = some (.dK []) := st.keep p _ ns0 upd_same
  refine ⟨hp2, kvs, rfl, ?_, ?_⟩
  · have e := congrArg List.length hrel.1
    rw [List.length_map, List.length_map] at e
    rw [e]
    exact hlen lt hP
  · have st2 : Stp G H (upd H2 p (.dK (mergeK [] kvs))) := by
      have s12 := stn.trans st
      refine ⟨G.clo H2 _ s12.wld (fun b u u0 e e' => ?_) (keepX_upd fun φ z => by rw [hp2] at z; cases z), fun b u n e => ?_, fun b u e => ?_⟩
      · rw [upd_ne (fun z => by rw [z, e0] at e; cases e)]; exact e'
      · have hb : b ≠ p := fun z => by rw [z, np] at e; cases e
        rw [upd_ne hb]
        exact s12.keep b u n e
      · have hb : b ≠ p := fun z => by rw [z, np] at e; cases e
        rw [upd_ne hb]
        exact s12.has b u e
    exact q p H2 _ lt np (g1.step st) (fun b u n e => by
        obtain ⟨n1, e1⟩ := fr1 b u n e
        exact ⟨n1, st.keep b u (fun z => n1 (.inl (g.sub b z))) e1⟩) hp2 (RelP.merge ⟨rfl, rfl⟩ hrel) st2 hP
/-- name = {..}, the dict one's own -/
theorem ds_setDisp {x : Str} {pos' p2 : Pos} {keys : List (Option Expr)} {values : List Expr} {Fp : FP} (i : Nat) (hp : DPs G p2 keys values Fp) (hN : G.X.N.Nodup) (hi : G.X.N[i]? = some x := by rfl) (hx : Loc G.X.env.scope x := by first | exact Or.inl rfl | exact Or.inr rfl) (hs : swapsWith (.Dict keys values p2) (some (.Name x pos')) pos.line G.X.env = pure false := by rfl)
    (hf : G.X.fn x = true ∨ G.X.env.scope.names.lookup x = some .local := by first | exact .inl rfl | exact .inr rfl) (hall : keys.all (·.isSome) = true := by rfl) (hl : keys.length = values.length := by rfl) (h0 : keys ≠ [] := by simp) (h15 : keys.length ≤ 15 := by decide) :
    DS G (.Assign [.Name x pos'] (.Dict keys values p2) pos) (fun D ρ => Fp ρ fun l => l.length ≤ 15 ∧ D.nx (ρ.set i (.ownd ((mergeP [] l).map (·.1)) ((mergeP [] l).map (·.2))))) := by
  obtain ⟨t, h, k⟩ := disp_own hp hall hl h0 h15
  refine ⟨⟨_, ps_set (i := i) hN hi hx h hs hf, fun S σ H ρ D Dh g hf q => ?_⟩⟩
  refine k S σ H ρ _ _ g hf (fun l z => z.1) fun p H2 kvs l np g2 fr hu rel st hP => ?_
  have e0 := g.fresh0 np
  have frp : Fr (fun a => S a ∨ a = p) H2 (fun a => S a ∨ a = p) (upd H2 p (.dK kvs)) := fun b u n e => ⟨n, by rw [upd_ne (fun z => n (.inr z))]; exact e⟩
  obtain ⟨g3, fr3⟩ := g2.ownAt (i := i) (s := .ownd ((mergeP [] l).map (·.1)) ((mergeP [] l).map (·.2))) (o := .dK kvs) (.inr rfl) e0 (fun φ z => by rw [hu] at z; cases z) rfl (fun j sj hj oj e => by
    have q := g.slots j sj hj
    rw [e] at q
    obtain ⟨a, u, e1, _, e2, _⟩ := SlotOk.addr q oj
    cases e1
    rw [np] at e2; cases e2) ⟨p, kvs, rfl, .inr rfl, e0, upd_same, rel.1, rel.2.move frp⟩
  exact q.nx _ _ _ _ g3 (fr.trans fr3) hP.2
def owndL (ρ : List Slot) (i : Nat) (P : List (Key × Dat) → Prop) : Prop := match ρ[i]? with
  | some (.ownd ks ds) => ks.length = ds.length ∧ P (ks.zip ds)
  | _ => False
theorem owndL_inv {ρ : List Slot} {i : Nat} {P : List (Key × Dat) → Prop} (h : owndL ρ i P) : ∃ ks ds, ρ[i]? = some (.ownd ks ds) ∧ ks.length = ds.length ∧ P (ks.zip ds) := by
  unfold owndL at h
  split at h
  · rename_i ks ds e; exact ⟨ks, ds, e, h⟩
  · exact h.elim
theorem owndL_here {ρ : List Slot} {i : Nat} {l : List (Key × Dat)} {P : List (Key × Dat) → Prop} (e : ρ[i]? = some (.ownd (l.map (·.1)) (l.map (·.2)))) (h : P l) : owndL ρ i P := by
  unfold owndL
  rw [e]
  refine ⟨by simp, ?_⟩
  have : (l.map (·.1)).zip (l.map (·.2)) = l := by
    clear e h
    induction l with
    | nil => rfl
    | cons x r ih => rw [List.map_cons, List.map_cons, List.zip_cons_cons, ih]
  rw [this]
  exact h
theorem Gd.slot_ownd (g : Gd G S σ H ρ) {i : Nat} {ks : List Key} {ds : List Dat} (e : ρ[i]? = some (.ownd ks ds)) : ∃ p kvs, σ[i]? = some (some (.ref p)) ∧ S p ∧ G.H0 p = none ∧ H p = some (.dK kvs) ∧ kvs.map (·.1) = ks ∧ DvL G.X.K S H ds (kvs.map (·.2)) := by
  have q := g.slots i _ e
  cases h : σ[i]? with
  | none => rw [h] at q; exact q.elim
  | some o =>
    rw [h] at q
    cases o with
    | none => exact q.elim
    | some v =>
      obtain ⟨p, kvs, rfl, r⟩ := (show SlotOk G.X.K S G.H0 H (some v) (.ownd ks ds) from q)
      exact ⟨p, kvs, rfl, r⟩
theorem relP_zip {K : PySem.W.Frag} {kvs : List (Key × V)} {ks : List Key} {ds : List Dat} (h1 : kvs.map (·.1) = ks) (h2 : DvL K S H ds (kvs.map (·.2))) (hl : ks.length = ds.length) : RelP K S H kvs (ks.zip ds) := by
  refine ⟨?_, ?_⟩
  · rw [h1, List.map_fst_zip (by omega)]
  · rw [List.map_snd_zip (by omega)]; exact h2
/-- name[k] = e, the dict one's own -/
theorem ds_dput {x : Str} {k e : Expr} {Fk F : FE} {np sp : Pos} (i : Nat) (hu : G.X.A.units + 1 < cLine) (hk : DE G k Fk) (he : DE G e F) (hi : G.X.N[i]? = some x := by rfl) (hv : Vis G.X.env.scope x := by first | exact Or.inl rfl | exact Or.inr (Or.inl rfl) | exact Or.inr (Or.inr rfl)) (hd : (x == ("__debug__" : Str)) = false := by decide)
    (hcd : (x == ("__classdict__" : Str)) = false := by decide) (hs : swapsWith e (some (.Subscript (.Name x np) k sp)) pos.line G.X.env = pure false := by rfl) :
    DS G (.Assign [.Subscript (.Name x np) k sp] e pos) (fun D ρ => F ρ fun y => owndL ρ i fun l => Fk ρ fun z => isS z fun z => l.length < sizeLine ∧ D.nx (ρ.set i (.ownd ((putP l (.inr z) y).map (·.1)) ((putP l (.inr z) y).map (·.2))))) := by
  obtain ⟨te, h1, l1⟩ := he.ex
  obtain ⟨tk, h2, l2⟩ := hk.ex
  refine ⟨⟨_, ps_dput hu (pe_var hi hv hd hcd) h2 h1 hs, fun S σ H ρ D Dh g h q => ?_⟩⟩
  refine l1 S σ H ρ _ _ g h fun v d H1 st hv1 hp => ?_
  have g1 := g.step st
  obtain ⟨ks, ds, es, hl, hf⟩ := owndL_inv hp
  obtain ⟨p, kvs, e1, _⟩ := g1.slot_ownd es
  refine ⟨.ref p, e1, l2 S σ H1 ρ _ _ g1 hf fun v2 d2 H2 st2 hv2 hp => ?_⟩
  have g2 := g1.step st2
  obtain ⟨z, rfl, hz, hp⟩ := isS_inv hp
  cases dv_str hv2
  obtain ⟨p', kvs, e1', sp', e0, eh, ek, hv'⟩ := g2.slot_ownd es
  cases e1.symm.trans e1'
  have rel := relP_zip ek hv' hl
  have len : kvs.length < sizeLine := by
    have e := congrArg List.length rel.1
    rw [List.length_map, List.length_map] at e
    rw [e]; exact hz
  refine ⟨p, _, rfl, DPut.k (k := Sum.inr z) eh len, ?_⟩
  have rel2 := rel.put (k := Sum.inr z) (st2.dv g1 hv1)
  have frp : Fr S H2 S (upd H2 p (.dK (putK kvs (Sum.inr z) v))) := fun b u n e => ⟨n, by rw [upd_ne (fun z => n (by rw [z]; exact sp'))]; exact e⟩
  obtain ⟨g3, fr3⟩ := g2.write (s' := .ownd ((putP (ks.zip ds) (.inr z) d).map (·.1)) ((putP (ks.zip ds) (.inr z) d).map (·.2))) es e1' rfl rfl ⟨p, _, rfl, sp', e0, upd_same, rel2.1, rel2.2.move frp⟩
  exact q.nx _ _ _ _ g3 ((Fr.trans (st.fr g) (st2.fr g1)).trans fr3) hp
end
end DL
namespace DL
open PySem PySem.Spec PyProof.Rows L2
section
variable {G : Ctx} {S S' : Addr → Prop} {σ : L2.St} {H H' : Hp} {ρ : List Slot} {pos : Pos} {a b : Expr} {Fa Fb : FE} {F : FE} {e : Expr}
end
end DL
namespace DL
open PySem PySem.Spec PyProof.Rows L2
section
variable {prog : Program} {w : World} {A : Around} {E : Value → Shared → Prop} {s : Shared}
/-! ### a tuple and a list -/
end
/-! ### zip(t, l) made -/
section
variable {prog : Program} {w : World} {A : Around} {E : Value → Shared → Prop} {s : Shared}
end
end DL
namespace DL
open PySem PySem.Spec PyProof.Rows L2
section
variable {G : Ctx} {S S' : Addr → Prop} {H H' : Hp} {pos : Pos} {a b : Expr}
end
end DL
namespace DL
open PySem PySem.Spec PyProof.Rows L2
section
variable {G : Ctx} {S S' : Addr → Prop} {σ : L2.St} {H H' : Hp} {ρ : List Slot} {pos : Pos} {a b : Expr} {Fa Fb : FE}
end
end DL
namespace DL
open PySem PySem.Spec PyProof.Rows L2
section
variable {G : Ctx} {S : Addr → Prop} {H : Hp} {pos : Pos} {a b : Expr} {Fa Fb : FE}
end
end DL
namespace DL
open PySem PySem.Spec PyProof.Rows L2
section
variable {G : Ctx} {S : Addr → Prop} {σ : L2.St} {H H' : Hp} {ρ : List Slot} {pos : Pos} {e : Expr} {F : FE}
end
end DL
namespace DL
open PySem PySem.Spec PyProof.Rows L2
/-! ### repr of a list -/
def rReprL (K : PySem.W.Frag) : List V → Hp → VK → Prop := fun xs H Q => ∃ (a : Addr) (d : PyData), xs = [.ref a] ∧ Dp K H (.ref a) d ∧ d.showable = true ∧ d.hasDict = false ∧ d.depth ≤ 60 ∧ d.shown.length ≤ sizeLine ∧ Q (.str d.shown) H
theorem call_reprL {X : Cx} (hg : X.A.guards = some []) (hu : X.A.units + 64 < cLine) : CallR X (.builtin "repr") (rReprL X.K) := by
  rintro pins s σ H xs us Q I r ⟨a, d, rfl, hd, h1, h2, h3, h4, q⟩
  obtain ⟨u, rfl, ru⟩ := vals1 r
  obtain rfl : u = Value.ref a := ru
  obtain ⟨as, rd⟩ := Dp.reads I d (.ref a) (.ref a) hd rfl
  exact repr_of_reads' rd h1 (fun z => by rw [h2] at z; cases z) hg (by omega) (fun _ _ e => e) (fun h' u tk k => ⟨.str d.shown, H, I.kept (t' := tk) k, ⟨_, rfl⟩, q⟩) h4
section
variable {G : Ctx} {S : Addr → Prop} {H : Hp} {pos : Pos} {a : Expr}
def reprD (ds : List Dat) (P : Dat → Prop) : Prop := match ds with
  | [.lst xs] => (toP (.lst xs)).canLay0 = true ∧ (toP (.lst xs)).showable = true ∧ (toP (.lst xs)).hasDict = false ∧ (toP (.lst xs)).depth ≤ 60 ∧ (toP (.lst xs)).shown.length ≤ sizeLine ∧ P (.str (toP (.lst xs)).shown)
  | _ => False
theorem serves_repr : ServesC G (rReprL G.X.K) reprD := by
  intro S σ ρ H vs ds P Q g hv h q
  unfold reprD at h
  split at h
  · rename_i xs
    obtain ⟨h0, h1, h2, h3, h4, hp⟩ := h
    obtain ⟨v, rfl, hd⟩ := dvl1 hv
    obtain ⟨p, us, rfl, n, e, hl⟩ := dv_lst hd
    exact ⟨p, _, rfl, dp_of _ _ hd h0, h1, h2, h3, h4, q _ (.str _) H (Stp.refl g.wld) rfl hp⟩
  · exact h.elim
theorem de_repr {p : Pos} {Fs : FA} (hgd : G.X.A.guards = some []) (hu : G.X.A.units + 64 < cLine) (hm : G.X.mg "repr" = none) (ha : DA G [a] Fs) (hg : Gl G.X "repr" := by rfl) (he : starEach [a] G.X.env = (false, eval a G.X.env) :: starEach [] G.X.env := by rfl) :
    DE G (.Call (.Name "repr" p) [a] [] pos) (fun ρ P => Fs ρ fun ds => reprD ds P) := de_cb (call_reprL hgd hu) serves_repr hm (by decide +kernel) ha hg (he := he)
end
end DL
namespace DL
open PySem PySem.Spec PyProof.Rows L2
/-! ### defs that are called where no repr is under way -/
structure FnG (P : Program) (w : World) (K : PySem.W.Frag) (mg : Str → Option Value) (base : Heap) (CX : CXT) (k : Nat) (f : Addr) (fd : FuncData) (ps : List Str) (sp : Sp) : Prop where
  len : ∀ vs H Q E, sp vs H Q E → vs.length = ps.length
  run : ∀ (A : Around) (outer : List Env) (s : Shared) (H : Hp) (args : Args) (us : List Value) (vs : List V) (Q : VK) (E : XK), Room k A → A.guards = some [] → Env0 P w K mg base A outer s H → BindsTo s fd args (ps.zip us) → Vals vs us → sp vs H Q E → codeAny (model P w) A (.call (.ref f) args) (CR CX outer P w H s Q E) s
theorem fnG_of {CX : CXT} {P : Program} {w : World} {K : PySem.W.Frag} {mg : Str → Option Value} {base : Heap} {k : Nat} {f : Addr} {name qual : Str} {params : Arguments} {body : List Stmt} {scope : Scope} {dV kV doc pm cdv ct oc : Value} {an od : Option Addr} {osl : Array (Option Value)} {N ps : List Str} {sp : Sp}
    (lk : K.lookup f = some ⟨oc, od, .func (PySem.W.fnOf name qual params body scope dV kV doc pm an cdv ct), osl⟩) (hcd : PySem.W.codeIn K cdv qual = true) (S : FnScope N ps scope) (len : ∀ vs H Q E, sp vs H Q E → vs.length = ps.length)
    (hbody : ∀ (A : Around) (outer : List Env) (s : Shared) (H : Hp) (vs : List V) (Q : VK) (E : XK), A.guards = some [] → Room k (A.deeper (envOfC qual scope s.heap.objs.size f cdv)) → sp vs H Q E → ∃ t, PSs (cxOf CX P w K mg base N qual scope f cdv A outer s H E) body t ∧ t { nx := fun _ H' => Q .non H', rt := Q } (L2.start N vs) H) :
    FnG P w K mg base CX (k + 1) f (PySem.W.fnOf name qual params body scope dV kV doc pm an cdv ct) ps sp := by
  refine ⟨len, fun A outer s H args us vs Q E hr hgd e0 hb r hsp => ?_⟩
  have inK : K.In s.heap := e0.mod.kin.keeps fun b o e => (e0.bs b o e).1
  have lim : s.heap.NoLimit := e0.mod.nolimit.keeps fun b o e => (e0.bs b o e).1
  have kinds : ∀ y ∈ ps.zip us, scope.names.lookup y.1 = some .local ∨ (scope.names.lookup y.1 = some .cell ∧ ((cellsFrom (s.heap.objs.size + 1) scope.names []).lookup y.1).isSome = true) := by
    rintro ⟨n, v⟩ hy
    exact (S.par n (List.of_mem_zip hy).1).imp id fun q => ⟨q, PySem.W.cellsFrom_some _ _ _ (.inl q)⟩
  refine codeAny_call_function hr.depth (inK _ _ lk) rfl S.co S.gen rfl (PySem.W.codeRec_of inK hcd) (hb _ _ _ _ (wpAny_newFunctionEnv_cells S.kind kinds fun env he s1 x => ?_))
  subst he
  refine ⟨lim.keeps x.toInCall.keep, codeAny_func ?_⟩
  obtain ⟨t, ht, hq⟩ := hbody A outer s H vs Q E hgd (hr.deeper _) hsp
  have I := inv_start (CX := CX) (E := E) S hr.hd e0 (len _ _ _ _ hsp) r x
  refine wpAny_mono (ht.run [] s1 (L2.start N vs) H _ I hq) (fun fl s' hs => ?_) fun e s' hs => hs
  match fl, hs with
  | .ret u, ⟨v, σ', H', J, rv, q⟩ => exact ⟨v, H', J.os, J.bare, J.base, J.hok, rv, q⟩
  | .next, ⟨σ', H', J, q⟩ => exact ⟨.non, H', J.os, J.bare, J.base, J.hok, rfl, q⟩
  | .brk, ⟨_, _, _, q⟩ => exact False.elim q
  | .cont, ⟨_, _, _, q⟩ => exact False.elim q
theorem FnG.mono {P : Program} {w : World} {K : PySem.W.Frag} {mg : Str → Option Value} {base : Heap} {CX : CXT} {j k : Nat} {f : Addr} {fd : FuncData} {ps : List Str} {sp : Sp} (F : FnG P w K mg base CX j f fd ps sp) (h : j ≤ k) : FnG P w K mg base CX k f fd ps sp := ⟨F.len, fun A outer s H args us vs Q E hr => F.run A outer s H args us vs Q E (hr.mono h)⟩
theorem pe_callG {X : Cx} {CX : CXT} {k : Nat} {f : Addr} {fd : FuncData} {ps : List Str} {sp : Sp} {E : XK} {x : Str} {p pos : Pos} {e : Expr} {es : List Expr} {t : TA} (F : FnG X.prog X.w X.K X.mg X.base CX k f fd ps sp) (hr : Room k X.A) (hgd : X.A.guards = some []) (hg : Gl X x) (hm : X.mg x = some (.ref f)) (hk : PySem.W.keepIn X.K (.ref f) = true) (hb : Binds X.K fd ps []) (hx : Passes CX X E)
    (ha : PA X (e :: es) t) (hdb : (x == ("__debug__" : Str)) = false := by decide) (he : starEach (e :: es) X.env = (false, eval e X.env) :: starEach es X.env := by rfl) (hpl : (backTo pos (starEach es X.env)).any (·.1) = false := by rfl) : PE X (.Call (.Name x p) (e :: es) [] pos) (tCall sp [] E t) := by
  refine ⟨fun pins s σ H Q I h => wpAny_Call_Name_kw (ld_glob I hg hm (PySem.W.callWith_K (h₀ := X.base) I.ok.mod.kin hk (thn (ha.run pos pins s σ H _ I h) fun us s1 ⟨vs, H1, I1, r, q⟩ => ⟨I1.kIn, ?_⟩) he hpl) hdb)⟩
  replace q : sp (vs ++ []) H1 Q E := q
  rw [List.append_nil] at q
  have hl : us.length = ps.length := by rw [← r.length]; exact F.len _ _ _ _ q
  have hb' := hb s1 us I1.kIn (by rw [List.append_nil]; exact hl)
  rw [List.append_nil] at hb'
  refine wpAny_call (codeAny_mono (F.run X.A X.stack s1 H1 ⟨us, []⟩ us vs Q E hr hgd I1.env0 hb' r q) fun r s' hq => ?_)
  match r, hq with
  | .error e, hq => exact hx pins σ H1 s1 e s' I1 hq
  | .ok (.ret u), hq => exact I1.after hq
  | .ok .next, hq => exact False.elim hq
  | .ok .brk, hq => exact False.elim hq
  | .ok .cont, hq => exact False.elim hq
section
variable {G : Ctx} {S : Addr → Prop} {σ : L2.St} {H H' : Hp} {ρ : List Slot} {pos : Pos} {e : Expr} {F : FE}
end
end DL
namespace DL
open PySem PySem.Spec PyProof.Rows L2
/-! ### a state that is handed in: where it lies, what holds of it, by an index -/
def ExF (fp : Addr → Prop) (H H' : Hp) : Prop := ∀ a o, ¬ fp a → H a = some o → H' a = some o
theorem ExF.refl (fp : Addr → Prop) (H : Hp) : ExF fp H H := fun _ _ _ e => e
theorem ExF.trans {fp : Addr → Prop} {H H1 H2 : Hp} (a : ExF fp H H1) (b : ExF fp H1 H2) : ExF fp H H2 := fun c o n e => b c o n (a c o n e)
structure Sta (ι : Type) where
  fp : Addr → Prop
  M : ι → Hp → Prop
  loc : ∀ i H H', M i H → (∀ a o, fp a → H a = some o → H' a = some o) → KeepX H H' → M i H'
  noc : ∀ i H, M i H → ∀ a φ, fp a → H a ≠ some (.ext φ)
  dom : ∀ i H, M i H → ∀ a, fp a → ∃ o, H a = some o
/-- where one stands, by the index -/
structure Fam (ι : Type) where
  X : Cx
  H0 : Hp
  S0 : Addr → Prop
  W : ι → Hp → Prop
  clo : ∀ i H H', W i H → (∀ a o o0, H0 a = some o0 → H a = some o → H' a = some o) → KeepX H H' → W i H'
  top : ∀ i H, W i H → ∀ a o, H0 a = some o → ∃ o', H a = some o'
  s0 : ∀ a, S0 a → ∃ o, H0 a = some o
abbrev Fam.at {ι : Type} (G : Fam ι) (i : ι) : Ctx := { X := G.X, H0 := G.H0, S0 := G.S0, W := G.W i, clo := G.clo i, top := G.top i, s0 := G.s0, E := E0, EX := fun _ => False, elink := fun _ _ _ _ _ z => z.elim }
abbrev Fam.any {ι : Type} (G : Fam ι) : Ctx := { X := G.X, H0 := G.H0, S0 := G.S0, W := fun H => ∃ i, G.W i H, clo := fun H H' ⟨i, h⟩ k x => ⟨i, G.clo i H H' h k x⟩, top := fun H ⟨i, h⟩ => G.top i H h, s0 := G.s0, E := E0, EX := fun _ => False, elink := fun _ _ _ _ _ z => z.elim }
section
variable {ι κ : Type} {G : Fam ι} {S S' : Addr → Prop} {σ : L2.St} {H H' H2 : Hp} {ρ : List Slot} {i j k : ι}
structure StpI (G : Fam ι) (j : ι) (H H' : Hp) : Prop where
  wld : G.W j H'
  keep : ∀ a o, ¬ G.S0 a → H a = some o → H' a = some o
  has : ∀ a o, H a = some o → ∃ o', H' a = some o'
theorem StpI.any (st : StpI G j H H') : Stp G.any H H' := ⟨⟨j, st.wld⟩, st.keep, st.has⟩
theorem StpI.of (st : Stp (G.at i) H H') : StpI G i H H' := ⟨st.wld, st.keep, st.has⟩
theorem StpI.refl (h : G.W i H) : StpI G i H H := ⟨h, fun _ _ _ e => e, fun _ o e => ⟨o, e⟩⟩
theorem StpI.trans (a : StpI G i H H') (b : StpI G j H' H2) : StpI G j H H2 := ⟨b.wld, fun c o n e => b.keep c o n (a.keep c o n e), fun c o e => by
  obtain ⟨o', e'⟩ := a.has c o e
  exact b.has c o' e'⟩
theorem Gd.toAny (g : Gd (G.at i) S σ H ρ) : Gd G.any S σ H ρ := ⟨⟨i, g.wld⟩, g.all, g.sub, g.len, g.slots, g.apart⟩
theorem Gd.ofAny (g : Gd G.any S σ H ρ) (h : G.W i H) : Gd (G.at i) S σ H ρ := ⟨h, g.all, g.sub, g.len, g.slots, g.apart⟩
theorem Gd.stepI (g : Gd (G.at i) S σ H ρ) (st : StpI G j H H') : Gd (G.at j) S σ H' ρ := (g.toAny.step st.any).ofAny st.wld
theorem StpI.dv (st : StpI G j H H') (g : Gd (G.at i) S σ H ρ) {d : Dat} {v : V} (h : Dv G.X.K S H d v) : Dv G.X.K S H' d v := st.any.dv g.toAny h
theorem StpI.dvl (st : StpI G j H H') (g : Gd (G.at i) S σ H ρ) {d : List Dat} {v : List V} (h : DvL G.X.K S H d v) : DvL G.X.K S H' d v := st.any.dvl g.toAny h
theorem StpI.fr (st : StpI G j H H') (g : Gd (G.at i) S σ H ρ) : Fr S H S H' := st.any.fr g.toAny
theorem StpI.new (h : G.W i H) {p : Addr} {o : HO} (n : H p = none) : StpI G i H (upd H p o) := StpI.of (Stp.new (G := G.at i) h n)
end
/-! ### the judgements -/
abbrev FR (ι : Type) := List Slot → ι → (Dat → ι → Prop) → Prop
abbrev FTR (ι : Type) := List Slot → ι → (Bool → ι → Prop) → Prop
abbrev FAR (ι : Type) := List Slot → ι → (List Dat → ι → Prop) → Prop
abbrev FSR' (ι : Type) := List Slot → ι → (List Slot → ι → Prop) → Prop
structure DEndsR (ι : Type) where
  nx : List Slot → ι → Prop
  rt : Dat → ι → Prop
  bk : List Slot → ι → Prop := fun _ _ => False
  ct : List Slot → ι → Prop := fun _ _ => False
abbrev FSR (ι : Type) := DEndsR ι → List Slot → ι → Prop
def LiftR {ι : Type} (G : Fam ι) (t : TE) (F : FR ι) : Prop := ∀ S σ H ρ i P (Q : VK), Gd (G.at i) S σ H ρ → F ρ i P → (∀ v d H' j, StpI G j H H' → Dv G.X.K S H' d v → P d j → Q v H') → t σ H Q
def LiftTR {ι : Type} (G : Fam ι) (t : TT) (F : FTR ι) : Prop := ∀ S σ H ρ i P (Q : Bool → Hp → Prop), Gd (G.at i) S σ H ρ → F ρ i P → (∀ b H' j, StpI G j H H' → P b j → Q b H') → t σ H Q
def LiftAR {ι : Type} (G : Fam ι) (t : TA) (F : FAR ι) : Prop := ∀ S σ H ρ i P (Q : List V → Hp → Prop), Gd (G.at i) S σ H ρ → F ρ i P → (∀ vs ds H' j, StpI G j H H' → DvL G.X.K S H' ds vs → P ds j → Q vs H') → t σ H Q
structure EndsOkR {ι : Type} (G : Fam ι) (S : Addr → Prop) (H : Hp) (D : DEndsR ι) (Dh : Ends) : Prop where
  nx : ∀ S' σ' H' ρ' j, Gd (G.at j) S' σ' H' ρ' → Fr S H S' H' → D.nx ρ' j → Dh.nx σ' H'
  rt : ∀ v d H' j, G.W j H' → Dv G.X.K G.S0 H' d v → D.rt d j → Dh.rt v H'
  bk : ∀ S' σ' H' ρ' j, Gd (G.at j) S' σ' H' ρ' → Fr S H S' H' → D.bk ρ' j → Dh.bk σ' H'
  ct : ∀ S' σ' H' ρ' j, Gd (G.at j) S' σ' H' ρ' → Fr S H S' H' → D.ct ρ' j → Dh.ct σ' H'
def LiftSR {ι : Type} (G : Fam ι) (t : TS) (F : FSR ι) : Prop := ∀ S σ H ρ i D Dh, Gd (G.at i) S σ H ρ → F D ρ i → EndsOkR G S H D Dh → t Dh σ H
structure DR {ι : Type} (G : Fam ι) (e : Expr) (F : FR ι) : Prop where
  ex : ∃ t, PE G.X e t ∧ LiftR G t F
structure DTR {ι : Type} (G : Fam ι) (e : Expr) (F : FTR ι) : Prop where
  ex : ∃ t, PT G.X e t ∧ LiftTR G t F
structure DWR {ι : Type} (G : Fam ι) (e : Expr) (F : FTR ι) : Prop where
  ex : ∃ t, PW G.X e t ∧ LiftTR G t F
structure DAR {ι : Type} (G : Fam ι) (es : List Expr) (F : FAR ι) : Prop where
  ex : ∃ t, PA G.X es t ∧ LiftAR G t F
structure DSR {ι : Type} (G : Fam ι) (st : Stmt) (F : FSR ι) : Prop where
  ex : ∃ t, PS G.X st t ∧ LiftSR G t F
structure DBR {ι : Type} (G : Fam ι) (st : List Stmt) (F : FSR ι) : Prop where
  ex : ∃ t, PSs G.X st t ∧ LiftSR G t F
section
variable {ι κ : Type} {G : Fam ι} {S S' : Addr → Prop} {σ : L2.St} {H H' H2 : Hp} {ρ : List Slot} {pos : Pos} {a b c e : Expr} {es rest : List Expr} {Fa Fb : FR ι}
/-- what asks nothing of the state -/
theorem dr_of {F : ι → FE} (h : ∀ i, DE (G.at i) e (F i)) : DR G e (fun ρ i P => F i ρ fun d => P d i) := by
  have h' : ∀ i, ∃ t, PE G.X e t ∧ LiftE (G.at i) t (F i) := fun i => (h i).ex
  refine ⟨⟨fun σ H Q => ∃ t : TE, PE G.X e t ∧ t σ H Q, ⟨fun pins s σ H Q I ⟨t, hp, hq⟩ => hp.run pins s σ H Q I hq⟩, fun S σ H ρ i P Q g h q => ?_⟩⟩
  obtain ⟨t, hp, l⟩ := h' i
  exact ⟨t, hp, l S σ H ρ _ _ g h fun v d H1 st hv hp => q v d H1 i (.of st) hv hp⟩
theorem dtr_of {F : ι → FT} (h : ∀ i, DT (G.at i) e (F i)) : DTR G e (fun ρ i P => F i ρ fun d => P d i) := by
  have h' : ∀ i, ∃ t, PT G.X e t ∧ LiftT (G.at i) t (F i) := fun i => (h i).ex
  refine ⟨⟨fun σ H Q => ∃ t : TT, PT G.X e t ∧ t σ H Q, ⟨fun pins s σ H Q I ⟨t, hp, hq⟩ => hp.run pins s σ H Q I hq⟩, fun S σ H ρ i P Q g h q => ?_⟩⟩
  obtain ⟨t, hp, l⟩ := h' i
  exact ⟨t, hp, l S σ H ρ _ _ g h fun b H1 st hp => q b H1 i (.of st) hp⟩
theorem dar_nil : DAR G [] (fun _ i P => P [] i) := ⟨⟨_, pa_nil, fun _ _ H _ i _ _ g h q => q [] [] H i (.refl g.wld) rfl h⟩⟩
theorem dar_cons {Fs : FAR ι} (ha : DR G e Fa) (hr : DAR G es Fs) (hs : starEach (e :: es) G.X.env = (false, eval e G.X.env) :: starEach es G.X.env := by rfl) :
    DAR G (e :: es) (fun ρ i P => Fa ρ i fun x j => Fs ρ j fun xs k => P (x :: xs) k) := by
  obtain ⟨t, h1, l1⟩ := ha.ex
  obtain ⟨u, h2, l2⟩ := hr.ex
  refine ⟨⟨_, pa_cons h1 h2 hs, fun S σ H ρ i P Q g h q => ?_⟩⟩
  refine l1 S σ H ρ i _ _ g h fun v d H1 j st hv h' => ?_
  refine l2 S σ H1 ρ j _ _ (g.stepI st) h' fun vs ds H2 k st2 hvs hp => ?_
  exact q _ (d :: ds) H2 k (st.trans st2) ⟨v, vs, rfl, st2.dv (g.stepI st) hv, hvs⟩ hp
theorem dr_tup {Fs : FAR ι} {kk} (h : DAR G es Fs) : DR G (.Tuple es kk pos) (fun ρ i P => Fs ρ i fun xs j => xs.length ≤ sizeLine ∧ P (.tup xs) j) := by
  obtain ⟨t, h1, l1⟩ := h.ex
  refine ⟨⟨_, pe_tup h1, fun S σ H ρ i P Q g h q => ?_⟩⟩
  refine l1 S σ H ρ i _ _ g h fun vs ds H1 j st hv ⟨hl, hp⟩ => ⟨by rw [hv.len]; exact hl, fun p np => ?_⟩
  have g1 := g.stepI st
  have st2 : StpI G j H1 (upd H1 p (.tup vs)) := StpI.new g1.wld np
  exact q _ (.tup ds) _ j (st.trans st2) ⟨p, vs, rfl, .inl ⟨g1.fresh np, upd_same⟩, st2.dvl g1 hv⟩ hp
theorem dr_lst {Fs : FAR ι} (h : DAR G es Fs) : DR G (.List es pos) (fun ρ i P => Fs ρ i fun xs j => xs.length ≤ sizeLine ∧ P (.lst xs) j) := by
  obtain ⟨t, h1, l1⟩ := h.ex
  refine ⟨⟨_, pe_lst h1, fun S σ H ρ i P Q g h q => ?_⟩⟩
  refine l1 S σ H ρ i _ _ g h fun vs ds H1 j st hv ⟨hl, hp⟩ => ⟨by rw [hv.len]; exact hl, fun p np => ?_⟩
  have g1 := g.stepI st
  have st2 : StpI G j H1 (upd H1 p (.lst vs)) := StpI.new g1.wld np
  exact q _ (.lst ds) _ j (st.trans st2) ⟨p, vs, rfl, g1.fresh np, upd_same, st2.dvl g1 hv⟩ hp
theorem liftR_op {r : R2} {D : R2D} {ta tb : TE} (hr : ∀ i, Serves (G.at i) r D) (la : LiftR G ta Fa) (lb : LiftR G tb Fb) : LiftR G (tOp r ta tb) (fun ρ i P => Fa ρ i fun x j => Fb ρ j fun y k => D x y fun z => P z k) := by
  intro S σ H ρ i P Q g h q
  refine la S σ H ρ i _ _ g h fun v d H1 j st hv h' => ?_
  refine lb S σ H1 ρ j _ _ (g.stepI st) h' fun v2 d2 H2 k st2 hv2 hp => ?_
  exact hr k S σ ρ H2 v v2 d d2 _ Q ((g.stepI st).stepI st2) (st2.dv (g.stepI st) hv) hv2 hp fun v3 d3 H3 st3 => q v3 d3 H3 k ((st.trans st2).trans (.of st3))
theorem dr_bin {op : Operator} {r : R2} {D : R2D} (ho : OpR G.X (binaryOp op) r) (hr : ∀ i, Serves (G.at i) r D) (ha : DR G a Fa) (hb : DR G b Fb) : DR G (.BinOp a op b pos) (fun ρ i P => Fa ρ i fun x j => Fb ρ j fun y k => D x y fun z => P z k) := by
  obtain ⟨ta, h1, l1⟩ := ha.ex
  obtain ⟨tb, h2, l2⟩ := hb.ex
  exact ⟨⟨_, pe_op ho h1 h2, liftR_op hr l1 l2⟩⟩
theorem dr_ix (ha : DR G a Fa) (hb : DR G b Fb) (hs : PlainIx b := by exact fun _ _ => rfl) : DR G (.Subscript a b pos) (fun ρ i P => Fa ρ i fun x j => Fb ρ j fun y k => ixD x y fun z => P z k) := by
  obtain ⟨ta, h1, l1⟩ := ha.ex
  obtain ⟨tb, h2, l2⟩ := hb.ex
  exact ⟨⟨_, pe_ix (.or (.or ix_list ix_tup) ix_str) h1 h2 hs, liftR_op (fun i => serves_ix) l1 l2⟩⟩
theorem dtr_cmp {op : CmpOp} {r : R2} {D : R2D} (ho : OpR G.X (compareOp op) r) (hr : ∀ i, Serves (G.at i) r D) (ha : DR G a Fa) (hb : DR G b Fb) (hm : behindInMarks op b = false := by first | exact nobehind _ (by decide) (by decide) | rfl) : DTR G (.Compare a [op] [b] pos) (fun ρ i P => Fa ρ i fun x j => Fb ρ j fun y k => D x y fun z => isB z fun z => P z k) := by
  obtain ⟨ta, h1, l1⟩ := ha.ex
  obtain ⟨tb, h2, l2⟩ := hb.ex
  refine ⟨⟨_, pt_cmpR ho h1 h2 hm, fun S σ H ρ i P Q g h q => ?_⟩⟩
  refine liftR_op hr l1 l2 S σ H ρ i (fun z k => isB z fun z => P z k) _ g h fun v d H1 j st hv hp => ?_
  obtain ⟨b, rfl, hp⟩ := isB_inv hp
  exact ⟨b, hv, q b H1 j st hp⟩
theorem dtr_val {F : FR ι} (h : DR G e F) (he : ∀ whole, isTrue e G.X.env whole = (do let v ← whole; standAt e.pos; holding [v] (truthy v)) := by intro _; rfl) : DTR G e (fun ρ i P => F ρ i fun x j => isB x fun b => P b j) := by
  obtain ⟨t, h1, l1⟩ := h.ex
  refine ⟨⟨_, pt_val h1 he, fun S σ H ρ i P Q g h q => ?_⟩⟩
  refine l1 S σ H ρ i _ _ g h fun v d H1 j st hv hp => ?_
  obtain ⟨b, rfl, hp⟩ := isB_inv hp
  exact ⟨b, hv, q b H1 j st hp⟩
theorem dwr_and1 {F : FTR ι} (ha : DTR G a F) : DWR G (.BoolOp .And [a] pos) F := by
  obtain ⟨t, h, l⟩ := ha.ex
  exact ⟨⟨_, pw_and1 h, l⟩⟩
theorem dwr_or1 {F : FTR ι} (ha : DTR G a F) : DWR G (.BoolOp .Or [a] pos) F := by
  obtain ⟨t, h, l⟩ := ha.ex
  exact ⟨⟨_, pw_or1 h, l⟩⟩
theorem dwr_and {F F' : FTR ι} (ha : DTR G a F) (hb : DWR G (.BoolOp .And (b :: rest) pos) F') : DWR G (.BoolOp .And (a :: b :: rest) pos) (fun ρ i P => F ρ i fun c j => if c = true then F' ρ j P else P false j) := by
  obtain ⟨t, h, l⟩ := ha.ex
  obtain ⟨u, h2, l2⟩ := hb.ex
  refine ⟨⟨_, pw_and h h2, fun S σ H ρ i P Q g h q => ?_⟩⟩
  refine l S σ H ρ i _ _ g h fun b H1 j st hp => ?_
  cases b with
  | true => exact l2 S σ H1 ρ j _ _ (g.stepI st) hp fun b H2 k st2 => q b H2 k (st.trans st2)
  | false => exact q false H1 j st hp
theorem dwr_or {F F' : FTR ι} (ha : DTR G a F) (hb : DWR G (.BoolOp .Or (b :: rest) pos) F') : DWR G (.BoolOp .Or (a :: b :: rest) pos) (fun ρ i P => F ρ i fun c j => if c = true then P true j else F' ρ j P) := by
  obtain ⟨t, h, l⟩ := ha.ex
  obtain ⟨u, h2, l2⟩ := hb.ex
  refine ⟨⟨_, pw_or h h2, fun S σ H ρ i P Q g h q => ?_⟩⟩
  refine l S σ H ρ i _ _ g h fun b H1 j st hp => ?_
  cases b with
  | false => exact l2 S σ H1 ρ j _ _ (g.stepI st) hp fun b H2 k st2 => q b H2 k (st.trans st2)
  | true => exact q true H1 j st hp
theorem dtr_w {F : FTR ι} (h : DWR G e F) : DTR G e F := by
  obtain ⟨t, h, l⟩ := h.ex
  exact ⟨⟨_, h.pt, l⟩⟩
theorem dtr_not {F : FTR ι} (ha : DTR G a F) : DTR G (.UnaryOp .Not a pos) (fun ρ i P => F ρ i fun c j => P (!c) j) := by
  obtain ⟨t, h, l⟩ := ha.ex
  exact ⟨⟨_, pt_not h, fun S σ H ρ i P Q g h q => l S σ H ρ i _ _ g h fun b H1 j st hp => q (!b) H1 j st hp⟩⟩
theorem dr_if {Fc : FTR ι} (hc : DTR G c Fc) (ha : DR G a Fa) (hb : DR G b Fb) : DR G (.IfExp c a b pos) (fun ρ i P => Fc ρ i fun c j => if c = true then Fa ρ j P else Fb ρ j P) := by
  obtain ⟨t0, h0, l0⟩ := hc.ex
  obtain ⟨t, h, l⟩ := ha.ex
  obtain ⟨u, h2, l2⟩ := hb.ex
  refine ⟨⟨_, pe_ifExp h0 h h2, fun S σ H ρ i P Q g h q => ?_⟩⟩
  refine l0 S σ H ρ i _ _ g h fun b H1 j st hp => ?_
  cases b with
  | true => exact l S σ H1 ρ j _ _ (g.stepI st) hp fun v d H2 k st2 => q v d H2 k (st.trans st2)
  | false => exact l2 S σ H1 ρ j _ _ (g.stepI st) hp fun v d H2 k st2 => q v d H2 k (st.trans st2)
/-! ### calls of defs that are handed the state -/
def ArgOk (K : PySem.W.Frag) (S : Addr → Prop) (H : Hp) : Slot → V → Prop
  | .d x, v => Dv K S H x v
  | .raw w, v => v = w
  | .scr ns, v => ScrOk K S H ns v
  | .cus false c, v => c.ok false K S (fun _ => none) H v
  | _, _ => False
def SlL (K : PySem.W.Frag) (S : Addr → Prop) (H : Hp) : List Slot → List V → Prop
  | [], vs => vs = []
  | s :: sl, vs => ∃ v r, vs = v :: r ∧ ArgOk K S H s v ∧ SlL K S H sl r
theorem SlL.len {K : PySem.W.Frag} : ∀ {sl : List Slot} {vs : List V}, SlL K S H sl vs → vs.length = sl.length
  | [], _, e => by cases (e : _ = []); rfl
  | s :: sl, vs, e => by
    obtain ⟨v, r, rfl, _, h2⟩ := (e : ∃ v r, vs = v :: r ∧ ArgOk K S H s v ∧ SlL K S H sl r)
    simp [h2.len]
theorem ArgOk.move {K : PySem.W.Frag} (h : Fr S H S' H') : ∀ {s : Slot} {v : V}, ArgOk K S H s v → ArgOk K S' H' s v
  | .d x, v, e => Dv.move h x v e
  | .raw w, v, e => e
  | .scr ns, v, e => ScrOk.move (K := K) e h
  | .un, _, e => e.elim
  | .own _, _, e => e.elim
  | .ownd _ _, _, e => e.elim
  | .ownt _ _, _, e => e.elim
  | .ownp _ _, _, e => e.elim
  | .cus true _, _, e => e.elim
  | .cus false c, v, e => c.mv (show c.ok false K S (fun _ => none) H v from e) h fun z => nomatch z
theorem SlL.move {K : PySem.W.Frag} (h : Fr S H S' H') : ∀ {sl : List Slot} {vs : List V}, SlL K S H sl vs → SlL K S' H' sl vs
  | [], _, e => e
  | s :: sl, vs, e => by
    obtain ⟨v, r, rfl, h1, h2⟩ := (e : ∃ v r, vs = v :: r ∧ ArgOk K S H s v ∧ SlL K S H sl r)
    exact ⟨v, r, rfl, h1.move h, h2.move h⟩
theorem SlL.get {K : PySem.W.Frag} : ∀ {sl : List Slot} {vs : List V} {n : Nat} {s : Slot}, SlL K S H sl vs → sl[n]? = some s → ∃ v, vs[n]? = some v ∧ ArgOk K S H s v
  | [], _, _, _, _, h => by simp at h
  | d :: ds, vs, 0, d', e, h => by
    obtain ⟨v, r, rfl, h1, _⟩ := (e : ∃ v r, vs = v :: r ∧ ArgOk K S H d v ∧ SlL K S H ds r)
    simp at h; subst h
    exact ⟨v, rfl, h1⟩
  | d :: ds, vs, i + 1, d', e, h => by
    obtain ⟨v, r, rfl, _, h2⟩ := (e : ∃ v r, vs = v :: r ∧ ArgOk K S H d v ∧ SlL K S H ds r)
    simpa using SlL.get h2 (by simpa using h)
/-- what a def that is handed a state promises: the state, its index, the arguments, what is wanted -/
structure ConS (κ : Type) where
  C : Sta κ → κ → List Slot → (Dat → κ → Prop) → Prop
  mono : ∀ st i sl P P', C st i sl P → (∀ d j, P d j → P' d j) → C st i sl P'
def spS (K : PySem.W.Frag) (C : ConS κ) : Sp := fun vs H Q E => ∃ (S : Addr → Prop) (st : Sta κ) (i : κ) (sl : List Slot), (∀ a, S a → ∃ o, H a = some o) ∧ (∀ a, st.fp a → S a) ∧ st.M i H ∧ SlL K S H sl vs ∧
  C.C st i sl (fun d j => ∀ v H', ExF st.fp H H' → st.M j H' → Dv K S H' d v → Q v H')
/-- here the state may change: π reads its index off one's own, u puts a new one -/
structure GS (G : Fam ι) (st : Sta κ) (π : ι → κ) (u : ι → κ → ι) : Prop where
  sub : ∀ a, st.fp a → G.S0 a
  get : ∀ i H, G.W i H → st.M (π i) H
  put : ∀ i j H H', G.W i H → ExF st.fp H H' → st.M j H' → G.W (u i j) H'
theorem GS.stp {st : Sta κ} {π : ι → κ} {u : ι → κ → ι} (gs : GS G st π u) {i : ι} {j : κ} (hw : G.W i H) (e : ExF st.fp H H') (m : st.M j H') : StpI G (u i j) H H' := by
  refine ⟨gs.put i j H H' hw e m, fun a o n q => e a o (fun z => n (gs.sub a z)) q, fun a o q => ?_⟩
  by_cases z : st.fp a
  · exact st.dom j H' m a z
  · exact ⟨o, e a o z q⟩
def LiftSl {ι : Type} (G : Fam ι) (t : TA) (F : FSR' ι) : Prop := ∀ S σ H ρ i P (Q : List V → Hp → Prop), Gd (G.at i) S σ H ρ → F ρ i P → (∀ vs sl H' j, StpI G j H H' → SlL G.X.K S H' sl vs → P sl j → Q vs H') → t σ H Q
structure DSl {ι : Type} (G : Fam ι) (es : List Expr) (F : FSR' ι) : Prop where
  ex : ∃ t, PA G.X es t ∧ LiftSl G t F
theorem dsl_nil : DSl G [] (fun _ i P => P [] i) := ⟨⟨_, pa_nil, fun _ _ H _ i _ _ g h q => q [] [] H i (.refl g.wld) rfl h⟩⟩
theorem dsl_d {Fs : FSR' ι} (ha : DR G e Fa) (hr : DSl G es Fs) (hs : starEach (e :: es) G.X.env = (false, eval e G.X.env) :: starEach es G.X.env := by rfl) :
    DSl G (e :: es) (fun ρ i P => Fa ρ i fun x j => Fs ρ j fun xs k => P (.d x :: xs) k) := by
  obtain ⟨t, h1, l1⟩ := ha.ex
  obtain ⟨u, h2, l2⟩ := hr.ex
  refine ⟨⟨_, pa_cons h1 h2 hs, fun S σ H ρ i P Q g h q => ?_⟩⟩
  refine l1 S σ H ρ i _ _ g h fun v d H1 j st hv h' => ?_
  refine l2 S σ H1 ρ j _ _ (g.stepI st) h' fun vs ds H2 k st2 hvs hp => ?_
  exact q _ (.d d :: ds) H2 k (st.trans st2) ⟨v, vs, rfl, st2.dv (g.stepI st) hv, hvs⟩ hp
/-- a slot's raw value -/
def rdRaw (ρ : List Slot) (n : Nat) (P : V → Prop) : Prop := match ρ[n]? with
  | some (.raw x) => P x
  | _ => False
theorem rdRaw_inv {ρ : List Slot} {n : Nat} {P : V → Prop} (h : rdRaw ρ n P) : ∃ x, ρ[n]? = some (.raw x) ∧ P x := by
  unfold rdRaw at h
  split at h
  · rename_i x e; exact ⟨x, e, h⟩
  · exact h.elim
theorem Gd.slot_raw {G : Ctx} (g : Gd G S σ H ρ) {n : Nat} {x : V} (h : ρ[n]? = some (.raw x)) : σ[n]? = some (some x) := by
  have q := g.slots n _ h
  cases e : σ[n]? with
  | none => rw [e] at q; exact q.elim
  | some o =>
    cases o with
    | none => rw [e] at q; exact q.elim
    | some v => rw [e] at q; rw [show v = x from q]
theorem dsl_raw {x : Str} {p : Pos} {Fs : FSR' ι} (n : Nat) (hr : DSl G es Fs) (hN : G.X.N[n]? = some x := by rfl) (hv : Vis G.X.env.scope x := by first | exact Or.inl rfl | exact Or.inr (Or.inl rfl) | exact Or.inr (Or.inr rfl)) (hd : (x == ("__debug__" : Str)) = false := by decide)
    (hcd : (x == ("__classdict__" : Str)) = false := by decide) (hs : starEach (Expr.Name x p :: es) G.X.env = (false, eval (.Name x p) G.X.env) :: starEach es G.X.env := by rfl) :
    DSl G (.Name x p :: es) (fun ρ i P => rdRaw ρ n fun w => Fs ρ i fun xs k => P (.raw w :: xs) k) := by
  obtain ⟨u, h2, l2⟩ := hr.ex
  refine ⟨⟨_, pa_cons (pe_var hN hv hd hcd) h2 hs, fun S σ H ρ i P Q g h q => ?_⟩⟩
  obtain ⟨w, e, h⟩ := rdRaw_inv h
  exact ⟨w, g.slot_raw e, l2 S σ H ρ i _ _ g h fun vs sl H2 k st2 hvs hp => q _ (.raw w :: sl) H2 k st2 ⟨w, vs, rfl, rfl, hvs⟩ hp⟩
/-- a def by its name that is handed a state -/
structure CalleeS (P : Program) (w : World) (K : PySem.W.Frag) (mg : Str → Option Value) (base : Heap) (x : Str) (k : Nat) (ps : List Str) (C : ConS κ) : Prop where
  ex : ∃ f fd, FnOk P w K mg base CX0 k f fd ps (spS K C) ∧ mg x = some (.ref f) ∧ PySem.W.keepIn K (.ref f) = true ∧ Binds K fd ps []
theorem dr_fnS {st : Sta κ} {π : ι → κ} {u : ι → κ → ι} {x : Str} {k m : Nat} {ps : List Str} {C : ConS κ} {p : Pos} {Fs : FSR' ι} (gs : GS G st π u) (h : CalleeS G.X.prog G.X.w G.X.K G.X.mg G.X.base x k ps C) (hr : Room m G.X.A) (ha : DSl G (e :: es) Fs) (hk : k ≤ m := by decide) (hg : Gl G.X x := by rfl) (hdb : (x == ("__debug__" : Str)) = false := by decide)
    (he : starEach (e :: es) G.X.env = (false, eval e G.X.env) :: starEach es G.X.env := by rfl) (hpl : (backTo pos (starEach es G.X.env)).any (·.1) = false := by rfl) :
    DR G (.Call (.Name x p) (e :: es) [] pos) (fun ρ i P => Fs ρ i fun sl j => C.C st (π j) sl fun d j' => P d (u j j')) := by
  obtain ⟨f, fd, F, hm, hkp, hb⟩ := h.ex
  obtain ⟨t, h, l⟩ := ha.ex
  refine ⟨⟨_, pe_call F (hr.mono hk) hg hm hkp hb .nil pass0 h hdb he hpl, fun S σ H ρ i P Q g h q => ?_⟩⟩
  refine l S σ H ρ i _ _ g h fun vs sl H1 j s1 hv hp => ?_
  rw [List.append_nil]
  have g1 := g.stepI s1
  refine ⟨S, st, π j, sl, g1.all, fun a z => g1.sub a (gs.sub a z), gs.get j H1 g1.wld, hv, C.mono _ _ _ _ _ hp fun d j' hp v H' e m hd => ?_⟩
  exact q v d H' (u j j') (s1.trans (gs.stp g1.wld e m)) hd hp
/-! ### statements -/
variable {st : Stmt} {sts : List Stmt}
theorem EndsOkR.from {D : DEndsR ι} {Dh : Ends} (q : EndsOkR G S H D Dh) (fr : Fr S H S' H') : EndsOkR G S' H' D Dh :=
  ⟨fun S2 σ2 H2 ρ2 j g f => q.nx S2 σ2 H2 ρ2 j g (fr.trans f), q.rt, fun S2 σ2 H2 ρ2 j g f => q.bk S2 σ2 H2 ρ2 j g (fr.trans f), fun S2 σ2 H2 ρ2 j g f => q.ct S2 σ2 H2 ρ2 j g (fr.trans f)⟩
theorem dsr_set {x : Str} {pos' : Pos} {F : FR ι} (n : Nat) (he : DR G e F) (hN : G.X.N.Nodup) (hi : G.X.N[n]? = some x := by rfl) (hx : Loc G.X.env.scope x := by first | exact Or.inl rfl | exact Or.inr rfl) (hs : swapsWith e (some (.Name x pos')) pos.line G.X.env = pure false := by rfl)
    (hf : G.X.fn x = true ∨ G.X.env.scope.names.lookup x = some .local := by first | exact .inl rfl | exact .inr rfl) : DSR G (.Assign [.Name x pos'] e pos) (fun D ρ i => F ρ i fun d j => D.nx (ρ.set n (.d d)) j) := by
  obtain ⟨t, h, l⟩ := he.ex
  refine ⟨⟨_, ps_set (i := n) hN hi hx h hs hf, fun S σ H ρ i D Dh g h q => ?_⟩⟩
  exact l S σ H ρ i _ _ g h fun v d H1 j st hv hp => q.nx S _ H1 _ j ((g.stepI st).set hv) (st.fr g) hp
theorem dsr_ret {F : FR ι} (he : DR G e F) : DSR G (.Return (some e) pos) (fun D ρ i => F ρ i D.rt) := by
  obtain ⟨t, h, l⟩ := he.ex
  refine ⟨⟨_, ps_ret h, fun S σ H ρ i D Dh g h q => ?_⟩⟩
  exact l S σ H ρ i _ _ g h fun v d H1 j st hv hp => q.rt v d H1 j st.wld (hv.move fun a o n e => ⟨fun z => n (g.sub a z), e⟩) hp
theorem dsr_freeze {F : FSR ι} (h : DSR G st F) : DSR G st (fun D ρ i => F D (ρ.map Slot.freeze) i) := by
  obtain ⟨t, h, l⟩ := h.ex
  refine ⟨⟨t, h, fun S σ H ρ i D Dh g h q => ?_⟩⟩
  obtain ⟨g1, fr⟩ := g.freeze
  exact l G.S0 σ H _ i D Dh g1 h (q.from fr)
theorem dbr_nil : DBR G [] (fun D ρ i => D.nx ρ i) := ⟨⟨_, pss_nil, fun S σ H ρ i D Dh g h q => q.nx S σ H ρ i g (Fr.refl S H) h⟩⟩
theorem dbr_one {F : FSR ι} (h : DSR G st F) : DBR G [st] F := by
  obtain ⟨t, h, l⟩ := h.ex
  exact ⟨⟨t, pss_one h, l⟩⟩
theorem dbr_cons {F F' : FSR ι} (h : DSR G st F) (hr : DBR G sts F') : DBR G (st :: sts) (fun D ρ i => F { D with nx := F' D } ρ i) := by
  obtain ⟨t, h, l⟩ := h.ex
  obtain ⟨u, h2, l2⟩ := hr.ex
  refine ⟨⟨_, pss_cons h h2, fun S σ H ρ i D Dh g h q => ?_⟩⟩
  exact l S σ H ρ i _ _ g h ⟨fun S' σ' H' ρ' j g' fr hp => l2 S' σ' H' ρ' j D Dh g' hp (q.from fr), q.rt, q.bk, q.ct⟩
/-- an if, its test told first -/
theorem dsr_if {sa sb : List Stmt} {Fc : FTR ι} {F F' : FSR ι} (hc : DTR G c Fc) (ha : DBR G sa F) (hb : DBR G sb F') : DSR G (.If c sa sb pos) (fun D ρ i => ∃ Pc : Bool → ι → Prop, Fc ρ i Pc ∧ (∀ j, Pc true j → F D ρ j) ∧ (∀ j, Pc false j → F' D ρ j)) := by
  obtain ⟨t0, h0, l0⟩ := hc.ex
  obtain ⟨t, h, l⟩ := ha.ex
  obtain ⟨u, h2, l2⟩ := hb.ex
  refine ⟨⟨_, ps_if h0 h h2, fun S σ H ρ i D Dh g h q => ?_⟩⟩
  obtain ⟨Pc, hc, h1, h2⟩ := h
  refine l0 S σ H ρ i _ _ g hc fun b H1 j st hp => ?_
  cases b with
  | true => exact l S σ H1 ρ j D Dh (g.stepI st) (h1 j hp) (q.from (st.fr g))
  | false => exact l2 S σ H1 ρ j D Dh (g.stepI st) (h2 j hp) (q.from (st.fr g))
theorem dsr_par {x y : Str} {Fs : FAR ι} {px py pt : Pos} {kt k2 pt2} (n m : Nat) (ha : DAR G [a, b] Fs) (hN : G.X.N.Nodup) (hc : G.X.calm = true := by rfl) (hi : G.X.N[n]? = some x := by rfl) (hj : G.X.N[m]? = some y := by rfl) (hij : n ≠ m := by decide)
    (hx : G.X.env.scope.names.lookup x = some .local := by rfl) (hy : G.X.env.scope.names.lookup y = some .local := by rfl)
    (hw : swappedStores [.Tuple [.Name x px, .Name y py] kt pt] (.Tuple [a, b] k2 pt2) G.X.env = pure (some [x, y]) := by rfl)
    (hs : swapsWithSole [.Tuple [.Name x px, .Name y py] kt pt] (.Tuple [a, b] k2 pt2) pos.line G.X.env = pure false := by rfl) :
    DSR G (.Assign [.Tuple [.Name x px, .Name y py] kt pt] (.Tuple [a, b] k2 pt2) pos) (fun D ρ i => Fs ρ i fun ds j => two ds fun d e => D.nx ((ρ.set n (.d d)).set m (.d e)) j) := by
  obtain ⟨t, h, l⟩ := ha.ex
  refine ⟨⟨_, ps_par hc hN hi hj hij hx hy h hw hs, fun S σ H ρ i D Dh g h q => ?_⟩⟩
  refine l S σ H ρ i _ _ g h fun vs ds H1 j st hv hp => ?_
  unfold two at hp
  split at hp
  · obtain ⟨v, w, rfl, h1, h2⟩ := dvl2 hv
    exact ⟨v, w, rfl, q.nx _ _ _ _ j (((g.stepI st).set h1).set h2) (st.fr g) hp⟩
  · exact hp.elim
end
/-! ### the rule for a def that is handed a state -/
section
/-- the context of a body that is handed a state -/
abbrev famS {κ : Type} (P : Program) (w : World) (K : PySem.W.Frag) (mg : Str → Option Value) (base : Heap) (N : List Str) (qual : Str) (sc : Scope) (f : Addr) (cdv : Value) (A : Around) (outer : List Env) (s : Shared) (H : Hp) (S : Addr → Prop) (hS : ∀ a, S a → ∃ o, H a = some o) (st : Sta κ) (i0 : κ) (h0 : st.M i0 H) : Fam κ where
  X := (cxOf CX0 P w K mg base N qual sc f cdv A outer s H E0).nox
  H0 := H
  S0 := S
  W := fun i H' => ExF st.fp H H' ∧ st.M i H'
  clo := fun i H1 H2 h k x => ⟨fun a o n e => k a o o e (h.1 a o n e), st.loc i H1 H2 h.2 (fun a o z e => by
    obtain ⟨o0, e0⟩ := st.dom i0 H h0 a z
    exact k a o o0 e0 e) x⟩
  top := fun i H1 h a o e => by
    by_cases z : st.fp a
    · exact st.dom i H1 h.2 a z
    · exact ⟨o, h.1 a o z e⟩
  s0 := hS
theorem gs_self {κ : Type} {P : Program} {w : World} {K : PySem.W.Frag} {mg : Str → Option Value} {base : Heap} {N : List Str} {qual : Str} {sc : Scope} {f : Addr} {cdv : Value} {A : Around} {outer : List Env} {s : Shared} {H : Hp} {S : Addr → Prop} {hS : ∀ a, S a → ∃ o, H a = some o} {st : Sta κ} {i0 : κ} {h0 : st.M i0 H} (hf : ∀ a, st.fp a → S a) :
    GS (famS P w K mg base N qual sc f cdv A outer s H S hS st i0 h0) st (fun i => i) (fun _ j => j) :=
  ⟨hf, fun _ _ h => h.2, fun i j H1 H2 h e m => ⟨h.1.trans e, m⟩⟩
/-- a part of the state -/
structure SubS {ι κ : Type} (c : Sta κ) (st : Sta ι) (π : ι → κ) (u : ι → κ → ι) : Prop where
  fp : ∀ a, c.fp a → st.fp a
  get : ∀ i H, st.M i H → c.M (π i) H
  put : ∀ i j H H', st.M i H → ExF c.fp H H' → c.M j H' → st.M (u i j) H'
theorem GS.subS {ι κ μ : Type} {G : Fam ι} {st : Sta κ} {c : Sta μ} {π : ι → κ} {u : ι → κ → ι} {π' : κ → μ} {u' : κ → μ → κ} (gs : GS G st π u) (s : SubS c st π' u') : GS G c (fun i => π' (π i)) (fun i j => u i (u' (π i) j)) :=
  ⟨fun a z => gs.sub a (s.fp a z), fun i H h => s.get _ H (gs.get i H h), fun i j H H' h e m => gs.put i _ H H' h (fun a o n => e a o fun z => n (s.fp a z)) (s.put _ j H H' (gs.get i H h) e m)⟩
def startS (n : Nat) (sl : List Slot) : List Slot := sl ++ List.replicate (n - sl.length) Slot.un
theorem argOk_slot {K : PySem.W.Frag} {S : Addr → Prop} {H0 H : Hp} {s : Slot} {v : V} (h : ArgOk K S H s v) : SlotOk K S H0 H (some v) s ∧ s.isOwn = false := by
  cases s with
  | d x => exact ⟨h, rfl⟩
  | raw w => exact ⟨h, rfl⟩
  | scr w => exact ⟨h, rfl⟩
  | un => exact h.elim
  | own _ => exact h.elim
  | ownd _ _ => exact h.elim
  | ownt _ _ => exact h.elim
  | ownp _ _ => exact h.elim
  | cus b c =>
    cases b with
    | true => exact h.elim
    | false => exact ⟨c.mv (show c.ok false K S (fun _ => none) H v from h) (fun _ _ n e => ⟨n, e⟩) fun z => (nomatch z), rfl⟩
theorem gd_startS {G : Ctx} {H : Hp} {N : List Str} {vs : List V} {sl : List Slot} (hw : G.W H) (ha : ∀ a, G.S0 a → ∃ o, H a = some o) (hv : SlL G.X.K G.S0 H sl vs) (hl : sl.length ≤ N.length) : Gd G G.S0 (L2.start N vs) H (startS N.length sl) := by
  have hvl := hv.len
  refine ⟨hw, ha, fun _ h => h, by unfold L2.start startS; simp [hvl], fun i s hs => ?_, fun i j si sj v h1 h2 o1 o2 _ _ => ?_⟩
  · unfold startS at hs
    unfold L2.start
    by_cases hi : i < sl.length
    · rw [List.getElem?_append_left hi] at hs
      obtain ⟨v, e1, e2⟩ := hv.get hs
      rw [List.getElem?_append_left (by rw [List.length_map]; omega), List.getElem?_map, e1]
      exact (argOk_slot e2).1
    · rw [List.getElem?_append_right (by omega), List.getElem?_replicate] at hs
      split at hs
      · cases hs; exact trivial
      · cases hs
  · unfold startS at h1
    by_cases hi : i < sl.length
    · rw [List.getElem?_append_left hi] at h1
      obtain ⟨v, e1, e2⟩ := hv.get h1
      rw [(argOk_slot (H0 := H) e2).2] at o1
      cases o1
    · rw [List.getElem?_append_right (by omega), List.getElem?_replicate] at h1
      split at h1
      · cases h1; cases o1
      · cases h1
theorem fn_pureS {κ : Type} {P : Program} {w : World} {K : PySem.W.Frag} {mg : Str → Option Value} {base : Heap} {x qual : Str} {stm : Stmt} {f : Addr} {fd : FuncData} {N ps : List Str} {k : Nat} {C : ConS κ} (F : Fun K x qual stm f fd) (Sc : FnScope N ps (defScope stm)) (len : ∀ st i sl P, C.C st i sl P → sl.length = ps.length)
    (hbody : ∀ (cdv : Value) (A : Around) (outer : List Env) (s : Shared) (H : Hp) (S : Addr → Prop) (hS : ∀ a, S a → ∃ o, H a = some o) (st : Sta κ) (i0 : κ) (h0 : st.M i0 H), (∀ a, st.fp a → S a) → Room k (A.deeper (envOfC qual (defScope stm) s.heap.objs.size f cdv)) → ∀ sl R, C.C st i0 sl R →
      ∃ T, DBR (famS P w K mg base N qual (defScope stm) f cdv A outer s H S hS st i0 h0) (defBody stm) T ∧ T { nx := fun _ => R .non, rt := R } (startS N.length sl) i0) : FnOk P w K mg base CX0 (k + 1) f fd ps (spS K C) := by
  have hpl : ps.length ≤ N.length := by have := congrArg List.length Sc.pre; rw [List.length_take] at this; omega
  refine F.ok Sc (fun vs H Q E ⟨S, st, i, sl, _, _, _, hv, hc⟩ => by rw [hv.len]; exact len _ _ _ _ hc) fun cdv A outer s H vs Q E hr h => ?_
  obtain ⟨S, st, i, sl, hS, hf, h0, hv, hc⟩ := h
  obtain ⟨T, ⟨t, hp, l⟩, hT⟩ := hbody cdv A outer s H S hS st i h0 hf hr sl _ hc
  refine ⟨t, ?_, ?_⟩
  · exact hp
  · refine l S _ H (startS N.length sl) i _ _ (gd_startS (G := (famS P w K mg base N qual (defScope stm) f cdv A outer s H S hS st i h0).at i) ⟨ExF.refl _ _, h0⟩ hS hv (by rw [len _ _ _ _ hc]; exact hpl)) hT ?_
    exact ⟨fun S' σ' H' ρ' j g fr q => q .non H' g.wld.1 g.wld.2 rfl, fun v d H' j hw hv q => q v H' hw.1 hw.2 hv, fun _ _ _ _ _ _ _ z => z.elim, fun _ _ _ _ _ _ _ z => z.elim⟩
end
end DL
namespace DL
open PySem PySem.Spec PyProof.Rows L2
/-! ### the dict that draws go by: a: the dict, b: its cells, c: what is left; L: how long that is; n: at most so many draws so far -/
def drawM (a b c : Addr) (L : Nat) (n : Nat) (H : Hp) : Prop := ∃ (k : Nat) (cells left : List Int), k ≤ n ∧ cells.length = 64 ∧ (∀ x ∈ cells, 0 ≤ x ∧ x < 2147483648) ∧ left.length = L ∧
  H a = some (.dK [(.inr "cells", .ref b), (.inr "left", .ref c), (.inr "spot", .int (k : Nat))]) ∧ H b = some (.lst (cells.map V.int)) ∧ H c = some (.lst (left.map V.int))
def drawSta (a b c : Addr) (L : Nat) : Sta Nat where
  fp := fun x => x = a ∨ x = b ∨ x = c
  M := drawM a b c L
  loc := fun n H H' ⟨k, cells, left, h1, h2, h3, h4, e1, e2, e3⟩ q _ => ⟨k, cells, left, h1, h2, h3, h4, q a _ (.inl rfl) e1, q b _ (.inr (.inl rfl)) e2, q c _ (.inr (.inr rfl)) e3⟩
  noc := fun n H ⟨k, cells, left, h1, h2, h3, h4, e1, e2, e3⟩ x φ hx z => by
    rcases hx with rfl | rfl | rfl
    · rw [e1] at z; cases z
    · rw [e2] at z; cases z
    · rw [e3] at z; cases z
  dom := fun n H ⟨k, cells, left, h1, h2, h3, h4, e1, e2, e3⟩ x hx => by
    rcases hx with rfl | rfl | rfl
    · exact ⟨_, e1⟩
    · exact ⟨_, e2⟩
    · exact ⟨_, e3⟩
/-- v is what draws go by, in this state -/
def IsDraw (st : Sta Nat) (v : V) : Prop := ∃ a b c L, a ≠ b ∧ a ≠ c ∧ b ≠ c ∧ st = drawSta a b c L ∧ v = .ref a
/-- no more draws than these, ever -/
def manyDraws : Nat := 1000000000000000
def conMix : Con := ⟨fun ds P _ => ∃ c k : Int, ds = [.int c, .int k] ∧ 0 ≤ c ∧ c < 4611686018427387904 ∧ 0 ≤ k ∧ k < 4611686018427387904 ∧ ∀ x : Int, 0 ≤ x → x < 2147483648 → P (.int x),
  fun _ _ _ _ _ ⟨c, k, e, h1, h2, h3, h4, h⟩ m _ => ⟨c, k, e, h1, h2, h3, h4, fun x a b => m _ (h x a b)⟩⟩
def conDraw : ConS Nat := ⟨fun st n sl P => ∃ (v : V) (top : Int), IsDraw st v ∧ sl = [.raw v, .d (.int top)] ∧ 0 < top ∧ top < 1000000000 ∧ n < manyDraws ∧ ∀ x : Int, 0 ≤ x → x < top → P (.int x) (n + 1),
  fun _ _ _ _ _ ⟨v, top, h0, e, h1, h2, h3, h⟩ m => ⟨v, top, h0, e, h1, h2, h3, fun x a b => m _ _ (h x a b)⟩⟩
section
variable {P : Program} {w : World} {K : PySem.W.Frag} {mg : Str → Option Value} {base : Heap} {f f2 : Addr} {fd fd2 : FuncData} {k : Nat}
theorem put_spot {b c : Addr} {k j : Int} : putK [((.inr "cells" : Key), V.ref b), (.inr "left", .ref c), (.inr "spot", .int k)] (.inr "spot") (V.int j) = [(.inr "cells", .ref b), (.inr "left", .ref c), (.inr "spot", .int j)] := by
  have e : ∀ x y : Str, decide ((Sum.inr x : Key) = Sum.inr y) = decide (x = y) := key_rr
  simp [putK, e]
  decide
theorem get_cells {b c : Addr} {k : Int} : valV [((.inr "cells" : Key), V.ref b), (.inr "left", .ref c), (.inr "spot", .int k)] (.inr "cells") = some (.ref b) := valV_pos rfl
theorem get_left {b c : Addr} {k : Int} : valV [((.inr "cells" : Key), V.ref b), (.inr "left", .ref c), (.inr "spot", .int k)] (.inr "left") = some (.ref c) := by
  rw [valV_neg (by intro z; injection z with z; exact absurd z (by decide))]
  exact valV_pos rfl
theorem get_spot {b c : Addr} {k : Int} : valV [((.inr "cells" : Key), V.ref b), (.inr "left", .ref c), (.inr "spot", .int k)] (.inr "spot") = some (.int k) := by
  rw [valV_neg (by intro z; injection z with z; exact absurd z (by decide)), valV_neg (by intro z; injection z with z; exact absurd z (by decide))]
  exact valV_pos rfl
theorem atI_int {ns : List Int} {i : Int} (h0 : 0 ≤ i) (h1 : i < ns.length) : ∃ x, ns[i.toNat]? = some x ∧ atI (ns.map V.int) i = some (.int x) ∧ ixN (ns.map V.int).length i = some i.toNat := by
  have hl : i.toNat < ns.length := by omega
  refine ⟨ns[i.toNat], List.getElem?_eq_getElem hl, ?_, by unfold ixN; rw [if_pos h0, if_pos (by rw [List.length_map]; exact h1)]⟩
  have e : atI (ns.map V.int) ((i.toNat : Nat) : Int) = some (.int ns[i.toNat]) := atI_nat (by simp [List.getElem?_map, List.getElem?_eq_getElem hl])
  rw [Int.toNat_of_nonneg h0] at e
  exact e
theorem dget_at {H : Hp} {a : Addr} {kvs : List (Key × V)} {x : Str} {v : V} (e : H a = some (.dK kvs)) (h : valV kvs (.inr x) = some v) : DGet H a (.str x) (some v) := by
  have q : DGet H a (kV (.inr x)) (valV kvs (.inr x)) := DGet.k e
  rw [h] at q
  exact q
theorem ints_lay : ∀ l : List Int, PyData.canLayAll0 (toPs (l.map Dat.int)) = true ∧ PyData.depthAll (toPs (l.map Dat.int)) = 0
  | [] => ⟨rfl, rfl⟩
  | x :: l => by
    have ih := ints_lay l
    rw [List.map_cons, toPs, PyData.canLayAll0, PyData.depthAll, ih.1, ih.2]
    exact ⟨rfl, rfl⟩
theorem ints_shaped (l : List Int) : SeqAt.shaped (toP (.lst (l.map Dat.int))) = true := by
  have h := ints_lay l
  unfold SeqAt.shaped
  rw [toP, PyData.canLay0, PyData.depth, h.1, h.2]
  rfl
theorem ints_dv {K : PySem.W.Frag} {S : Addr → Prop} {H : Hp} : ∀ l : List Int, DvL K S H (l.map Dat.int) (l.map V.int)
  | [] => rfl
  | x :: l => ⟨_, _, rfl, rfl, ints_dv l⟩
theorem ints_ne (l : List Int) : PyData.eqv (toP (.lst (l.map Dat.int))) (toP (.lst [])) = l.isEmpty := by
  cases l with
  | nil => rfl
  | cons x l => rfl
end
end DL
namespace DL
open PySem PySem.Spec PyProof.Rows L2
section
variable {G : Ctx} {S S' : Addr → Prop} {σ : L2.St} {H H' : Hp} {ρ : List Slot} {pos : Pos} {a b e : Expr} {Fa Fb F : FE}
/-- name[e] of a list of one's own -/
theorem de_ixOwn {x : Str} {p : Pos} (i : Nat) (hb : DE G b Fb) (hs : PlainIx b := by exact fun _ _ => rfl) (hN : G.X.N[i]? = some x := by rfl) (hv : Vis G.X.env.scope x := by first | exact Or.inl rfl | exact Or.inr (Or.inl rfl) | exact Or.inr (Or.inr rfl)) (hd : (x == ("__debug__" : Str)) = false := by decide)
    (hcd : (x == ("__classdict__" : Str)) = false := by decide) : DE G (.Subscript (.Name x p) b pos) (fun ρ P => ownL ρ i fun ds => Fb ρ fun y => isI y fun k => someD (atI ds k) P) := by
  obtain ⟨tb, h2, l2⟩ := hb.ex
  refine ⟨⟨_, pe_ix ix_list (pe_var hN hv hd hcd) h2 hs, fun S σ H ρ P Q g h q => ?_⟩⟩
  obtain ⟨ds, es, hf⟩ := ownL_inv h
  obtain ⟨p, xs, e1, sp, e0, eh, hl⟩ := g.slot_own es
  refine ⟨.ref p, e1, l2 S σ H ρ _ _ g hf fun v d H1 st hv hp => ?_⟩
  obtain ⟨k, rfl, hp⟩ := isI_inv hp
  cases dv_int hv
  obtain ⟨d, ed, hp⟩ := someD_inv hp
  have g1 := g.step st
  obtain ⟨p', xs', e1', sp', e0', eh', hl'⟩ := g1.slot_own es
  cases e1.symm.trans e1'
  obtain ⟨z, ez, hz⟩ := atI_dv hl' ed
  exact ⟨p, xs', k, z, rfl, rfl, .inl (.inl eh'), ez, q z d H1 st hz hp⟩
theorem DvL.set {K : PySem.W.Frag} : ∀ {ds : List Dat} {vs : List V} (n : Nat) {d : Dat} {v : V}, DvL K S H ds vs → Dv K S H d v → DvL K S H (ds.set n d) (vs.set n v)
  | [], vs, n, d, v, e, _ => by cases (e : _ = []); exact rfl
  | d0 :: ds, vs, 0, d, v, e, h => by
    obtain ⟨v0, r, rfl, h1, h2⟩ := (e : ∃ v r, vs = v :: r ∧ Dv K S H d0 v ∧ DvL K S H ds r)
    exact ⟨v, r, rfl, h, h2⟩
  | d0 :: ds, vs, n + 1, d, v, e, h => by
    obtain ⟨v0, r, rfl, h1, h2⟩ := (e : ∃ v r, vs = v :: r ∧ Dv K S H d0 v ∧ DvL K S H ds r)
    exact ⟨v0, r.set n v, rfl, h1, h2.set n h⟩
/-- name[b] = e of a list of one's own -/
theorem ds_putOwn {x : Str} {np sp : Pos} (i : Nat) (he : DE G e F) (hb : DE G b Fb) (hN : G.X.N[i]? = some x := by rfl) (hv : Vis G.X.env.scope x := by first | exact Or.inl rfl | exact Or.inr (Or.inl rfl) | exact Or.inr (Or.inr rfl)) (hd : (x == ("__debug__" : Str)) = false := by decide)
    (hcd : (x == ("__classdict__" : Str)) = false := by decide) (hs : swapsWithSole [.Subscript (.Name x np) b sp] e pos.line G.X.env = pure false := by rfl) (hw : swappedStores [.Subscript (.Name x np) b sp] e G.X.env = pure none := by rfl)
    (h1 : (assignEach [.Subscript (.Name x np) b sp] G.X.env).map (·.2) = [assign (.Subscript (.Name x np) b sp) G.X.env] := by rfl)
    (hw2 : ∀ z, assign (.Subscript (.Name x np) b sp) G.X.env z = (do let u ← holding [z] (eval (.Name x np) G.X.env); let k ← holding [z, u] (eval b G.X.env); standAt sp; holding [z, u, k] (setItem u k z); release [z, u, k] []) := by intro _; rfl) :
    DS G (.Assign [.Subscript (.Name x np) b sp] e pos) (fun D ρ => F ρ fun v => ownL ρ i fun ds => Fb ρ fun y => isI y fun k => someD (ixN ds.length k) fun j => D.nx (ρ.set i (.own (ds.set j v)))) := by
  obtain ⟨t, h, l⟩ := he.ex
  obtain ⟨tb, h2, l2⟩ := hb.ex
  refine ⟨⟨_, ps_asg h (pg_sub (pe_var hN hv hd hcd) h2 set_list hw2) hs hw h1, fun S σ H ρ D Dh g hf q => ?_⟩⟩
  refine l S σ H ρ _ _ g hf fun v d H1 st hv' hp => ?_
  have g1 := g.step st
  obtain ⟨ds, es, hf⟩ := ownL_inv hp
  obtain ⟨p, xs, e1, sp, e0, eh, hl⟩ := g1.slot_own es
  refine ⟨.ref p, e1, l2 S σ H1 ρ _ _ g1 hf fun v2 d2 H2 st2 hv2 hp => ?_⟩
  obtain ⟨k, rfl, hp⟩ := isI_inv hp
  cases dv_int hv2
  obtain ⟨j, ej, hp⟩ := someD_inv hp
  have g2 := g1.step st2
  obtain ⟨p', xs', e1', sp', e0', eh', hl'⟩ := g2.slot_own es
  cases e1.symm.trans e1'
  have fr : Fr S H2 S (upd H2 p (.lst (xs'.set j v))) := fun b u n e => ⟨n, by rw [upd_ne (fun z => n (by rw [z]; exact sp'))]; exact e⟩
  obtain ⟨g3, fr3⟩ := g2.write (o := .lst (xs'.set j v)) (s' := .own (ds.set j d)) es e1' rfl rfl ⟨p, xs'.set j v, rfl, sp', e0', upd_same, DvL.move fr _ _ (hl'.set j (st2.dv g1 hv'))⟩
  exact ⟨p, xs', k, j, rfl, rfl, eh', by rw [hl'.len]; exact ej, q.nx _ _ _ _ g3 (Fr.trans (st.fr g) (Fr.trans (st2.fr g1) fr3)) hp⟩
/-! ### a list that is handed in from outside, of ints -/
def rdScr (ρ : List Slot) (i : Nat) (P : List Int → Prop) : Prop := match ρ[i]? with
  | some (.scr x) => P x
  | _ => False
theorem rdScr_inv {ρ : List Slot} {i : Nat} {P : List Int → Prop} (h : rdScr ρ i P) : ∃ x, ρ[i]? = some (.scr x) ∧ P x := by
  unfold rdScr at h
  split at h
  · rename_i x e; exact ⟨x, e, h⟩
  · exact h.elim
theorem rdScr_here {ρ : List Slot} {i : Nat} {ns : List Int} {P : List Int → Prop} (e : ρ[i]? = some (.scr ns)) (h : P ns) : rdScr ρ i P := by unfold rdScr; rw [e]; exact h
theorem Gd.slot_scr (g : Gd G S σ H ρ) {i : Nat} {ns : List Int} (h : ρ[i]? = some (.scr ns)) : ∃ a, σ[i]? = some (some (.ref a)) ∧ ScrOk G.X.K S H ns (.ref a) := by
  have q := g.slots i _ h
  cases e : σ[i]? with
  | none => rw [e] at q; exact q.elim
  | some o =>
    cases o with
    | none => rw [e] at q; exact q.elim
    | some v =>
      rw [e] at q
      obtain ⟨a, rfl, r⟩ := (q : ScrOk G.X.K S H ns v)
      exact ⟨a, rfl, a, rfl, r⟩
theorem walk_scr {S : Addr → Prop} {H : Hp} {ns : List Int} {p : Addr} (q : ScrOk G.X.K S H ns (.ref p)) : WalkOk G (Itl G.X.K p) (ns.map Dat.int) S H := by
  have all : ∀ (S2 : Addr → Prop) (H2 : Hp), Fr S H S2 H2 → SqL G.X.K H2 p (ns.map V.int) := fun S2 H2 fr => (q.move fr).sq
  refine ⟨fun i S' H' hi fr => ?_, fun i d S' σ' ρ' H' x H2 hd g fr y => ?_, fun S' H' fr => ⟨_, all S' H' fr, by simp⟩⟩
  · have hl : i < ns.length := by simpa using hi
    exact ⟨_, .int ns[i], all S' H' fr, by simp [List.getElem?_eq_getElem hl]⟩
  · obtain ⟨rfl, y⟩ := y
    rw [List.getElem?_map] at hd
    cases e : ns[i]? with
    | none => rw [e] at hd; cases hd
    | some n =>
      rw [e] at hd
      cases hd
      have q := y _ (all _ _ fr)
      rw [List.getElem?_map, e] at q
      cases q
      exact ⟨Stp.refl g.wld, rfl⟩
theorem di_scr {tg : Expr} {x : Str} {p : Pos} (i : Nat) (hN : G.X.N[i]? = some x := by rfl) (hv : Vis G.X.env.scope x := by first | exact Or.inl rfl | exact Or.inr (Or.inl rfl) | exact Or.inr (Or.inr rfl)) (hd : (x == ("__debug__" : Str)) = false := by decide)
    (hcd : (x == ("__classdict__" : Str)) = false := by decide) : DI G tg (.Name x p) (fun ρ P => rdScr ρ i fun ns => P (ns.map Dat.int)) := by
  refine ⟨⟨_, pi_seq (pe_var hN hv hd hcd), fun S σ H ρ P R g h q => ?_⟩⟩
  obtain ⟨ns, e, h⟩ := rdScr_inv h
  obtain ⟨a, ea, hs⟩ := g.slot_scr e
  exact ⟨_, ea, a, rfl, .inl ⟨⟨_, hs.sq⟩, q _ _ H (Stp.refl g.wld) (walk_scr hs) h⟩⟩
/-- enumerate of it: pairs -/
def enumL : Nat → List Int → List Dat
  | _, [] => []
  | k, n :: ns => .tup [.int (k : Nat), .int n] :: enumL (k + 1) ns
theorem enumL_get : ∀ {ns : List Int} {k i : Nat} {d : Dat}, (enumL k ns)[i]? = some d → ∃ n, ns[i]? = some n ∧ d = .tup [.int ((k + i : Nat) : Int), .int n]
  | [], _, _, _, h => by simp [enumL] at h
  | n :: ns, k, 0, d, h => by
    simp [enumL] at h
    exact ⟨n, rfl, h.symm⟩
  | n :: ns, k, i + 1, d, h => by
    obtain ⟨m, e1, e2⟩ := enumL_get (ns := ns) (k := k + 1) (i := i) (by simpa [enumL] using h)
    exact ⟨m, by simpa using e1, by rw [e2]; congr 3; omega⟩
theorem enumL_len : ∀ (k : Nat) (ns : List Int), (enumL k ns).length = ns.length
  | _, [] => rfl
  | k, n :: ns => by rw [enumL, List.length_cons, List.length_cons, enumL_len (k + 1) ns]
theorem di_enumScr {elts : List Expr} {kk : Nat} {tpos p pp : Pos} {x : Str} (i : Nat) (hm : G.X.mg "enumerate" = none) (hN : G.X.N[i]? = some x := by rfl) (hv : Vis G.X.env.scope x := by first | exact Or.inl rfl | exact Or.inr (Or.inl rfl) | exact Or.inr (Or.inr rfl)) (hd : (x == ("__debug__" : Str)) = false := by decide)
    (hcd : (x == ("__classdict__" : Str)) = false := by decide) (hg : Gl G.X "enumerate" := by rfl) (hs : starEach [.Name x p] G.X.env = [(false, eval (.Name x p) G.X.env)] := by rfl) :
    DI G (.Tuple elts kk tpos) (.Call (.Name "enumerate" pp) [.Name x p] [] pos) (fun ρ P => rdScr ρ i fun ns => P (enumL 0 ns)) := by
  refine ⟨⟨_, pi_enum hg hm (pa_cons (pe_var hN hv hd hcd) pa_nil) hs, fun S σ H ρ P R g h q => ?_⟩⟩
  obtain ⟨ns, e, h⟩ := rdScr_inv h
  obtain ⟨a, ea, hsc⟩ := g.slot_scr e
  have all : ∀ (S2 : Addr → Prop) (H2 : Hp), Fr S H S2 H2 → SqL G.X.K H2 a (ns.map V.int) := fun S2 H2 fr => (hsc.move fr).sq
  refine ⟨_, ea, a, _, rfl, hsc.sq, q _ _ H (Stp.refl g.wld) ⟨fun j S' H' hj fr => ?_, fun j d S' σ' ρ' H' z H2 hd g fr y => ?_, fun S' H' fr => ⟨_, all S' H' fr, by rw [enumL_len, List.length_map]; exact Nat.le_refl _⟩⟩ h⟩
  · rw [enumL_len] at hj
    exact ⟨_, .int ns[j], all S' H' fr, by simp [List.getElem?_eq_getElem hj]⟩
  · obtain ⟨n, e1, rfl⟩ := enumL_get hd
    obtain ⟨T, u, rfl, nT, rfl, y⟩ := y
    have q := y _ (all _ _ fr)
    rw [List.getElem?_map, e1] at q
    cases q
    have s2 : Stp G H' (upd H' T (.tup [.int ((j : Nat) : Int), .int n])) := Stp.new g.wld nT
    exact ⟨s2, T, _, rfl, .inl ⟨g.fresh nT, upd_same⟩, _, _, rfl, by rw [Nat.zero_add]; rfl, _, _, rfl, rfl, rfl⟩
/-- a new object becomes one's own, behind steps that made it -/
theorem Gd.setOwn2 (g : Gd G S σ H ρ) (st : Stp G H H') {i : Nat} {s : Slot} {p : Addr} (np : H p = none) (hs : s.isOwn = true) (h : SlotOk G.X.K (fun a => S a ∨ a = p) G.H0 H' (some (.ref p)) s) :
    Gd G (fun a => S a ∨ a = p) (σ.set i (some (.ref p))) H' (ρ.set i s) ∧ Fr S H (fun a => S a ∨ a = p) H' := by
  have fr : Fr S H (fun a => S a ∨ a = p) H' := fun a u n e => ⟨fun z => z.elim n (ne_of_none e np), st.keep a u (fun z => n (g.sub a z)) e⟩
  have n0 : ∀ a, G.H0 a = none → ¬ G.S0 a := fun a n z => by
    obtain ⟨o, e⟩ := G.s0 a z
    rw [n] at e; cases e
  have old : ∀ (j : Nat) t, ρ[j]? = some t → SlotOk G.X.K (fun a => S a ∨ a = p) G.H0 H' (σ[j]?.join) t := fun j t ht =>
    (g.slots j t ht).move fr (fun _ => .inl) fun a u ow ea e => by
      have q := g.slots j t ht
      obtain ⟨a', u', e1, _, _, e4⟩ := SlotOk.addr q ow
      rw [ea] at e1
      cases e1
      exact st.keep a u (n0 a e4) e
  have other : ∀ (j : Nat) sj, ρ[j]? = some sj → sj.isOwn = true → σ[j]? = some (some (.ref p)) → False := fun j sj hj oj e => by
    have q := g.slots j sj hj
    rw [e] at q
    obtain ⟨a, u, e1, _, e2, _⟩ := SlotOk.addr q oj
    cases e1
    rw [np] at e2; cases e2
  obtain ⟨a0, u0, ea0, _, eh0, _⟩ := SlotOk.addr h hs
  cases ea0
  refine ⟨⟨st.wld, fun a ha => ?_, fun a ha => .inl (g.sub a ha), by simp [g.len], fun j t ht => ?_, fun j k sj sk w h1 h2 o1 o2 e1 e2 => ?_⟩, fr⟩
  · rcases ha with ha | rfl
    · obtain ⟨u, e⟩ := g.all a ha
      exact st.has a u e
    · exact ⟨u0, eh0⟩
  · rw [getset] at ht
    rw [getset]
    by_cases hj : j = i
    · subst hj
      rw [if_pos rfl] at ht ⊢
      have hl := g.len
      by_cases hi : j < ρ.length
      · rw [if_pos hi] at ht
        cases ht
        rw [if_pos (by omega)]
        exact h
      · rw [if_neg hi] at ht; cases ht
    · rw [if_neg hj] at ht ⊢
      exact old j t ht
  · rw [getset] at h1 h2
    rw [getset] at e1 e2
    by_cases hj : j = i
    · by_cases hk : k = i
      · omega
      · rw [if_pos hj] at e1
        split at e1
        · cases e1
          rw [if_neg hk] at h2 e2
          exact (other k sk h2 o2 e2).elim
        · cases e1
    · by_cases hk : k = i
      · rw [if_pos hk] at e2
        split at e2
        · cases e2
          rw [if_neg hj] at h1 e1
          exact (other j sj h1 o1 e1).elim
        · cases e2
      · rw [if_neg hj] at h1 e1
        rw [if_neg hk] at h2 e2
        exact g.apart j k sj sk w h1 h2 o1 o2 e1 e2
/-- name = [.. for ..], the list one's own -/
theorem ds_setLcOwn {y : Str} {py spos : Pos} {elt tg iter : Expr} {ifs : List Expr} {scope : Scope} {x : Str} (i j : Nat) {F : FI} {Ft : FT} {Fe : FE} (hc : G.X.calm = true) (hN : G.X.N.Nodup) (hsw : swapsWith (.ListComp elt [⟨tg, iter, ifs, 0⟩] scope pos) (some (.Name y py)) spos.line G.X.env = pure true) (hi : DI G tg iter F) (ok : BlkOk G.X.N G.X.env.scope scope [(x, j)])
    (hg : ∀ (s : Shared) (H : Hp) (C : Addr) (cl : List (Str × Addr)) (fp : List Addr), PG (G.X.blk s H scope (compEnvC scope cl C G.X.env) fp) tg (gName j)) (ht : ∀ (s : Shared) (H : Hp) (C : Addr) (cl : List (Str × Addr)) (fp : List Addr), DTs (G.blk s H scope (compEnvC scope cl C G.X.env) fp) ifs Ft)
    (he : ∀ (s : Shared) (H : Hp) (C : Addr) (cl : List (Str × Addr)) (fp : List Addr), DE (G.blk s H scope (compEnvC scope cl C G.X.env) fp) elt Fe) (hy : G.X.N[i]? = some y := by rfl) (hyl : G.X.env.scope.names.lookup y = some .local := by rfl) (hs : ∀ x, foldedSetIterable iter G.X.env x = pure x := by intro _; rfl) :
    DS G (.Assign [.Name y py] (.ListComp elt [⟨tg, iter, ifs, 0⟩] scope pos) spos) (fun D ρ => F ρ fun items => compF (gNm j) Ft Fe (ρ.set j .un) items [] fun ds => D.nx (ρ.set i (.own ds))) := by
  obtain ⟨w, h1, l1⟩ := hi.ex
  refine ⟨⟨_, ps_setLc (i := i) (own := [(x, j)]) hc hN hy hyl hsw h1 ok hg (fun s H C cl fp => (ht s H C cl fp).blk) (fun s H C cl fp => (he s H C cl fp).blk) hs, fun S σ H ρ D Dh g h q => ?_⟩⟩
  refine lift_lc j l1 S σ H ρ _ _ g h fun p xs ds H' np st e hv hp => ?_
  obtain ⟨g2, fr⟩ := g.setOwn2 (i := i) (s := .own ds) st np rfl ⟨p, xs, rfl, .inr rfl, g.fresh0 np, e, hv⟩
  exact q.nx _ _ H' _ g2 fr hp
end
end DL
namespace DL
open PySem PySem.Spec PyProof.Rows L2
/-! ### defs whose arguments are slots: data, raw values, the script -/
structure ConL where
  C : List Slot → (Dat → Prop) → Prop
  mono : ∀ sl P P', C sl P → (∀ d, P d → P' d) → C sl P'
def spL (K : PySem.W.Frag) (C : ConL) : Sp := fun vs H Q E => ∃ (S : Addr → Prop) (sl : List Slot), (∀ a, S a → ∃ o, H a = some o) ∧ SlL K S H sl vs ∧ C.C sl (fun d => ∀ v H', Evl.Ex H H' → Dv K S H' d v → Q v H')
theorem fn_pureL {P : Program} {w : World} {K : PySem.W.Frag} {mg : Str → Option Value} {base : Heap} {x qual : Str} {st : Stmt} {f : Addr} {fd : FuncData} {N ps : List Str} {k : Nat} {C : ConL} (F : Fun K x qual st f fd) (Sc : FnScope N ps (defScope st)) (len : ∀ sl P, C.C sl P → sl.length = ps.length)
    (hbody : ∀ (cdv : Value) (A : Around) (outer : List Env) (s : Shared) (H : Hp) (S : Addr → Prop) (hS : ∀ a, S a → ∃ o, H a = some o), Room k (A.deeper (envOfC qual (defScope st) s.heap.objs.size f cdv)) →
      ∃ T, DB (ctx0 P w K mg base N qual (defScope st) f cdv A outer s H S hS) (defBody st) T ∧ ∀ sl R, C.C sl R → T { nx := fun _ => R .non, rt := R } (startS N.length sl)) : FnOk P w K mg base CX0 (k + 1) f fd ps (spL K C) := by
  have hpl : ps.length ≤ N.length := by have := congrArg List.length Sc.pre; rw [List.length_take] at this; omega
  refine F.ok Sc (fun vs H Q E ⟨S, sl, _, hv, hc⟩ => by rw [hv.len]; exact len _ _ hc) fun cdv A outer s H vs Q E hr h => ?_
  obtain ⟨S, sl, hS, hv, hc⟩ := h
  obtain ⟨T, ⟨t, hp, l⟩, hT⟩ := hbody cdv A outer s H S hS hr
  refine ⟨t, hp, ?_⟩
  refine l S _ H (startS N.length sl) _ _ (gd_startS (G := ctx0 P w K mg base N qual (defScope st) f cdv A outer s H S hS) (fun _ _ e => e) hS hv (by rw [len _ _ hc]; exact hpl)) (hT sl _ hc) ?_
  exact ⟨fun S' σ' H' ρ' g fr q => q .non H' g.wld rfl, fun v d H' hw hv q => q v H' hw hv, fun _ _ _ _ _ _ z => z.elim, fun _ _ _ _ _ _ z => z.elim⟩
structure CalleeL (P : Program) (w : World) (K : PySem.W.Frag) (mg : Str → Option Value) (base : Heap) (x : Str) (k : Nat) (ps : List Str) (C : ConL) : Prop where
  ex : ∃ f fd, FnOk P w K mg base CX0 k f fd ps (spL K C) ∧ mg x = some (.ref f) ∧ PySem.W.keepIn K (.ref f) = true ∧ Binds K fd ps []
/-- arguments as slots -/
abbrev FSl := List Slot → (List Slot → Prop) → Prop
def LiftSl0 (G : Ctx) (t : TA) (F : FSl) : Prop := ∀ S σ H ρ P (Q : List V → Hp → Prop), Gd G S σ H ρ → F ρ P → (∀ vs sl H', Stp G H H' → SlL G.X.K S H' sl vs → P sl → Q vs H') → t σ H Q
structure DSl0 (G : Ctx) (es : List Expr) (F : FSl) : Prop where
  ex : ∃ t, PA G.X es t ∧ LiftSl0 G t F
section
variable {G : Ctx} {S S' : Addr → Prop} {σ : L2.St} {H H' : Hp} {ρ : List Slot} {pos : Pos} {a b e : Expr} {es : List Expr} {Fa Fb F : FE}
theorem dl_nil : DSl0 G [] (fun _ P => P []) := ⟨⟨_, pa_nil, fun _ _ H _ _ _ g h q => q [] [] H (.refl g.wld) rfl h⟩⟩
theorem dl_scr {x : Str} {p : Pos} {Fs : FSl} (n : Nat) (hr : DSl0 G es Fs) (hN : G.X.N[n]? = some x := by rfl) (hv : Vis G.X.env.scope x := by first | exact Or.inl rfl | exact Or.inr (Or.inl rfl) | exact Or.inr (Or.inr rfl)) (hd : (x == ("__debug__" : Str)) = false := by decide)
    (hcd : (x == ("__classdict__" : Str)) = false := by decide) (hs : starEach (Expr.Name x p :: es) G.X.env = (false, eval (.Name x p) G.X.env) :: starEach es G.X.env := by rfl) :
    DSl0 G (.Name x p :: es) (fun ρ P => rdScr ρ n fun ns => Fs ρ fun xs => P (.scr ns :: xs)) := by
  obtain ⟨u, h2, l2⟩ := hr.ex
  refine ⟨⟨_, pa_cons (pe_var hN hv hd hcd) h2 hs, fun S σ H ρ P Q g h q => ?_⟩⟩
  obtain ⟨ns, e, h⟩ := rdScr_inv h
  obtain ⟨a, ea, hsc⟩ := g.slot_scr e
  exact ⟨_, ea, l2 S σ H ρ _ _ g h fun vs sl H2 st2 hvs hp => q _ (.scr ns :: sl) H2 st2 ⟨_, vs, rfl, hsc.move fun a o n e => ⟨n, st2.keep a o (fun z => n (g.sub a z)) e⟩, hvs⟩ hp⟩
theorem de_fnL {x : Str} {k m : Nat} {ps : List Str} {C : ConL} {p : Pos} {Fs : FSl} (h : CalleeL G.X.prog G.X.w G.X.K G.X.mg G.X.base x k ps C) (hr : Room m G.X.A) (ha : DSl0 G (e :: es) Fs) (hk : k ≤ m := by decide) (hg : Gl G.X x := by rfl) (hdb : (x == ("__debug__" : Str)) = false := by decide)
    (he : starEach (e :: es) G.X.env = (false, eval e G.X.env) :: starEach es G.X.env := by rfl) (hpl : (backTo pos (starEach es G.X.env)).any (·.1) = false := by rfl) :
    DE G (.Call (.Name x p) (e :: es) [] pos) (fun ρ P => Fs ρ fun sl => C.C sl P) := by
  obtain ⟨f, fd, F, hm, hkp, hb⟩ := h.ex
  obtain ⟨t, h, l⟩ := ha.ex
  refine ⟨⟨_, pe_call F (hr.mono hk) hg hm hkp hb .nil pass0 h hdb he hpl, fun S σ H ρ P Q g h q => ?_⟩⟩
  refine l S σ H ρ _ _ g h fun vs sl H1 s1 hv hp => ?_
  rw [List.append_nil]
  exact ⟨S, sl, (g.step s1).all, hv, C.mono _ _ _ hp fun d hp v H' e hd => q v d H' (s1.trans (Stp.ex (g.step s1).wld e)) hd hp⟩
end
/-! ### more statements with the state's index -/
section
variable {ι κ : Type} {G : Fam ι} {S S' : Addr → Prop} {σ : L2.St} {H H' H2 : Hp} {ρ : List Slot} {pos : Pos} {a b c e : Expr} {es rest : List Expr} {Fa Fb : FR ι} {st : Stmt} {sts : List Stmt}
/-- what asks nothing of the state is a statement all the same -/
theorem dsr_of {F : ι → FS} (h : ∀ i, DS (G.at i) st (F i)) : DSR G st (fun D ρ i => F i { nx := fun ρ => D.nx ρ i, rt := fun d => D.rt d i, bk := fun ρ => D.bk ρ i, ct := fun ρ => D.ct ρ i } ρ) := by
  have h' : ∀ i, ∃ t, PS G.X st t ∧ LiftS (G.at i) t (F i) := fun i => (h i).ex
  refine ⟨⟨fun D σ H => ∃ t : TS, PS G.X st t ∧ t D σ H, ⟨fun pins s σ H D I ⟨t, hp, hq⟩ => hp.run pins s σ H D I hq⟩, fun S σ H ρ i D Dh g h q => ?_⟩⟩
  obtain ⟨t, hp, l⟩ := h' i
  exact ⟨t, hp, l S σ H ρ _ _ g h ⟨fun S' σ' H' ρ' g' fr hn => q.nx S' σ' H' ρ' i g' fr hn, fun v d H' hw hd hn => q.rt v d H' i hw hd hn, fun S' σ' H' ρ' g' fr hn => q.bk S' σ' H' ρ' i g' fr hn, fun S' σ' H' ρ' g' fr hn => q.ct S' σ' H' ρ' i g' fr hn⟩⟩
/-- name = [e, ..], the list one's own -/
theorem dsr_setOwn {x : Str} {pos' p2 : Pos} {Fs : FAR ι} (n : Nat) (he : DAR G es Fs) (hN : G.X.N.Nodup) (hi : G.X.N[n]? = some x := by rfl) (hx : Loc G.X.env.scope x := by first | exact Or.inl rfl | exact Or.inr rfl) (hs : swapsWith (.List es p2) (some (.Name x pos')) pos.line G.X.env = pure false := by rfl)
    (hf : G.X.fn x = true ∨ G.X.env.scope.names.lookup x = some .local := by first | exact .inl rfl | exact .inr rfl) : DSR G (.Assign [.Name x pos'] (.List es p2) pos) (fun D ρ i => Fs ρ i fun ds j => ds.length ≤ sizeLine ∧ D.nx (ρ.set n (.own ds)) j) := by
  obtain ⟨t, h, l⟩ := he.ex
  refine ⟨⟨_, ps_set (i := n) hN hi hx (pe_lst h) hs hf, fun S σ H ρ i D Dh g h q => ?_⟩⟩
  refine l S σ H ρ i _ _ g h fun vs ds H1 j st hv hp => ⟨by rw [hv.len]; exact hp.1, fun p np => ?_⟩
  have g1 := g.stepI st
  obtain ⟨g2, fr⟩ := g1.grow (o := .lst vs) np
  exact q.nx _ _ _ _ j (g1.setOwn (i := n) (s := .own ds) np rfl ⟨p, vs, rfl, .inr rfl, g1.fresh0 np, upd_same, hv.move fr⟩) (Fr.trans (st.fr g) fr) hp.2
/-- x, y = e, [], the second one a list of one's own -/
theorem dsr_parOwn {x y : Str} {px py pt lp : Pos} {kt k2 pt2} (n m : Nat) (ha : DR G a Fa) (hN : G.X.N.Nodup) (hc : G.X.calm = true := by rfl) (hi : G.X.N[n]? = some x := by rfl) (hj : G.X.N[m]? = some y := by rfl) (hij : n ≠ m := by decide)
    (hx : G.X.env.scope.names.lookup x = some .local := by rfl) (hy : G.X.env.scope.names.lookup y = some .local := by rfl)
    (hw : swappedStores [.Tuple [.Name x px, .Name y py] kt pt] (.Tuple [a, .List [] lp] k2 pt2) G.X.env = pure (some [x, y]) := by rfl)
    (hs : swapsWithSole [.Tuple [.Name x px, .Name y py] kt pt] (.Tuple [a, .List [] lp] k2 pt2) pos.line G.X.env = pure false := by rfl)
    (hst : starEach [a, .List [] lp] G.X.env = (false, eval a G.X.env) :: starEach [.List [] lp] G.X.env := by rfl) (hst2 : starEach [.List [] lp] G.X.env = (false, eval (.List [] lp) G.X.env) :: starEach [] G.X.env := by rfl) :
    DSR G (.Assign [.Tuple [.Name x px, .Name y py] kt pt] (.Tuple [a, .List [] lp] k2 pt2) pos) (fun D ρ i => Fa ρ i fun d j => D.nx ((ρ.set n (.d d)).set m (.own [])) j) := by
  obtain ⟨t, h, l⟩ := ha.ex
  refine ⟨⟨_, ps_par hc hN hi hj hij hx hy (pa_cons h (pa_cons (pe_lst pa_nil) pa_nil hst2) hst) hw hs, fun S σ H ρ i D Dh g h q => ?_⟩⟩
  refine l S σ H ρ i _ _ g h fun v d H1 j st hv hp => ⟨by decide, fun p np => ?_⟩
  have g1 := (g.stepI st).set (i := n) hv
  obtain ⟨g2, fr⟩ := g1.grow (o := .lst []) np
  exact ⟨v, .ref p, rfl, q.nx _ _ _ _ j (g1.setOwn (i := m) (s := .own []) np rfl ⟨p, [], rfl, .inr rfl, g1.fresh0 np, upd_same, rfl⟩) (Fr.trans (st.fr g) fr) hp⟩
/-! ### for, with the index -/
/-- range(e) -/
theorem rangeR {tg : Expr} {p : Pos} {Fs : FAR ι} (hm : G.X.mg "range" = none) (ha : DAR G [a] Fs) (hg : Gl G.X "range" := by rfl) (hs : starEach [a] G.X.env = [(false, eval a G.X.env)] := by rfl) :
    ∃ w : TI, PI G.X tg (.Call (.Name "range" p) [a] [] pos) w ∧ ∀ S σ H ρ i (P : List Dat → ι → Prop) (R : It → Hp → Prop), Gd (G.at i) S σ H ρ → (Fs ρ i fun ds j => int1 ds fun n => (-(2 ^ 62) ≤ n ∧ n < 2 ^ 62) ∧ P (rints 0 n.toNat) j) →
      (∀ (lo : Int) (n : Nat) H1 j, StpI G j H H1 → P (rints lo n) j → R (Itr lo n) H1) → w σ H R := by
  obtain ⟨t, h1, l1⟩ := ha.ex
  refine ⟨_, pi_range1 hg hm h1 hs, fun S σ H ρ i P R g h q => ?_⟩
  refine l1 S σ H ρ i _ _ g h fun vs ds H1 j st hv hp => ?_
  unfold int1 at hp
  split at hp
  · obtain ⟨v, rfl, hd⟩ := dvl1 hv
    cases dv_int hd
    exact ⟨_, rfl, hp.1.1, hp.1.2, q _ _ H1 j st hp.2⟩
  · exact hp.elim
/-- for name in range(e), by a word of what is left, the slots and the index -/
theorem dsr_forRange {x : Str} {xp p fp : Pos} {body : List Stmt} {Fs : FAR ι} {Fb : FSR ι} (n : Nat) (hm : G.X.mg "range" = none) (hp : PassesOwn (model G.X.prog G.X.w) G.X.A G.X.env G.X.xe) (hc : G.X.calm = true) (ha : DAR G [a] Fs) (hb : DBR G body Fb) (hN : G.X.N.Nodup) (hi : G.X.N[n]? = some x := by rfl) (hx : Loc G.X.env.scope x := by first | exact Or.inl rfl | exact Or.inr rfl)
    (hf : G.X.fn x = true ∨ G.X.env.scope.names.lookup x = some .local := by first | exact .inl rfl | exact .inr rfl) (hg : Gl G.X "range" := by rfl) (hs : starEach [a] G.X.env = [(false, eval a G.X.env)] := by rfl)
    (hs2 : ∀ z, foldedSetIterable (.Call (.Name "range" p) [a] [] pos) G.X.env z = pure z := by intro _; rfl) :
    DSR G (.For (.Name x xp) (.Call (.Name "range" p) [a] [] pos) body [] fp) (fun D ρ i => ∃ Inv : List Dat → List Slot → ι → Prop, (Fs ρ i fun ds j => int1 ds fun n => (-(2 ^ 62) ≤ n ∧ n < 2 ^ 62) ∧ Inv (rints 0 n.toNat) ρ j) ∧ (∀ ρ j, Inv [] ρ j → D.nx ρ j) ∧ ∀ d ds ρ j, Inv (d :: ds) ρ j → Fb { nx := Inv ds, ct := Inv ds, bk := D.nx, rt := D.rt } (ρ.set n (.d d)) j) := by
  obtain ⟨w, h1, lw⟩ := rangeR (tg := .Name x xp) (p := p) (pos := pos) hm ha hg hs
  obtain ⟨u, h3, lb⟩ := hb.ex
  refine ⟨⟨_, ps_for hp hc h1 (pg_name (i := n) hN hi hx hf) h3 hs2, ?_⟩⟩
  intro S σ H ρ i D Dh gd h q
  obtain ⟨Inv, h, k0, ks⟩ := h
  refine lw S σ H ρ i (fun items j => Inv items ρ j) _ gd h fun lo cnt H1 j0 st hp => ?_
  have g1 := gd.stepI st
  have fr1 : Fr S H S H1 := st.fr gd
  have wk : ∀ j : ι, WalkOk (G.at j) (Itr lo cnt) (rints lo cnt) S H1 := fun j => walk_rng
  refine ⟨fun r m σ' H' => m = (rints lo cnt).length - r ∧ r ≤ (rints lo cnt).length ∧ ∃ S' ρ' j, Gd (G.at j) S' σ' H' ρ' ∧ Fr S H1 S' H' ∧ Inv ((rints lo cnt).drop r) ρ' j, ⟨_, rfl, Nat.zero_le _, S, ρ, j0, g1, Fr.refl _ _, hp⟩, ?_⟩
  rintro r m σ' H' ⟨rfl, hr, S', ρ', j, g', fr, hf'⟩
  by_cases hlt : r < (rints lo cnt).length
  · refine .inr ⟨(wk j).go r S' H' hlt fr, fun σ2 H2 => ∃ S2 ρ2 j2, Gd (G.at j2) S2 σ2 H2 ρ2 ∧ Fr S H1 S2 H2 ∧ Inv ((rints lo cnt).drop (r + 1)) ρ2 j2, fun σ2 H2 ⟨S2, ρ2, j2, a1, a2, a3⟩ => ⟨_, by omega, rfl, hlt, S2, ρ2, j2, a1, a2, a3⟩, fun z H2 y => ?_⟩
    obtain ⟨s2, hd⟩ := (wk j).yld r _ S' σ' ρ' H' z H2 (List.getElem?_eq_getElem hlt) g' fr y
    have g2 := g'.step s2
    rw [List.drop_eq_getElem_cons hlt] at hf'
    have frx : Fr S' H' S' H2 := s2.fr g'
    refine lb S' _ H2 _ j _ _ (g2.set hd) (ks _ _ _ _ hf') ⟨fun S4 σ4 H4 ρ4 j4 g4 fr4 hn => ⟨S4, ρ4, j4, g4, (fr.trans frx).trans fr4, hn⟩, q.rt, fun S4 σ4 H4 ρ4 j4 g4 fr4 hn => q.nx S4 σ4 H4 ρ4 j4 g4 (fr1.trans ((fr.trans frx).trans fr4)) hn, fun S4 σ4 H4 ρ4 j4 g4 fr4 hn => ⟨S4, ρ4, j4, g4, (fr.trans frx).trans fr4, hn⟩⟩
  · have e : r = (rints lo cnt).length := by omega
    subst e
    rw [List.drop_length] at hf'
    exact .inl ⟨(wk j).stop S' H' fr, q.nx S' σ' H' ρ' j g' (fr1.trans fr) (k0 _ _ hf')⟩
end
end DL
namespace DL
open PySem PySem.Spec PyProof.Rows L2
/-! ### two states side by side; a list of one number -/
def staAnd {ι κ : Type} (s : Sta ι) (t : Sta κ) : Sta (ι × κ) where
  fp := fun a => s.fp a ∨ t.fp a
  M := fun i H => s.M i.1 H ∧ t.M i.2 H
  loc := fun i H H' h q x => ⟨s.loc _ H H' h.1 (fun a o z => q a o (.inl z)) x, t.loc _ H H' h.2 (fun a o z => q a o (.inr z)) x⟩
  noc := fun i H h a φ z => z.elim (s.noc _ H h.1 a φ) (t.noc _ H h.2 a φ)
  dom := fun i H h a z => z.elim (s.dom _ H h.1 a) (t.dom _ H h.2 a)
theorem sub_fst {ι κ : Type} {s : Sta ι} {t : Sta κ} (d : ∀ a, t.fp a → ¬ s.fp a) : SubS s (staAnd s t) Prod.fst (fun i n => (n, i.2)) :=
  ⟨fun _ => .inl, fun _ _ h => h.1, fun i j H H' h e m => ⟨m, t.loc i.2 H H' h.2 (fun a o z q => e a o (d a z) q) fun a φ q => e a _ (fun z => s.noc i.1 H h.1 a φ z q) q⟩⟩
theorem sub_snd {ι κ : Type} {s : Sta ι} {t : Sta κ} (d : ∀ a, t.fp a → ¬ s.fp a) : SubS t (staAnd s t) Prod.snd (fun i n => (i.1, n)) :=
  ⟨fun _ => .inr, fun _ _ h => h.2, fun i j H H' h e m => ⟨s.loc i.1 H H' h.1 (fun a o z q => e a o (fun y => d a y z) q) fun a φ q => e a _ (fun z => t.noc i.2 H h.2 a φ z q) q, m⟩⟩
section
variable {ι κ : Type} {G : Fam ι} {S S' : Addr → Prop} {σ : L2.St} {H H' H2 : Hp} {ρ : List Slot} {pos : Pos} {a b c e : Expr} {es rest : List Expr} {Fa Fb : FR ι} {st : Stmt} {sts : List Stmt}
theorem dr_add (ha : DR G a Fa) (hb : DR G b Fb) : DR G (.BinOp a .Add b pos) (fun ρ i P => Fa ρ i fun x j => Fb ρ j fun y k => addD x y fun z => P z k) := dr_bin (.or (.or op_add op_add_str) (.or op_cat op_catA)) (fun i => serves_add) ha hb
theorem dr_sub (ha : DR G a Fa) (hb : DR G b Fb) : DR G (.BinOp a .Sub b pos) (fun ρ i P => Fa ρ i fun x j => Fb ρ j fun y k => int0 (fun i j => .int (i - j)) x y fun z => P z k) := dr_bin op_sub (fun i => serves_I0) ha hb
theorem dtr_eq (hu : G.X.A.units + 64 < cLine) (ha : DR G a Fa) (hb : DR G b Fb) : DTR G (.Compare a [.Eq] [b] pos) (fun ρ i P => Fa ρ i fun x j => Fb ρ j fun y k => eqD x y fun z => isB z fun z => P z k) := dtr_cmp (.or op_eq (op_eqD hu)) (fun i => serves_eq) ha hb
/-! ### arguments of which the last one is a new list of one number, a state that the callee changes -/
end
end DL
namespace DL
open PySem PySem.Spec PyProof.Rows L2
section
variable {G : Ctx} {S S' : Addr → Prop} {σ : L2.St} {H H' : Hp} {ρ : List Slot} {pos : Pos} {a b e : Expr} {Fa Fb F : FE}
end
end DL
namespace DL
open PySem PySem.Spec PyProof.Rows L2 HT
section
variable {prog : Program} {w : World} {A : Around} {E : Value → Shared → Prop} {s : Shared}
end
section
variable {X : Cx} {e : Expr} {te : TE} {p1 p2 p3 pos : Pos} {z : Nat}
end
section
variable {G : Ctx} {S : Addr → Prop} {σ : L2.St} {H : Hp} {ρ : List Slot} {a : Expr} {Fa : FE} {p1 p2 p3 pos : Pos} {z : Nat}
end
end DL
namespace DL
open PySem PySem.Spec PyProof.Rows L2
/-! ### a def that is handed a dict, which it fills and hands back -/
end DL
namespace DL
open PySem PySem.Spec PyProof.Rows L2
/-! ### lists that are new, by the callee's promise over any scratch -/
mutual
def noLst : Dat → Bool
  | .lst _ => false
  | .dic _ _ => false
  | .anl => false
  | .adc => false
  | .tup ds => noLsts ds
  | _ => true
def noLsts : List Dat → Bool
  | [] => true
  | d :: ds => noLst d && noLsts ds
end
section
variable {K : PySem.W.Frag} {S S' : Addr → Prop} {H : Hp}
mutual
theorem noLst_dv (h : ∀ a xs, ¬ S a → H a = some (.tup xs) → ¬ S' a) : ∀ (d : Dat) (v : V), noLst d = true → Dv K S H d v → Dv K S' H d v
  | .non, _, _, e => e
  | .bl _, _, _, e => e
  | .int _, _, _, e => e
  | .str _, _, _, e => e
  | .tup ds, v, n, e => by
    obtain ⟨a, xs, rfl, h1, h2⟩ := (e : ∃ a xs, v = .ref a ∧ ((¬ S a ∧ H a = some (.tup xs)) ∨ WrT K a xs) ∧ DvL K S H ds xs)
    rw [noLst] at n
    exact ⟨a, xs, rfl, h1.imp (fun z => ⟨h a xs z.1 z.2, z.2⟩) id, noLst_dvl h ds xs n h2⟩
  | .lst ds, v, n, e => by rw [noLst] at n; cases n
  | .dic ks ds, v, n, e => by rw [noLst] at n; cases n
  | .anl, v, n, e => by rw [noLst] at n; cases n
  | .adc, v, n, e => by rw [noLst] at n; cases n
theorem noLst_dvl (h : ∀ a xs, ¬ S a → H a = some (.tup xs) → ¬ S' a) : ∀ (ds : List Dat) (vs : List V), noLsts ds = true → DvL K S H ds vs → DvL K S' H ds vs
  | [], _, _, e => e
  | d :: ds, vs, n, e => by
    obtain ⟨v, r, rfl, h1, h2⟩ := (e : ∃ v r, vs = v :: r ∧ Dv K S H d v ∧ DvL K S H ds r)
    rw [noLsts, Bool.and_eq_true] at n
    exact ⟨v, r, rfl, noLst_dv h d v n.1 h1, noLst_dvl h ds r n.2 h2⟩
end
end
section
variable {G : Ctx} {S : Addr → Prop} {σ : L2.St} {H H' : Hp} {ρ : List Slot} {pos : Pos} {a e : Expr} {Fa F : FE}
end
end DL
namespace DL
open PySem PySem.Spec PyProof.Rows L2
/-! ### defs that are handed a state, called where no repr is under way -/
theorem fn_pureSG {κ : Type} {P : Program} {w : World} {K : PySem.W.Frag} {mg : Str → Option Value} {base : Heap} {x qual : Str} {stm : Stmt} {f : Addr} {fd : FuncData} {N ps : List Str} {k : Nat} {C : ConS κ} (F : Fun K x qual stm f fd) (Sc : FnScope N ps (defScope stm)) (len : ∀ st i sl P, C.C st i sl P → sl.length = ps.length)
    (hbody : ∀ (cdv : Value) (A : Around) (outer : List Env) (s : Shared) (H : Hp) (S : Addr → Prop) (hS : ∀ a, S a → ∃ o, H a = some o) (st : Sta κ) (i0 : κ) (h0 : st.M i0 H), A.guards = some [] → (∀ a, st.fp a → S a) → Room k (A.deeper (envOfC qual (defScope stm) s.heap.objs.size f cdv)) → ∀ sl R, C.C st i0 sl R →
      ∃ T, DBR (famS P w K mg base N qual (defScope stm) f cdv A outer s H S hS st i0 h0) (defBody stm) T ∧ T { nx := fun _ => R .non, rt := R } (startS N.length sl) i0) : FnG P w K mg base CX0 (k + 1) f fd ps (spS K C) := by
  have hpl : ps.length ≤ N.length := by have := congrArg List.length Sc.pre; rw [List.length_take] at this; omega
  obtain ⟨oc, od, kV, doc, pm, an, cdv, ct, osl, rfl, lk, hcd⟩ := F.ex
  refine fnG_of lk hcd Sc (fun vs H Q E ⟨S, st, i, sl, _, _, _, hv, hc⟩ => by rw [hv.len]; exact len _ _ _ _ hc) fun A outer s H vs Q E hgd hr h => ?_
  obtain ⟨S, st, i, sl, hS, hf, h0, hv, hc⟩ := h
  obtain ⟨T, ⟨t, hp, l⟩, hT⟩ := hbody cdv A outer s H S hS st i h0 hgd hf hr sl _ hc
  refine ⟨t, hp.nox, ?_⟩
  refine l S _ H (startS N.length sl) i _ _ (gd_startS (G := (famS P w K mg base N qual (defScope stm) f cdv A outer s H S hS st i h0).at i) ⟨ExF.refl _ _, h0⟩ hS hv (by rw [len _ _ _ _ hc]; exact hpl)) hT ?_
  exact ⟨fun S' σ' H' ρ' j g fr q => q .non H' g.wld.1 g.wld.2 rfl, fun v d H' j hw hv q => q v H' hw.1 hw.2 hv, fun _ _ _ _ _ _ _ z => z.elim, fun _ _ _ _ _ _ _ z => z.elim⟩
structure CalleeSG {κ : Type} (P : Program) (w : World) (K : PySem.W.Frag) (mg : Str → Option Value) (base : Heap) (x : Str) (k : Nat) (ps : List Str) (C : ConS κ) : Prop where
  ex : ∃ f fd, FnG P w K mg base CX0 k f fd ps (spS K C) ∧ mg x = some (.ref f) ∧ PySem.W.keepIn K (.ref f) = true ∧ Binds K fd ps []
section
variable {ι κ : Type} {G : Fam ι} {S S' : Addr → Prop} {σ : L2.St} {H H' H2 : Hp} {ρ : List Slot} {pos : Pos} {a b c e : Expr} {es rest : List Expr} {Fa Fb : FR ι} {st : Stmt} {sts : List Stmt}
theorem dr_fnSG {st : Sta κ} {π : ι → κ} {u : ι → κ → ι} {x : Str} {k m : Nat} {ps : List Str} {C : ConS κ} {p : Pos} {Fs : FSR' ι} (gs : GS G st π u) (h : CalleeSG G.X.prog G.X.w G.X.K G.X.mg G.X.base x k ps C) (hr : Room m G.X.A) (hgd : G.X.A.guards = some []) (ha : DSl G (e :: es) Fs) (hk : k ≤ m := by decide) (hg : Gl G.X x := by rfl) (hdb : (x == ("__debug__" : Str)) = false := by decide)
    (he : starEach (e :: es) G.X.env = (false, eval e G.X.env) :: starEach es G.X.env := by rfl) (hpl : (backTo pos (starEach es G.X.env)).any (·.1) = false := by rfl) :
    DR G (.Call (.Name x p) (e :: es) [] pos) (fun ρ i P => Fs ρ i fun sl j => C.C st (π j) sl fun d j' => P d (u j j')) := by
  obtain ⟨f, fd, F, hm, hkp, hb⟩ := h.ex
  obtain ⟨t, h, l⟩ := ha.ex
  refine ⟨⟨_, pe_callG F (hr.mono hk) hgd hg hm hkp hb pass0 h hdb he hpl, fun S σ H ρ i P Q g h q => ?_⟩⟩
  refine l S σ H ρ i _ _ g h fun vs sl H1 j s1 hv hp => ?_
  rw [List.append_nil]
  have g1 := g.stepI s1
  refine ⟨S, st, π j, sl, g1.all, fun a z => g1.sub a (gs.sub a z), gs.get j H1 g1.wld, hv, C.mono _ _ _ _ _ hp fun d j' hp v H' e m hd => ?_⟩
  exact q v d H' (u j j') (s1.trans (gs.stp g1.wld e m)) hd hp
end
section
variable {G : Ctx} {S : Addr → Prop} {H : Hp} {pos : Pos} {a : Expr}
end
end DL
namespace DL
open PySem PySem.Spec PyProof.Rows L2
/-! ### an error that a name keeps behind its clause -/
section
variable {X : Cx} {pins : List (Addr × Obj)} {σ : L2.St} {H : Hp} {s : Shared}
end
end DL
namespace DL
open PySem PySem.Spec PyProof.Rows L2
section
variable {X : Cx} {pins : List (Addr × Obj)} {σ : L2.St} {H : Hp} {s : Shared}
end
end DL
namespace DL
open PySem PySem.Spec PyProof.Rows L2 LamX
/-! ### a lambda handed on: of what stood, nothing but the maker's table is written -/
section
variable {X : Cx} {pins : List (Addr × Obj)} {σ : L2.St} {H : Hp} {s : Shared}
end
end DL
namespace DL
open PySem PySem.Spec PyProof.Rows L2 LamX
/-! ### a maker's table of lambdas as a state -/
theorem TabS.to {H H' : Hp} {P : Addr} {q : Str} (t : TabS H P q) (h : ∀ o, H P = some o → H' P = some o) (x : KeepX H H') : TabS H' P q := by
  obtain ⟨ps, h1, h2, h3⟩ := t
  refine ⟨ps, h _ h1, h2, fun pos cv hc => ?_⟩
  obtain ⟨c, e1, e2⟩ := h3 pos cv hc
  exact ⟨c, e1, x c _ e2⟩
section
variable {ι : Type} {G : Fam ι} {Fa : FR ι} {e : Expr} {pos : Pos}
/-- name.append(e), the list one's own, e of the state -/
theorem dsr_append {x : Str} {np apos cpos : Pos} (i : Nat) (he : DR G e Fa) (hi : G.X.N[i]? = some x := by rfl) (hv : Vis G.X.env.scope x := by first | exact Or.inl rfl | exact Or.inr (Or.inl rfl) | exact Or.inr (Or.inr rfl)) (hd : (x == ("__debug__" : Str)) = false := by decide)
    (hcd : (x == ("__classdict__" : Str)) = false := by decide) (hst : starEach [e] G.X.env = (false, eval e G.X.env) :: starEach [] G.X.env := by rfl)
    (hbase : attributeBase (.Name x np) "append" G.X.env (eval (.Name x np) G.X.env) = eval (.Name x np) G.X.env := by rfl)
    (hfew : ((backTo cpos (starEach [e] G.X.env)).all (fun x => !x.1) && (backToKw cpos (keywordEach [] G.X.env)).all (fun x => x.1.isSome) && decide ([e].length + ([] : List Keyword).length + (if ([] : List Keyword).isEmpty then 0 else 1) < 30)) = true := by rfl)
    (hline : (apos.endLine == cpos.line) = true := by rfl) (hplain : (backTo cpos (starEach [] G.X.env)).any (·.1) = false := by rfl) (hs : swapsWith (.Call (.Attribute (.Name x np) "append" apos) [e] [] cpos) none pos.line G.X.env = pure false := by rfl) :
    DSR G (.Expr (.Call (.Attribute (.Name x np) "append" apos) [e] [] cpos) pos) (fun D ρ j => ownL ρ i fun ds => Fa ρ j fun y j' => ds.length < sizeLine ∧ D.nx (ρ.set i (.own (ds ++ [y]))) j') := by
  obtain ⟨t, h, l⟩ := he.ex
  refine ⟨⟨_, ps_expr (pe_bm PySem.F.plainAttrs_list PySem.F.slot_list_append PySem.F.type_list_append mt_append (pe_var hi hv hd hcd) (pa_cons h pa_nil hst) hbase hfew hline hst hplain) hs, fun S σ H ρ j D Dh g h q => ?_⟩⟩
  obtain ⟨ds, es, hf⟩ := ownL_inv h
  obtain ⟨p, xs, e1, sp, e0, eh, hl⟩ := g.slot_own es
  refine ⟨.ref p, e1, .inl ⟨rfl, xs, .inl (.inl eh)⟩, l S σ H ρ j _ _ g hf fun v d H1 j' st hv ⟨hz, hp⟩ => ?_⟩
  have g1 := g.stepI st
  obtain ⟨p', xs', e1', sp', e0', eh', hl'⟩ := g1.slot_own es
  cases e1.symm.trans e1'
  obtain ⟨g2, fr⟩ := own_append (es := [d]) (ys := [v]) g1 es e1 sp e0 hl' ⟨v, [], rfl, hv, rfl⟩
  exact ⟨p, xs', v, rfl, rfl, eh', by rw [hl'.len]; exact hz, q.nx _ _ _ _ _ g2 (Fr.trans (st.fr g) fr) hp⟩
end
end DL
namespace DL
open PySem PySem.Spec PyProof.Rows L2
def isLst (d : Dat) (P : List Dat → Prop) : Prop := match d with
  | .lst ds => P ds
  | _ => False
section
variable {ι : Type} {G : Fam ι} {Fa : FR ι} {e : Expr}
/-- a state that is opened: a family from here on -/
abbrev famAt {κ : Type} (X : Cx) (H : Hp) (S : Addr → Prop) (hS : ∀ a, S a → ∃ o, H a = some o) (st : Sta κ) (i0 : κ) (h0 : st.M i0 H) : Fam κ where
  X := X
  H0 := H
  S0 := S
  W := fun i H' => ExF st.fp H H' ∧ st.M i H'
  clo := fun i H1 H2 h k x => ⟨fun a o n e => k a o o e (h.1 a o n e), st.loc i H1 H2 h.2 (fun a o z e => by
    obtain ⟨o0, e0⟩ := st.dom i0 H h0 a z
    exact k a o o0 e0 e) x⟩
  top := fun i H1 h a o e => by
    by_cases z : st.fp a
    · exact st.dom i H1 h.2 a z
    · exact ⟨o, h.1 a o z e⟩
  s0 := hS
theorem gs_at {κ : Type} {X : Cx} {H : Hp} {S : Addr → Prop} {hS : ∀ a, S a → ∃ o, H a = some o} {st : Sta κ} {i0 : κ} {h0 : st.M i0 H} (hf : ∀ a, st.fp a → S a) : GS (famAt X H S hS st i0 h0) st (fun i => i) (fun _ j => j) :=
  ⟨hf, fun _ _ h => h.2, fun i j H1 H2 h e m => ⟨h.1.trans e, m⟩⟩
/-- statements, by whatever reading holds where they are begun -/
theorem pss_any {X : Cx} {sts : List Stmt} : PSs X sts (fun D σ H => ∃ t : TS, PSs X sts t ∧ t D σ H) := ⟨fun pins s σ H D I ⟨_, hp, hq⟩ => hp.run pins s σ H D I hq⟩
end
end DL
namespace DL
open PySem PySem.Spec PyProof.Rows L2 LamX
/-! ### the end of a row whose law is a def that asks for no repr under way, with one table -/
section
variable {P : Program} {w : World} {K : PySem.W.Frag} {mg mb : Str → Option Value} {k : Nat} {fa a c T : Addr} {fd : FuncData} {x : Str} {sp : Sp} {s : Shared} {vs : List Value} {ns : List Int}
end
end DL
namespace DL
open PySem PySem.Spec PyProof.Rows L2
/-! ### numbers of a list: max, sum; int of a truth -/
theorem DvL.ints {K : PySem.W.Frag} {S : Addr → Prop} {H : Hp} : ∀ {l : List Int} {vs : List V}, DvL K S H (l.map Dat.int) vs → vs = l.map V.int
  | [], _, e => e
  | x :: l, vs, e => by
    obtain ⟨v, r, rfl, h1, h2⟩ := (e : ∃ v r, vs = v :: r ∧ Dv K S H (.int x) v ∧ DvL K S H (l.map Dat.int) r)
    rw [List.map_cons, DvL.ints h2, dv_int h1]
section
variable {G : Ctx} {S S' : Addr → Prop} {σ : L2.St} {H H' : Hp} {ρ : List Slot} {pos : Pos} {a b : Expr} {Fa Fb : FE}
/-! ### max(l, default=d) -/
/-! ### x in a list, of whatever can be compared -/
/-! ### d.get(key, other) -/
end
end DL
/-! ### texts, any number of them, in order -/
namespace DL
open PySem PySem.Spec PyProof.Rows L2 SrtO Srt
section
variable {prog : Program} {w : World} {A : Around} {E : Value → Shared → Prop} {s : Shared}
end
section
variable {X : Cx}
end
section
variable {G : Ctx} {S : Addr → Prop} {H : Hp} {pos : Pos} {a : Expr}
end
end DL
namespace K01
open PySem PySem.Spec PyProof.Rows L2 DL
/-! ### dicts with text keys -/
section
variable {P : Program} {w : World} {K : PySem.W.Frag} {mg : Str → Option Value} {base : Heap} {f f2 : Addr} {fd fd2 : FuncData} {k : Nat}
-- calls [] consts []
end
end K01
namespace K01
open PySem PySem.Spec PyProof.Rows L2 DL
/-! ### deeper than need be -/
section
variable {P : Program} {w : World} {K : PySem.W.Frag} {mg : Str → Option Value} {base : Heap} {f f2 : Addr} {fd fd2 : FuncData} {k : Nat}
abbrev s_init : Stmt := inClass (topS 3) 0
theorem sc_init : FnScope ["self", "what"] ["self", "what"] (defScope s_init) := ⟨rfl, rfl, rfl, by decide +kernel, rfl, by decide +kernel, by decide +kernel⟩
theorem ok_init (hm : mg "ValueError" = none) (vV : PySem.W.findCls K (.type "ValueError") (.type "type") "__init__" = some (.val (.builtin "ValueError.__init__"))) (F : Fun K "__init__" "BadValue.__init__" s_init f fd) : FnOk P w K mg base CX0 (k + 1) f fd ["self", "what"] (spInit K "what") := by
  refine F.ok sc_init (fun vs H Q E ⟨a, C, y, e, _⟩ => by rw [e]; rfl) fun cdv A outer s H vs Q E hr h => ?_
  obtain ⟨a, C, y, rfl, T, no, ea, q⟩ := h
  refine ⟨_, pss_cons (ps_expr (pe_veinit (by rfl) hm vV (pa_cons (pe_var (i := 0) rfl (Or.inl rfl)) (pa_cons (pe_var (i := 1) rfl (Or.inl rfl)) pa_nil)))) (pss_one (ps_ost (pe_var (i := 0) rfl (Or.inl rfl)) (pe_var (i := 1) rfl (Or.inl rfl)))), ?_⟩
  refine ⟨.ref a, rfl, y, rfl, a, C, [y], rfl, show 1 ≤ 1000 by decide, T, ea, ?_⟩
  exact ⟨y, rfl, .ref a, rfl, a, C, rfl, T, no, .inl ⟨ea, fun dx n ne => q dx n ne⟩⟩
/-! ### terms asked -/
def badX (CB : Addr) (w : Str) : Exc := (CB, [("what", .str w)])
-- calls ['is_term'] consts []
-- calls ['check_term', 'term_sort'] consts []
-- calls ['check_term', 'inner_terms'] consts []
-- calls ['check_term', 'parts_in_order', 'each_once', 'term_text'] consts []
end
end K01
namespace K01
open PySem PySem.Spec PyProof.Rows L2 DL
section
variable {P : Program} {w : World} {K : PySem.W.Frag} {mg : Str → Option Value} {base : Heap} {f f2 : Addr} {fd fd2 : FuncData} {k : Nat}
/-! ### what the asker's own looks tell -/
-- calls [] consts []
def kinds5 : List Str := ["thing", "num", "tree", "set", "bits"]
def c_law_kind : Con := conE (α := Nat) (fun a => [.int (a : Nat)]) (fun _ => True) fun a => .str (kinds5.getD (a % 5) "thing")
-- calls [] consts []
end
end K01
namespace K01
open PySem PySem.Spec PyProof.Rows L2 DL
section
variable {P : Program} {w : World} {K : PySem.W.Frag} {mg : Str → Option Value} {base : Heap} {f f2 : Addr} {fd fd2 : FuncData} {k : Nat}
-- calls ['_law_text'] consts []
end
end K01
namespace K01
open PySem PySem.Spec PyProof.Rows L2 DL
/-- what may be compared -/
def Lay (d : Dat) : Prop := (toP d).canLay0 = true
theorem lay_all : ∀ {ds : List Dat}, PyData.canLayAll0 (toPs ds) = true ↔ ∀ d ∈ ds, Lay d
  | [] => ⟨fun _ x hx => (List.not_mem_nil hx).elim, fun _ => rfl⟩
  | d :: ds => by
    rw [toPs, PyData.canLayAll0, Bool.and_eq_true, lay_all]
    constructor
    · rintro ⟨h1, h2⟩ x hx
      rcases List.mem_cons.mp hx with rfl | hx
      · exact h1
      · exact h2 x hx
    · intro h
      exact ⟨h d List.mem_cons_self, fun x hx => h x (List.mem_cons_of_mem _ hx)⟩
theorem lay_tup {ds : List Dat} : Lay (.tup ds) ↔ ∀ d ∈ ds, Lay d := by
  unfold Lay
  rw [toP, PyData.canLay0]
  exact lay_all
theorem lay_lst {ds : List Dat} : Lay (.lst ds) ↔ ∀ d ∈ ds, Lay d := by
  unfold Lay
  rw [toP, PyData.canLay0]
  exact lay_all
theorem compF_filter {j : Nat} {Ft : FT} {Fe : FE} {ρ : List DL.Slot} {p : Dat → Bool} {f : Dat → Dat} : ∀ {items acc : List Dat} {P : List Dat → Prop}, (∀ d ∈ items, ∀ R : Bool → Prop, R (p d) → Ft (ρ.set j (.d d)) R) → (∀ d ∈ items, p d = true → ∀ R : Dat → Prop, R (f d) → Fe (ρ.set j (.d d)) R) → acc.length + items.length ≤ sizeLine → P (acc ++ (items.filter p).map f) →
    compF (gNm j) Ft Fe ρ items acc P
  | [], acc, P, _, _, _, h => by simpa [compF] using h
  | d :: ds, acc, P, ht, he, hl, h => by
    unfold compF
    refine ht d List.mem_cons_self _ ?_
    by_cases hp : p d = true
    · rw [if_pos hp]
      refine he d List.mem_cons_self hp _ ⟨by simp at hl; omega, ?_⟩
      refine compF_filter (fun x hx => ht x (List.mem_cons_of_mem _ hx)) (fun x hx => he x (List.mem_cons_of_mem _ hx)) (by simp at hl ⊢; omega) ?_
      rw [List.filter_cons, if_pos hp] at h
      simpa using h
    · rw [if_neg hp]
      refine compF_filter (fun x hx => ht x (List.mem_cons_of_mem _ hx)) (fun x hx => he x (List.mem_cons_of_mem _ hx)) (by simp at hl ⊢; omega) ?_
      rw [List.filter_cons, if_neg hp] at h
      exact h
def alpha : Str := "abcdefghijklmnopqrstuvwxyz"
theorem alpha_small (c : Nat) : decide (c ∈ alpha.cps.toList) = small c := by
  have e : alpha.cps.toList = (List.range 26).map (· + 97) := by decide +kernel
  rw [e]
  unfold small
  by_cases h : 97 ≤ c ∧ c ≤ 122
  · have : c ∈ (List.range 26).map (· + 97) := List.mem_map.mpr ⟨c - 97, List.mem_range.mpr (by omega), by omega⟩
    rw [decide_eq_true this]
    simp [h.1, h.2]
  · have : ¬ c ∈ (List.range 26).map (· + 97) := fun z => by
      obtain ⟨x, hx, rfl⟩ := List.mem_map.mp z
      have := List.mem_range.mp hx
      omega
    rw [decide_eq_false this]
    by_cases h1 : 97 ≤ c <;> simp <;> omega
section
variable {P : Program} {w : World} {K : PySem.W.Frag} {mg : Str → Option Value} {base : Heap} {f f2 : Addr} {fd fd2 : FuncData} {k : Nat}
-- calls [] consts []
end
end K01
namespace K01
open PySem PySem.Spec PyProof.Rows L2 DL
section
variable {P : Program} {w : World} {K : PySem.W.Frag} {mg : Str → Option Value} {base : Heap} {f f2 : Addr} {fd fd2 : FuncData} {k : Nat}
-- calls [] consts []
-- calls ['_law_is_name', '_law_fits'] consts []
end
end K01
namespace K01
open PySem PySem.Spec PyProof.Rows L2 DL
section
variable {P : Program} {w : World} {K : PySem.W.Frag} {mg : Str → Option Value} {base : Heap} {f f2 : Addr} {fd fd2 : FuncData} {k : Nat}
-- calls [] consts []
end
end K01
namespace K01
open PySem PySem.Spec PyProof.Rows L2 DL
section
variable {P : Program} {w : World} {K : PySem.W.Frag} {mg : Str → Option Value} {base : Heap} {f f2 : Addr} {fd fd2 : FuncData} {k : Nat}
-- calls ['_law_is_name', '_law_term_kind'] consts []
end
end K01
namespace K01
open PySem PySem.Spec PyProof.Rows L2 DL
end K01
namespace K01
open PySem PySem.Spec PyProof.Rows L2 DL
section
variable {P : Program} {w : World} {K : PySem.W.Frag} {mg : Str → Option Value} {base : Heap} {f f2 : Addr} {fd fd2 : FuncData} {k : Nat}
-- calls ['_law_leaf_kind', '_law_call_kind', '_law_kinds', '_law_fits', '_law_term_kind'] consts []
end
end K01
namespace K01
open PySem PySem.Spec PyProof.Rows L2 DL
section
variable {P : Program} {w : World} {K : PySem.W.Frag} {mg : Str → Option Value} {base : Heap} {f f2 : Addr} {fd fd2 : FuncData} {k : Nat}
-- calls ['_law_term_kind'] consts []
end
end K01
namespace K01
open PySem PySem.Spec PyProof.Rows L2 DL
def T (w : Str) (r : List Dat) : Dat := .tup (.str w :: r)
def N (n c : Str) : Dat := T "name" [.str n, .str c]
section
variable {P : Program} {w : World} {K : PySem.W.Frag} {mg : Str → Option Value} {base : Heap} {f f2 : Addr} {fd fd2 : FuncData} {k : Nat}
-- calls [] consts []
end
end K01
namespace K01
open PySem PySem.Spec PyProof.Rows L2 DL
section
variable {P : Program} {w : World} {K : PySem.W.Frag} {mg : Str → Option Value} {base : Heap} {f f2 : Addr} {fd fd2 : FuncData} {k : Nat}
-- calls [] consts []
end
end K01
namespace K01
open PySem PySem.Spec PyProof.Rows L2 DL
section
variable {P : Program} {w : World} {K : PySem.W.Frag} {mg : Str → Option Value} {base : Heap} {f f2 : Addr} {fd fd2 : FuncData} {k : Nat}
-- calls [] consts []
end
end K01
namespace K01
open PySem PySem.Spec PyProof.Rows L2 DL
section
variable {P : Program} {w : World} {K : PySem.W.Frag} {mg : Str → Option Value} {base : Heap} {f f2 : Addr} {fd fd2 : FuncData} {k : Nat}
-- calls [] consts []
end
end K01
namespace K01
open PySem PySem.Spec PyProof.Rows L2 DL
/-! ### what the asker asks of may be asked of -/
end K01
namespace K01
open PySem PySem.Spec PyProof.Rows L2 DL
section
variable {P : Program} {w : World} {K : PySem.W.Frag} {mg : Str → Option Value} {base : Heap} {f f2 : Addr} {fd fd2 : FuncData} {k : Nat}
abbrev s__law_mixed : Stmt := topS 31
theorem sc__law_mixed : FnScope ["cell", "k", "turned"] ["cell", "k"] (defScope s__law_mixed) := ⟨rfl, rfl, rfl, by decide +kernel, rfl, by decide +kernel, by decide +kernel⟩
-- calls [] consts []
theorem ok_law_mixed (F : Fun K "_law_mixed" "_law_mixed" s__law_mixed f fd) : FnOk P w K mg base CX0 (k + 1) f fd ["cell", "k"] (spD K conMix) := by
  refine fn_pure F sc__law_mixed (fun ds P X ⟨c, k, e, _⟩ => by rw [e]; rfl) fun cdv A outer s H S hS hr => ?_
  have nd := sc__law_mixed.nd
  refine ⟨_, (db_cons (ds_set 2 (de_add (de_add (de_mod (de_mulI (de_mulI (de_var 0) (de_add de_int (de_mulI de_int (de_var 1)))) de_int) de_int) (de_mulI (de_mulI de_int (de_var 1)) (de_var 1))) (de_mulI de_int (de_var 1))) nd) (db_one (ds_ret (de_fdiv (de_mod (de_mulI (de_var 2) de_int) de_int) de_int)))), ?_⟩
  rintro ds R X ⟨c, j, rfl, hc0, hc1, hj0, hj1, h⟩
  ((try dsimp only); refine rd_here rfl ?_; (try dsimp only))
  ((try dsimp only); refine rd_here rfl ?_; (try dsimp only))
  refine ⟨.inl (by decide), ?_⟩
  refine ⟨.inl ⟨by omega, by omega⟩, ?_⟩
  refine ⟨.inr (by decide), ?_⟩
  refine ⟨(show (0 : Int) < 2147483647 by decide), ?_⟩
  ((try dsimp only); refine rd_here rfl ?_; (try dsimp only))
  refine ⟨.inl (by decide), ?_⟩
  ((try dsimp only); refine rd_here rfl ?_; (try dsimp only))
  refine ⟨.inr ⟨by omega, by omega⟩, ?_⟩
  dsimp only
  rw [addD_int]
  ((try dsimp only); refine rd_here rfl ?_; (try dsimp only))
  refine ⟨.inl (by decide), ?_⟩
  dsimp only
  rw [addD_int]
  ((try dsimp only); refine rd_here rfl ?_; (try dsimp only))
  refine ⟨.inr (by decide), ?_⟩
  refine ⟨(show (0 : Int) < 2147483629 by decide), ?_⟩
  refine ⟨⟨(show (0 : Int) < 7 by decide), (show (7 : Int) < 1073741824 by decide)⟩, ?_⟩
  refine h _ ?_ ?_
  · exact Int.ediv_nonneg (Int.emod_nonneg _ (by decide)) (by decide)
  · exact Int.lt_of_le_of_lt (Int.ediv_le_self _ (Int.emod_nonneg _ (by decide))) (Int.lt_trans (Int.emod_lt_of_pos _ (by decide)) (by decide))
abbrev s__law_draw : Stmt := topS 33
theorem sc__law_draw : FnScope ["m", "top", "k", "spot", "cell"] ["m", "top"] (defScope s__law_draw) := ⟨rfl, rfl, rfl, by decide +kernel, rfl, by decide +kernel, by decide +kernel⟩
theorem draw_cells {cells : List Int} (h : ∀ x ∈ cells, (0 : Int) ≤ x ∧ x < 2147483648) {n : Nat} {x : Int} (e : cells[n]? = some x) : 0 ≤ x ∧ x < 2147483648 := h x (List.mem_of_getElem? e)
theorem ok_law_draw (B : Bt mg) (F__law_mixed : Callee P w K mg base "_law_mixed" k ["cell", "k"] conMix) (F : Fun K "_law_draw" "_law_draw" s__law_draw f fd) : FnOk P w K mg base CX0 (k + 1) f fd ["m", "top"] (spS K conDraw) := by
  obtain ⟨fm, fdm, Fm, hm, hkp, hbm⟩ := F__law_mixed.ex
  refine F.ok sc__law_draw (fun vs H Q E ⟨S, st, i, sl, _, _, _, hv, v, top, _, e, _⟩ => by rw [hv.len, e]; rfl) fun cdv A outer s H vs Q E hr h => ?_
  obtain ⟨S, st, n, sl, hS, hf, h0, hv, v, top, ⟨a, b, c, L, nab, nac, nbc, rfl, rfl⟩, rfl, ht0, ht1, hn, hq⟩ := h
  obtain ⟨v1, r1, rfl, hv1, v2, r2, rfl, hv2, hr2⟩ := hv
  cases (hv1 : v1 = .ref a)
  cases (hv2 : v2 = .int top)
  cases (hr2 : r2 = [])
  obtain ⟨j, cells, left, hj, hc64, hcells, hL, ea, eb, ec⟩ := h0
  have nd := sc__law_draw.nd

  refine ⟨_, pss_cons (ps_set (i := 2) nd rfl (.inl rfl) (pe_dget (hu_of hr) (pv 0) pe_str (fun _ _ => rfl)))
    (pss_cons (ps_dput (hu_of hr) (pv 0) pe_str (pe_op op_add (pv 2) pe_int) rfl)
    (pss_cons (ps_if (pt_cmpR (op_neD hr.units) (pe_dget (hu_of hr) (pv 0) pe_str (fun _ _ => rfl)) (pe_lst pa_nil) (by rfl))
      (pss_cons (ps_set (i := 3) nd rfl (.inl rfl) (pe_op op_mod (pv 2) (pe_callB call_len (by rfl) B.len PySem.boot_len (pa_cons (pe_dget (hu_of hr) (pv 0) pe_str (fun _ _ => rfl)) pa_nil))))
      (pss_cons (ps_set (i := 4) nd rfl (.inl rfl) (pe_ix ix_list (pe_dget (hu_of hr) (pv 0) pe_str (fun _ _ => rfl)) (pv 3) (fun _ _ => rfl)))
      (pss_one (ps_if (pt_cmpR op_gt (pv 4) pe_int (by rfl))
        (pss_cons (ps_asg (pe_op op_fdiv (pv 4) (pv 1)) (pg_sub (pe_dget (hu_of hr) (pv 0) pe_str (fun _ _ => rfl)) (pv 3) set_list))
        (pss_one (ps_ret (pe_op op_mod (pv 4) (pv 1)))))
        pss_nil)))) pss_nil)
    (pss_one (ps_ret (pe_op op_mod (pe_call Fm (hr.mono (by omega)) (by rfl) hm hkp hbm .nil pass0 (pa_cons (pe_call Fm (hr.mono (by omega)) (by rfl) hm hkp hbm .nil pass0 (pa_cons (pe_op op_add (pe_ix ix_list (pe_dget (hu_of hr) (pv 0) pe_str (fun _ _ => rfl)) (pe_op op_mod (pv 2) pe_int) (fun _ _ => rfl)) (pe_op op_mul pe_int (pe_op op_fdiv (pv 2) pe_int))) (pa_cons (pv 2) pa_nil))) (pa_cons (pe_op op_add (pv 2) pe_int) pa_nil))) (pv 1)))))), ?_⟩
  have mL : ∀ {n : Nat} {x : V} {σ : L2.St}, True := fun {n x σ} => trivial
  refine ⟨_, rfl, a, .int j, rfl, dget_at ea get_spot, ?_⟩
  let H1 := upd H a (.dK [(.inr "cells", .ref b), (.inr "left", .ref c), (.inr "spot", .int ((j : Int) + 1))])
  have e1a : H1 a = some (.dK [(.inr "cells", .ref b), (.inr "left", .ref c), (.inr "spot", .int ((j : Int) + 1))]) := upd_same
  have e1b : H1 b = some (.lst (cells.map V.int)) := by show upd H a _ b = _; rw [upd_ne (fun z => nab z.symm)]; exact eb
  have e1c : H1 c = some (.lst (left.map V.int)) := by show upd H a _ c = _; rw [upd_ne (fun z => nac z.symm)]; exact ec
  refine ⟨_, rfl, _, _, rfl, rfl, _, rfl, a, H1, rfl, ?_, ?_⟩
  · have q : DPut H a (kV (.inr "spot")) (.int ((j : Int) + 1)) (upd H a (.dK (putK [((.inr "cells" : Key), V.ref b), (.inr "left", .ref c), (.inr "spot", .int (j : Int))] (.inr "spot") (.int ((j : Int) + 1))))) := DPut.k ea (show (3 : Nat) < sizeLine by decide)
    rw [put_spot] at q
    exact q
  refine ⟨_, rfl, a, .ref c, rfl, dget_at e1a get_left, by decide, fun p np => ?_⟩
  let H2 := upd H1 p (.lst [])
  have n2 : ∀ x u, H1 x = some u → H2 x = some u := fun x u e => by show upd H1 p _ x = _; rw [upd_ne (ne_of_none e np)]; exact e
  have e2a := n2 _ _ e1a
  have e2b := n2 _ _ e1b
  have e2c := n2 _ _ e1c
  have dvc : Dv K (fun _ => False) H2 (.lst (left.map Dat.int)) (.ref c) := ⟨c, _, rfl, id, e2c, ints_dv left⟩
  have dvp : Dv K (fun _ => False) H2 (.lst []) (.ref p) := ⟨p, [], rfl, id, upd_same, rfl⟩
  refine ⟨_, _, dp_of _ _ dvc (SeqAt.canLay_of_shaped (ints_shaped left)), dp_of _ _ dvp rfl, ints_shaped left, rfl, ?_⟩
  refine ⟨_, rfl, ?_⟩
  rw [ints_ne left]
  -- the end by the digits of a cell, and the end by mixing
  have fin : ∀ (cells' left' : List Int) (H' : Hp), (∀ x u, x ≠ a → x ≠ b → x ≠ c → H x = some u → H' x = some u) → cells'.length = 64 → (∀ x ∈ cells', 0 ≤ x ∧ x < 2147483648) → left'.length = L → H' a = some (.dK [(.inr "cells", .ref b), (.inr "left", .ref c), (.inr "spot", .int ((j : Int) + 1))]) → H' b = some (.lst (cells'.map V.int)) → H' c = some (.lst (left'.map V.int)) → ∀ y : Int, 0 ≤ y → y < top → Q (.int y) H' := fun cells' left' H' hk h64 hc hl ha hb' hc' y y0 y1 =>
    hq y y0 y1 (.int y) H' (fun x u nx e => hk x u (fun z => nx (.inl z)) (fun z => nx (.inr (.inl z))) (fun z => nx (.inr (.inr z))) e) ⟨j + 1, cells', left', by omega, h64, hc, hl, ha, hb', hc'⟩ rfl
  have k2 : ∀ x u, x ≠ a → x ≠ b → x ≠ c → H x = some u → H2 x = some u := fun x u xa _ _ e => n2 x u (by show upd H a _ x = _; rw [upd_ne xa]; exact e)
  cases left with
  | nil =>
    refine iteF ?_
    refine ⟨_, rfl, a, .ref b, rfl, dget_at e2a get_cells, ?_⟩
    obtain ⟨x, hx, hat, hix⟩ := atI_int (ns := cells) (i := (j : Int) % 64) (Int.emod_nonneg _ (by decide)) (by rw [hc64]; exact Int.emod_lt_of_pos _ (by decide))
    obtain ⟨x0, x1⟩ := draw_cells hcells hx
    have hm31 : 31 * ((j : Int) / 64) < 2000000000000000 ∧ 0 ≤ 31 * ((j : Int) / 64) := by
      unfold manyDraws at hn
      omega
    have hjb : (j : Int) < 1000000000000000 := by
      unfold manyDraws at hn
      omega
    refine ⟨_, rfl, _, _, rfl, rfl, (show (0 : Int) < 64 by decide), b, _, _, .int x, rfl, rfl, .inl (.inl e2b), hat, ?_⟩
    refine ⟨_, rfl, _, _, rfl, rfl, ⟨(show (0 : Int) < 64 by decide), (show (64 : Int) < 1073741824 by decide)⟩, ?_⟩
    refine ⟨_, _, rfl, rfl, .inl (by decide), _, _, rfl, rfl, _, rfl, ?_⟩
    refine ⟨fun _ => False, [.int _, .int _], fun _ z => z.elim, ⟨_, _, rfl, rfl, _, _, rfl, rfl, rfl⟩, _, _, rfl, by omega, by omega, by omega, by omega, fun y y0 y1 v H3 ex3 hd3 => ?_⟩
    cases (hd3 : v = .int y)
    refine ⟨_, rfl, _, _, rfl, rfl, ?_⟩
    refine ⟨fun _ => False, [.int _, .int _], fun _ z => z.elim, ⟨_, _, rfl, rfl, _, _, rfl, rfl, rfl⟩, _, _, rfl, by omega, by omega, by omega, by omega, fun z z0 z1 v H4 ex4 hd4 => ?_⟩
    cases (hd4 : v = .int z)
    refine ⟨_, rfl, _, _, rfl, rfl, ht0, ?_⟩
    exact fin cells _ H4 (fun u o xa xb xc e => ex4 u o (ex3 u o (k2 u o xa xb xc e))) hc64 hcells hL (ex4 _ _ (ex3 _ _ e2a)) (ex4 _ _ (ex3 _ _ e2b)) (ex4 _ _ (ex3 _ _ e2c)) _ (Int.emod_nonneg _ (by omega)) (Int.emod_lt_of_pos _ ht0)
  | cons l0 lr =>
    refine iteT ?_
    refine ⟨_, rfl, _, rfl, a, .ref c, rfl, dget_at e2a get_left, ?_⟩
    refine ⟨_, _, rfl, .inl ⟨_, .inl (.inl e2c), rfl⟩, _, _, rfl, rfl, (by rw [List.length_map, List.length_cons]; omega), ?_⟩
    refine ⟨_, rfl, a, .ref c, rfl, dget_at e2a get_left, _, rfl, ?_⟩
    obtain ⟨x, hx, hat, hix⟩ := atI_int (ns := l0 :: lr) (i := (j : Int) % ((((l0 :: lr).map V.int).length : Nat) : Int)) (Int.emod_nonneg _ (by rw [List.length_map, List.length_cons]; omega)) (by rw [List.length_map]; exact Int.emod_lt_of_pos _ (by rw [List.length_cons]; omega))
    refine ⟨c, _, _, .int x, rfl, rfl, .inl (.inl e2c), hat, ?_⟩
    refine ⟨_, rfl, _, _, rfl, rfl, _, rfl, ?_⟩
    show if decide (0 < x) = true then _ else _
    by_cases hx0 : 0 < x
    · rw [if_pos (decide_eq_true hx0)]
      refine ⟨_, rfl, _, rfl, _, _, rfl, rfl, ⟨ht0, by omega⟩, ?_⟩
      refine ⟨_, rfl, a, .ref c, rfl, dget_at e2a get_left, _, rfl, ?_⟩
      refine ⟨c, _, _, _, rfl, rfl, e2c, hix, ?_⟩
      refine ⟨_, rfl, _, rfl, _, _, rfl, rfl, ht0, ?_⟩
      have ca : a ≠ c := nac
      refine fin cells ((l0 :: lr).set ((j : Int) % ((((l0 :: lr).map V.int).length : Nat) : Int)).toNat (x / top)) _ (fun u o xa xb xc e => by rw [upd_ne xc]; exact k2 u o xa xb xc e) hc64 hcells (by rw [List.length_set]; exact hL) (by rw [upd_ne nac]; exact e2a) (by rw [upd_ne nbc]; exact e2b) (by rw [upd_same, List.map_set]) _ (Int.emod_nonneg _ (by omega)) (Int.emod_lt_of_pos _ ht0)
    · rw [if_neg (by rw [decide_eq_true_eq]; exact hx0)]
      refine ⟨_, rfl, a, .ref b, rfl, dget_at e2a get_cells, ?_⟩
      obtain ⟨x, hx, hat, hix⟩ := atI_int (ns := cells) (i := (j : Int) % 64) (Int.emod_nonneg _ (by decide)) (by rw [hc64]; exact Int.emod_lt_of_pos _ (by decide))
      obtain ⟨x0, x1⟩ := draw_cells hcells hx
      have hm31 : 31 * ((j : Int) / 64) < 2000000000000000 ∧ 0 ≤ 31 * ((j : Int) / 64) := by
        unfold manyDraws at hn
        omega
      have hjb : (j : Int) < 1000000000000000 := by
        unfold manyDraws at hn
        omega
      refine ⟨_, rfl, _, _, rfl, rfl, (show (0 : Int) < 64 by decide), b, _, _, .int x, rfl, rfl, .inl (.inl e2b), hat, ?_⟩
      refine ⟨_, rfl, _, _, rfl, rfl, ⟨(show (0 : Int) < 64 by decide), (show (64 : Int) < 1073741824 by decide)⟩, ?_⟩
      refine ⟨_, _, rfl, rfl, .inl (by decide), _, _, rfl, rfl, _, rfl, ?_⟩
      refine ⟨fun _ => False, [.int _, .int _], fun _ z => z.elim, ⟨_, _, rfl, rfl, _, _, rfl, rfl, rfl⟩, _, _, rfl, by omega, by omega, by omega, by omega, fun y y0 y1 v H3 ex3 hd3 => ?_⟩
      cases (hd3 : v = .int y)
      refine ⟨_, rfl, _, _, rfl, rfl, ?_⟩
      refine ⟨fun _ => False, [.int _, .int _], fun _ z => z.elim, ⟨_, _, rfl, rfl, _, _, rfl, rfl, rfl⟩, _, _, rfl, by omega, by omega, by omega, by omega, fun z z0 z1 v H4 ex4 hd4 => ?_⟩
      cases (hd4 : v = .int z)
      refine ⟨_, rfl, _, _, rfl, rfl, ht0, ?_⟩
      exact fin cells _ H4 (fun u o xa xb xc e => ex4 u o (ex3 u o (k2 u o xa xb xc e))) hc64 hcells hL (ex4 _ _ (ex3 _ _ e2a)) (ex4 _ _ (ex3 _ _ e2b)) (ex4 _ _ (ex3 _ _ e2c)) _ (Int.emod_nonneg _ (by omega)) (Int.emod_lt_of_pos _ ht0)
end
end K01
namespace K01
open PySem PySem.Spec PyProof.Rows L2 DL
def cellOk (x : Int) : Prop := 0 ≤ x ∧ x < 2147483648
def conFold : ConL := ⟨fun sl P => ∃ ns : List Int, sl = [.scr ns] ∧ ns.length ≤ 63 ∧ ∀ cells : List Int, cells.length = 64 → (∀ x ∈ cells, cellOk x) → P (.lst (cells.map Dat.int)),
  fun _ _ _ ⟨ns, e, hl, h⟩ m => ⟨ns, e, hl, fun c h1 h2 => m _ (h c h1 h2)⟩⟩
def conBegun : ConL := ⟨fun sl P => ∃ ns : List Int, sl = [.scr ns] ∧ ns.length ≤ 63 ∧ ∀ cells left : List Int, cells.length = 64 → (∀ x ∈ cells, cellOk x) → left.length = ns.length → P (.dic [.inr "cells", .inr "left", .inr "spot"] [.lst (cells.map Dat.int), .lst (left.map Dat.int), .int 0]),
  fun _ _ _ ⟨ns, e, hl, h⟩ m => ⟨ns, e, hl, fun c l h1 h2 h3 => m _ (h c l h1 h2 h3)⟩⟩
theorem atI_map {cells : List Int} {i : Int} (h0 : 0 ≤ i) (h1 : i < cells.length) : ∃ x, cells[i.toNat]? = some x ∧ atI (cells.map Dat.int) i = some (.int x) ∧ ixN (cells.map Dat.int).length i = some i.toNat := by
  have hl : i.toNat < cells.length := by omega
  refine ⟨cells[i.toNat], List.getElem?_eq_getElem hl, ?_, by unfold ixN; rw [if_pos h0, if_pos (by rw [List.length_map]; exact h1)]⟩
  have e : atI (cells.map Dat.int) ((i.toNat : Nat) : Int) = some (.int cells[i.toNat]) := atI_nat (by simp [List.getElem?_map, List.getElem?_eq_getElem hl])
  rw [Int.toNat_of_nonneg h0] at e
  exact e
theorem cells_set {cells : List Int} {n : Nat} {x : Int} (h : ∀ y ∈ cells, cellOk y) (hx : cellOk x) : ∀ y ∈ cells.set n x, cellOk y := fun y hy => by
  rcases List.mem_or_eq_of_mem_set hy with hy | rfl
  · exact h y hy
  · exact hx
theorem mod_cell (z : Int) : cellOk (z % 2147483647) := ⟨Int.emod_nonneg _ (by decide), Int.lt_trans (Int.emod_lt_of_pos _ (by decide)) (by decide)⟩
section
variable {P : Program} {w : World} {K : PySem.W.Frag} {mg : Str → Option Value} {base : Heap} {f f2 : Addr} {fd fd2 : FuncData} {k : Nat}
abbrev s__law_folded : Stmt := topS 32
theorem sc__law_folded : FnScope ["script", "found", "k", "cell"] ["script"] (defScope s__law_folded) := ⟨rfl, rfl, rfl, by decide +kernel, rfl, by decide +kernel, by decide +kernel⟩
-- calls [] consts []
theorem ok_law_folded (B : Bt mg) (F : Fun K "_law_folded" "_law_folded" s__law_folded f fd) : FnOk P w K mg base CX0 (k + 1) f fd ["script"] (spL K conFold) := by
  refine fn_pureL F sc__law_folded (fun sl P ⟨ns, e, _⟩ => by rw [e]; rfl) fun cdv A outer s H S hS hr => ?_
  have nd := sc__law_folded.nd
  refine ⟨_, (db_cons (ds_setLcOwn 1 2 (x := "k") rfl nd (sw_true rfl rfl rfl (by decide +kernel)) (di_range1 B.range (da_cons de_int da_nil)) (blkOk_by (own := [("k", 2)]) (N := ["script", "found", "k", "cell"]) (sc := defScope s__law_folded) (by decide +kernel)) (fun _ _ _ _ _ => pg_name (i := 2) nd rfl (Or.inl rfl)) (fun _ _ _ _ _ => dts_nil) (fun _ _ _ _ _ => (de_add de_int (de_var 2)))) (db_cons (ds_forI PassesOwn.never rfl (di_enumScr 0 B.enumerate) (dg_tup 2 rfl (dgs_cons (dg_name 2 nd) (dgs_cons (dg_name 3 nd) dgs_nil))) (db_one (ds_putOwn 1 (de_mod (de_add (de_mulI (de_ixOwn 1 (de_mod (de_var 2) de_int)) de_int) (de_var 3)) de_int) (de_mod (de_var 2) de_int)))) (db_cons (ds_forI PassesOwn.never rfl (di_range2 B.range (da_cons de_int (da_cons de_int da_nil))) (dg_name 2 nd) (db_one (ds_putOwn 1 (de_mod (de_add (de_ixOwn 1 (de_var 2)) (de_mulI (de_ixOwn 1 (de_sub (de_var 2) de_int)) de_int)) de_int) (de_var 2)))) (db_one (ds_freeze (ds_ret (de_var 1))))))), ?_⟩
  rintro sl R ⟨ns, rfl, hl, h⟩
  refine ⟨by decide, ?_⟩
  refine compF_map (f := fun d => .int (17 + intOr d)) (fun d hd Q hQ => ?_) (by decide) ?_
  · simp only [rints, List.mem_map] at hd
    obtain ⟨n, _, rfl⟩ := hd
    exact hQ
  refine ⟨fun items ρ => ∃ (cells : List Int) (a b : DL.Slot), ρ = [.scr ns, .own (cells.map Dat.int), a, b] ∧ cells.length = 64 ∧ (∀ x ∈ cells, cellOk x) ∧ ∀ d ∈ items, ∃ (j : Nat) (n : Int), d = .tup [.int (j : Nat), .int n], ?_, ?_, ?_⟩
  · refine ⟨(List.range 64).map fun (i : Nat) => 17 + (i : Int), .un, .un, rfl, by decide +kernel, ?_, fun d hd => ?_⟩
    · intro x hx
      simp only [List.mem_map, List.mem_range] at hx
      obtain ⟨a, ha, rfl⟩ := hx
      constructor <;> omega
    · obtain ⟨i, hi⟩ := List.getElem?_of_mem hd
      obtain ⟨n, _, e⟩ := enumL_get hi
      exact ⟨_, n, e⟩
  · rintro ρ ⟨cells, a, b, rfl, hl64, hok, _⟩
    refine ⟨fun items ρ => ∃ (cells : List Int) (a b : DL.Slot), ρ = [.scr ns, .own (cells.map Dat.int), a, b] ∧ cells.length = 64 ∧ (∀ x ∈ cells, cellOk x) ∧ ∀ d ∈ items, ∃ (j : Nat), d = .int (j : Nat) ∧ 1 ≤ j ∧ j < 64, ?_, ?_, ?_⟩
    · refine ⟨by decide, cells, a, b, rfl, hl64, hok, fun d hd => ?_⟩
      simp only [rints, List.mem_map, List.mem_range] at hd
      obtain ⟨n, hn, rfl⟩ := hd
      have hn' : n < 63 := hn
      exact ⟨n + 1, by congr 1; omega, by omega, by omega⟩
    · rintro ρ ⟨cells, a, b, rfl, hl64, hok, _⟩
      exact h cells hl64 hok
    · rintro d ds ρ ⟨cells, a, b, rfl, hl64, hok, hall⟩
      obtain ⟨j, rfl, h1, h2⟩ := hall d List.mem_cons_self
      refine ownL_here rfl ?_
      ((try dsimp only); refine rd_here rfl ?_; (try dsimp only))
      obtain ⟨x, ex, eat, eix⟩ := atI_map (cells := cells) (i := (j : Int)) (by omega) (by rw [hl64]; omega)
      rw [isI_int, eat, someD_some]
      refine ownL_here rfl ?_
      ((try dsimp only); refine rd_here rfl ?_; (try dsimp only))
      obtain ⟨y, ey, eaty, _⟩ := atI_map (cells := cells) (i := (j : Int) - 1) (by omega) (by rw [hl64]; omega)
      rw [int0_int, isI_int, eaty, someD_some]
      refine ⟨.inr (by decide), ?_⟩
      refine ⟨(show (0 : Int) < 2147483647 by decide), ?_⟩
      refine ownL_here rfl ?_
      ((try dsimp only); refine rd_here rfl ?_; (try dsimp only))
      rw [isI_int, eix, someD_some]
      refine ⟨cells.set j _, .d (.int j), b, by rw [List.map_set]; rfl, by rw [List.length_set]; exact hl64, cells_set hok (mod_cell _), fun d hd => hall d (List.mem_cons_of_mem _ hd)⟩
  · rintro d ds ρ ⟨cells, a, b, rfl, hl64, hok, hall⟩
    obtain ⟨j, n, rfl⟩ := hall d List.mem_cons_self
    refine ⟨rfl, rfl, ?_⟩
    have m0 : 0 ≤ (j : Int) % 64 := Int.emod_nonneg _ (by decide)
    have m1 : (j : Int) % 64 < 64 := Int.emod_lt_of_pos _ (by decide)
    obtain ⟨x, ex, eat, eix⟩ := atI_map (cells := cells) (i := (j : Int) % 64) m0 (by rw [hl64]; exact m1)
    refine ownL_here rfl ?_
    ((try dsimp only); refine rd_here rfl ?_; (try dsimp only))
    refine ⟨(show (0 : Int) < 64 by decide), ?_⟩
    dsimp only
    rw [isI_int, eat, someD_some]
    refine ⟨.inr (by decide), ?_⟩
    repeat (first | refine rd_here rfl ?_ | refine ownL_here rfl ?_ | rw [isI_int] | rw [addD_int] | rw [int0_int] | rw [someD_some] | dsimp only)
    refine ⟨(show (0 : Int) < 2147483647 by decide), ?_⟩
    repeat (first | refine rd_here rfl ?_ | refine ownL_here rfl ?_ | rw [isI_int] | rw [addD_int] | rw [int0_int] | rw [someD_some] | dsimp only)
    refine ⟨(show (0 : Int) < 64 by decide), ?_⟩
    dsimp only
    rw [isI_int, eix, someD_some]
    exact ⟨cells.set ((j : Int) % 64).toNat _, .d (.int j), .d (.int n), by rw [List.map_set]; rfl, by rw [List.length_set]; exact hl64, cells_set hok (mod_cell _), fun d hd => hall d (List.mem_cons_of_mem _ hd)⟩
abbrev s__law_begun : Stmt := topS 34
theorem sc__law_begun : FnScope ["script", "m", "cell"] ["script"] (defScope s__law_begun) := ⟨rfl, rfl, rfl, by decide +kernel, rfl, by decide +kernel, by decide +kernel⟩
-- calls ['_law_folded'] consts []
theorem ok_law_begun (F__law_folded : CalleeL P w K mg base "_law_folded" k ["script"] conFold) (F : Fun K "_law_begun" "_law_begun" s__law_begun f fd) : FnOk P w K mg base CX0 (k + 1) f fd ["script"] (spL K conBegun) := by
  refine fn_pureL F sc__law_begun (fun sl P ⟨ns, e, _⟩ => by rw [e]; rfl) fun cdv A outer s H S hS hr => ?_
  have nd := sc__law_begun.nd
  refine ⟨_, (db_cons (ds_setDisp 1 (dps_cons de_str (de_fnL F__law_folded hr (dl_scr 0 dl_nil) (by omega)) (dps_cons de_str (de_lst da_nil) (dps_cons de_str de_int dps_nil))) nd) (db_cons (ds_dput 1 (hu_of hr) de_str (de_lc 2 (x := "cell") rfl nd (di_scr 0) (blkOk_by (own := [("cell", 2)]) (N := ["script", "m", "cell"]) (sc := defScope s__law_begun) (by decide +kernel)) (fun _ _ _ _ _ => pg_name (i := 2) nd rfl (Or.inl rfl)) (fun _ _ _ _ _ => dts_nil) (fun _ _ _ _ _ => (de_if (dt_ge (de_var 2) (de_pow de_int de_int)) (de_var 2) de_int)))) (db_one (ds_freeze (ds_ret (de_var 1)))))), ?_⟩
  rintro sl R ⟨ns, rfl, hl, h⟩
  repeat (first | refine rd_here rfl ?_ | refine ownL_here rfl ?_ | rw [isI_int] | rw [addD_int] | rw [int0_int] | rw [someD_some] | dsimp only)
  refine ⟨ns, rfl, hl, fun cells h64 hc => ?_⟩
  refine ⟨Nat.zero_le _, (show 3 ≤ 15 by decide), ?_⟩
  refine rdScr_here rfl ?_
  refine compF_map (f := fun d => if (10 : Int) ^ 18 ≤ intOr d then d else .int 0) (fun d hd Q hQ => ?_) ?_ ?_
  · simp only [List.mem_map] at hd
    obtain ⟨n, _, rfl⟩ := hd
    repeat (first | refine rd_here rfl ?_ | refine ownL_here rfl ?_ | rw [isI_int] | rw [addD_int] | rw [int0_int] | rw [someD_some] | dsimp only)
    refine ⟨⟨by decide, by decide⟩, ?_⟩
    repeat (first | refine rd_here rfl ?_ | refine ownL_here rfl ?_ | rw [isI_int] | rw [addD_int] | rw [int0_int] | rw [someD_some] | dsimp only)
    show if decide ((10 : Int) ^ 18 ≤ n) = true then _ else _
    have hQ' : Q (if (10 : Int) ^ 18 ≤ n then Dat.int n else .int 0) := hQ
    by_cases hn : (10 : Int) ^ 18 ≤ n
    · rw [if_pos hn] at hQ'
      rw [if_pos (decide_eq_true hn)]
      exact rd_here rfl hQ'
    · rw [if_neg hn] at hQ'
      rw [if_neg (fun z => hn (of_decide_eq_true z))]
      exact hQ'
  · rw [List.length_map]
    exact Nat.le_trans (by simp; omega) (show 63 ≤ sizeLine by decide)
  have el : (ns.map Dat.int).map (fun d => if (10 : Int) ^ 18 ≤ intOr d then d else .int 0) = (ns.map fun n => if (10 : Int) ^ 18 ≤ n then n else 0).map Dat.int := by
    rw [List.map_map, List.map_map]
    refine List.map_congr_left fun n _ => ?_
    show (if (10 : Int) ^ 18 ≤ n then Dat.int n else .int 0) = Dat.int (if (10 : Int) ^ 18 ≤ n then n else 0)
    split <;> rfl
  rw [List.nil_append, el]
  have em : ∀ x y z : Dat, mergeP [] [((.inr "cells" : Key), x), (.inr "left", y), (.inr "spot", z)] = [(.inr "cells", x), (.inr "left", y), (.inr "spot", z)] := fun x y z => rfl
  have ep : ∀ x y z u : Dat, putP [((.inr "cells" : Key), x), (.inr "left", y), (.inr "spot", z)] (.inr "left") u = [(.inr "cells", x), (.inr "left", u), (.inr "spot", z)] := fun x y z u => rfl
  refine owndL_here rfl ?_
  rw [em]
  refine ⟨(show 3 < sizeLine by decide), ?_⟩
  rw [ep]
  refine rd_here rfl ?_
  exact h cells _ h64 hc (List.length_map _)
end
end K01
namespace K01
open PySem PySem.Spec PyProof.Rows L2 DL
/-! ### terms that are made -/
end K01
namespace K01
open PySem PySem.Spec PyProof.Rows L2 DL
theorem rdRaw_here {ρ : List DL.Slot} {n : Nat} {v : V} {P : V → Prop} (e : ρ[n]? = some (.raw v)) (h : P v) : rdRaw ρ n P := by unfold rdRaw; rw [e]; exact h
/-- a draw, asked where one stands -/
theorem draw_use {st : Sta Nat} {n : Nat} {v : V} {top : Int} {P : Dat → Nat → Prop} (hd : IsDraw st v) (h0 : 0 < top) (h1 : top < 1000000000) (hn : n < manyDraws) (h : ∀ x : Int, 0 ≤ x → x < top → P (.int x) (n + 1)) : conDraw.C st n [.raw v, .d (.int top)] P := ⟨v, top, hd, rfl, h0, h1, hn, h⟩
section
variable {P : Program} {w : World} {K : PySem.W.Frag} {mg : Str → Option Value} {base : Heap} {f f2 : Addr} {fd fd2 : FuncData} {k : Nat}
-- calls ['_law_draw'] consts []
-- calls ['_law_draw', '_law_whole'] consts []
end
end K01
namespace K01
open PySem PySem.Spec PyProof.Rows L2 DL
/-! ### how many parts may come -/
section
variable {P : Program} {w : World} {K : PySem.W.Frag} {mg : Str → Option Value} {base : Heap} {f f2 : Addr} {fd fd2 : FuncData} {k : Nat}
-- calls ['_law_draw', '_law_term', '_law_kind'] consts []
end
end K01
namespace K01
open PySem PySem.Spec PyProof.Rows L2 DL
section
variable {P : Program} {w : World} {K : PySem.W.Frag} {mg : Str → Option Value} {base : Heap} {f f2 : Addr} {fd fd2 : FuncData} {k : Nat}
-- calls ['_law_draw', '_law_leaf', '_law_call', '_law_term', '_law_whole'] consts []
end
end K01
namespace K01
open PySem PySem.Spec PyProof.Rows L2 DL
section
variable {P : Program} {w : World} {K : PySem.W.Frag} {mg : Str → Option Value} {base : Heap} {f f2 : Addr} {fd fd2 : FuncData} {k : Nat}
-- calls ['_law_term', '_law_draw'] consts []
end
end K01
namespace K01
open PySem PySem.Spec PyProof.Rows L2 DL
/-- a text of small letters -/
def Small (z : Str) : Prop := ∀ c ∈ z.cps.toList, small c = true
def conCalled : ConS Nat := ⟨fun st n sl P => ∃ (v : V) (top : Nat), IsDraw st v ∧ sl = [.raw v, .d (.int (top : Nat))] ∧ top ≤ 100 ∧ n + 100000 < manyDraws ∧ ∀ (ws : List Str) (j : Nat), ws.length = top → (∀ z ∈ ws, isName (.str z) = true) → (top ≤ 26 → ws.Nodup) → j ≤ n + 100000 → P (.lst (ws.map Dat.str)) j,
  fun _ _ _ _ _ ⟨v, t, h0, e, h1, h2, h⟩ q => ⟨v, t, h0, e, h1, h2, fun x j a b c d => q _ _ (h x j a b c d)⟩⟩
theorem small_app {x y : Str} (hx : Small x) (hy : Small y) : Small (x ++ y) := fun c hc => by
  rw [Str.cps_append, Array.toList_append, List.mem_append] at hc
  exact hc.elim (hx c) (hy c)
theorem small_one {c : Nat} (h : small c = true) : Small ⟨#[c]⟩ := fun d hd => by
  have e : d = c := by simpa using hd
  rw [e]; exact h
theorem len_one (c : Nat) : (⟨#[c]⟩ : Str).length = 1 := rfl
theorem small_nil : Small "" := fun c hc => by
  have e : ("" : Str).cps.toList = [] := by decide +kernel
  rw [e] at hc; cases hc
theorem letter_at {i : Int} (h0 : 0 ≤ i) (h1 : i < 26) : ∃ c, small c = true ∧ atI (Str.ofString "abcdefghijklmnopqrstuvwxyz").cps.toList i = some c := by
  have hl : (Str.ofString "abcdefghijklmnopqrstuvwxyz").cps.toList.length = 26 := by decide +kernel
  have hi : i.toNat < (Str.ofString "abcdefghijklmnopqrstuvwxyz").cps.toList.length := by rw [hl]; omega
  refine ⟨(Str.ofString "abcdefghijklmnopqrstuvwxyz").cps.toList[i.toNat], ?_, ?_⟩
  · rw [← alpha_small]
    exact decide_eq_true (List.getElem_mem hi)
  · have e : atI (Str.ofString "abcdefghijklmnopqrstuvwxyz").cps.toList ((i.toNat : Nat) : Int) = some ((Str.ofString "abcdefghijklmnopqrstuvwxyz").cps.toList[i.toNat]) := atI_nat (List.getElem?_eq_getElem hi)
    rw [Int.toNat_of_nonneg h0] at e
    exact e
theorem letter_at2 {i : Int} (h0 : 0 ≤ i) (h1 : i < 26) : small (97 + i.toNat) = true ∧ atI (Str.ofString "abcdefghijklmnopqrstuvwxyz").cps.toList i = some (97 + i.toNat) := by
  have hl : (Str.ofString "abcdefghijklmnopqrstuvwxyz").cps.toList = (List.range 26).map (· + 97) := by decide +kernel
  have hi : i.toNat < 26 := by omega
  have e : atI (Str.ofString "abcdefghijklmnopqrstuvwxyz").cps.toList ((i.toNat : Nat) : Int) = some (97 + i.toNat) := atI_nat (by rw [hl, List.getElem?_map, List.getElem?_range hi]; simp [Nat.add_comm])
  rw [Int.toNat_of_nonneg h0] at e
  refine ⟨?_, e⟩
  unfold small
  rw [Bool.and_eq_true]
  exact ⟨decide_eq_true (by omega), decide_eq_true (by omega)⟩
/-! ### words drawn together are unlike -/
def strides : List Int := [1, 3, 5, 7, 9, 11, 15, 17, 19, 21, 23, 25]
def lett (shift stride : Int) (k : Nat) : Nat := 97 + ((shift + stride * ((k : Nat) : Int)) % 26).toNat
theorem lett_inj {shift stride : Int} {a b : Nat} (hs : stride ∈ strides) (ha : a < 26) (hb : b < 26) (h : lett shift stride a = lett shift stride b) : a = b := by
  unfold lett at h
  have e : (shift + stride * ((a : Nat) : Int)) % 26 = (shift + stride * ((b : Nat) : Int)) % 26 := by
    have h1 := Int.emod_nonneg (shift + stride * ((a : Nat) : Int)) (show (26 : Int) ≠ 0 by decide)
    have h2 := Int.emod_nonneg (shift + stride * ((b : Nat) : Int)) (show (26 : Int) ≠ 0 by decide)
    omega
  simp only [strides, List.mem_cons, List.not_mem_nil, or_false] at hs
  rcases hs with rfl | rfl | rfl | rfl | rfl | rfl | rfl | rfl | rfl | rfl | rfl | rfl <;> omega
/-- each word by its letter, or the one ahead and a letter more -/
def Marked (p : Nat) (shift stride : Int) (ws : List Str) : Prop := ∀ (k : Nat) (z : Str), ws[k]? = some z → z.cps.toList[p]? = some (lett shift stride k) ∨ (k % 2 = 1 ∧ ∃ y : Str, ws[k - 1]? = some y ∧ y.cps.toList[p]? = some (lett shift stride (k - 1)) ∧ ∃ c, z.cps.toList = y.cps.toList ++ [c])
theorem marked_nil {p : Nat} {shift stride : Int} : Marked p shift stride [] := fun k z h => by simp at h
theorem marked_snoc {p : Nat} {shift stride : Int} {ws : List Str} {z : Str} (h : Marked p shift stride ws) (hz : z.cps.toList[p]? = some (lett shift stride ws.length) ∨ (ws.length % 2 = 1 ∧ ∃ y : Str, ws[ws.length - 1]? = some y ∧ ∃ c, z.cps.toList = y.cps.toList ++ [c])) : Marked p shift stride (ws ++ [z]) := by
  have old : ∀ {k : Nat} {y : Str}, ws[k]? = some y → (ws ++ [z])[k]? = some y := fun {k y} e => by
    have hk : k < ws.length := (List.getElem?_eq_some_iff.mp e).1
    rw [List.getElem?_append_left hk]; exact e
  intro k x hx
  by_cases hk : k < ws.length
  · rw [List.getElem?_append_left hk] at hx
    rcases h k x hx with q | ⟨h1, y, h2, h3, h4⟩
    · exact .inl q
    · exact .inr ⟨h1, y, old h2, h3, h4⟩
  · have hk2 : k = ws.length := by
      have := (List.getElem?_eq_some_iff.mp hx).1
      simp at this
      omega
    subst hk2
    have ex : x = z := by simpa using hx.symm
    subst ex
    rcases hz with q | ⟨h1, y, h2, h4⟩
    · exact .inl q
    · refine .inr ⟨h1, y, old h2, ?_, h4⟩
      rcases h _ y h2 with q | ⟨h5, _⟩
      · exact q
      · omega
theorem marked_nodup {p : Nat} {shift stride : Int} {ws : List Str} (hs : stride ∈ strides) (h : Marked p shift stride ws) (hl : ws.length ≤ 26) : ws.Nodup := by
  rw [List.nodup_iff_pairwise_ne, List.pairwise_iff_getElem]
  intro i j hi hj hij e
  have ei : ws[i]? = some ws[i] := List.getElem?_eq_getElem hi
  have ej : ws[j]? = some ws[j] := List.getElem?_eq_getElem hj
  have inner : ∀ {y z : Str} {c a : Nat}, y.cps.toList[p]? = some a → z.cps.toList = y.cps.toList ++ [c] → z.cps.toList[p]? = some a := fun {y z c a} h1 h2 => by
    have hp := (List.getElem?_eq_some_iff.mp h1).1
    rw [h2, List.getElem?_append_left hp]; exact h1
  rcases h i _ ei with qi | ⟨oi, yi, ei2, ai, ci, hci⟩ <;> rcases h j _ ej with qj | ⟨oj, yj, ej2, aj, cj, hcj⟩
  · rw [e, qj] at qi
    have := lett_inj hs (by omega) (by omega) (Option.some.inj qi)
    omega
  · have q := inner aj hcj
    rw [← e, qi] at q
    have := lett_inj hs (by omega) (by omega) (Option.some.inj q)
    have e3 : yj = ws[i] := by
      rw [show j - 1 = i by omega] at ej2
      exact (Option.some.inj (ei.symm.trans ej2)).symm
    rw [e3, e] at hcj
    have := congrArg List.length hcj
    simp at this
  · have q := inner ai hci
    rw [e, qj] at q
    have := lett_inj hs (by omega) (by omega) (Option.some.inj q)
    omega
  · have q := inner ai hci
    have q2 := inner aj hcj
    rw [e, q2] at q
    have := lett_inj hs (by omega) (by omega) (Option.some.inj q)
    omega
theorem cut6_list (z : Str) : (cutS z none (some 6)).cps.toList = z.cps.toList.take 6 := by
  have e : cutS z none (some 6) = ⟨(z.cps.toList.take 6).toArray⟩ := by
    unfold cutS
    rw [HT.sIx_none, show HT.sIx z.length z.length (some 6) = min 6 z.length from HT.sIx_nat _ _ 6, List.drop_zero, Nat.sub_zero]
    congr 2
    have hz : z.length = z.cps.toList.length := by simp [Str.length]
    rw [hz, ← List.take_take, List.take_length]
  rw [e]
theorem cut6_at {z : Str} {p c : Nat} (hp : p ≤ 4) (h : z.cps.toList[p]? = some c) : (cutS z none (some 6)).cps.toList[p]? = some c := by
  rw [cut6_list, List.getElem?_take, if_pos (by omega)]; exact h
theorem app_at {x y : Str} {p c : Nat} (h : x.cps.toList[p]? = some c) : (x ++ y).cps.toList[p]? = some c := by
  have hp := (List.getElem?_eq_some_iff.mp h).1
  rw [Str.cps_append, Array.toList_append, List.getElem?_append_left hp]; exact h
theorem app_new {x : Str} {c : Nat} : (x ++ (⟨#[c]⟩ : Str)).cps.toList[x.length]? = some c := by
  have e : x.length = x.cps.toList.length := by simp [Str.length]
  rw [Str.cps_append, Array.toList_append, e, List.getElem?_append_right (Nat.le_refl _), Nat.sub_self]; rfl
theorem alpha_line : (Str.ofString "abcdefghijklmnopqrstuvwxyz").length ≤ sizeLine := by
  have hl : (Str.ofString "abcdefghijklmnopqrstuvwxyz").length = 26 := by decide +kernel
  rw [hl]; decide
theorem line_of {n : Nat} (h : n ≤ 100) : n ≤ sizeLine := Nat.le_trans h (by decide)
theorem name_of {z : Str} (h : Small z) (h1 : 1 ≤ z.length) (h6 : z.length ≤ 6) : isName (.str z) = true := by
  unfold isName
  simp only [Bool.and_eq_true, decide_eq_true_eq, List.all_eq_true]
  exact ⟨⟨h1, h6⟩, h⟩
theorem of_name {z : Str} (h : isName (.str z) = true) : Small z ∧ 1 ≤ z.length ∧ z.length ≤ 6 := by
  unfold isName at h
  simp only [Bool.and_eq_true, decide_eq_true_eq, List.all_eq_true] at h
  exact ⟨h.2, h.1.1, h.1.2⟩
theorem cut6 {z : Str} (h : Small z) (h1 : 1 ≤ z.length) : isName (.str (cutS z none (some 6))) = true := by
  have e : cutS z none (some 6) = ⟨(z.cps.toList.take 6).toArray⟩ := by
    unfold cutS
    rw [HT.sIx_none, show HT.sIx z.length z.length (some 6) = min 6 z.length from HT.sIx_nat _ _ 6, List.drop_zero, Nat.sub_zero]
    congr 2
    have hz : z.length = z.cps.toList.length := by simp [Str.length]
    rw [hz, ← List.take_take, List.take_length]
  have hz : z.length = z.cps.toList.length := by simp [Str.length]
  rw [e]
  refine name_of (fun c hc => h c (List.mem_of_mem_take hc)) ?_ ?_
  · show 1 ≤ (z.cps.toList.take 6).toArray.size
    rw [List.size_toArray, List.length_take]; omega
  · show (z.cps.toList.take 6).toArray.size ≤ 6
    rw [List.size_toArray, List.length_take]; omega
theorem negD_int {i : Int} {P : Dat → Prop} : negD (.int i) P = P (.int (-i)) := rfl
theorem stride_at {x : Int} (h0 : 0 ≤ x) (h1 : x < 12) : ∃ y : Int, ((0 ≤ y ∧ y ≤ 25) ∧ y ∈ strides) ∧ atI [Dat.int 1, Dat.int 3, Dat.int 5, Dat.int 7, Dat.int 9, Dat.int 11, Dat.int 15, Dat.int 17, Dat.int 19, Dat.int 21, Dat.int 23, Dat.int 25] x = some (.int y) := by
  obtain ⟨y, ey, hat, _⟩ := atI_map (cells := [1, 3, 5, 7, 9, 11, 15, 17, 19, 21, 23, 25]) h0 h1
  have q : ∀ z ∈ ([1, 3, 5, 7, 9, 11, 15, 17, 19, 21, 23, 25] : List Int), 0 ≤ z ∧ z ≤ 25 := by decide
  exact ⟨y, ⟨q y (List.mem_of_getElem? ey), List.mem_of_getElem? ey⟩, hat⟩
section
variable {P : Program} {w : World} {K : PySem.W.Frag} {mg : Str → Option Value} {base : Heap} {f f2 : Addr} {fd fd2 : FuncData} {k : Nat}
abbrev s__law_called : Stmt := topS 35
theorem sc__law_called : FnScope ["m", "top", "letters", "found", "shift", "stem", "k", "stride", "bit", "j"] ["m", "top"] (defScope s__law_called) := ⟨rfl, rfl, rfl, by decide +kernel, rfl, by decide +kernel, by decide +kernel⟩
-- calls ['_law_draw'] consts []
theorem ok_law_called (B : Bt mg) (F__law_draw : CalleeS P w K mg base "_law_draw" k ["m", "top"] conDraw) (F : Fun K "_law_called" "_law_called" s__law_called f fd) : FnOk P w K mg base CX0 (k + 1) f fd ["m", "top"] (spS K conCalled) := by
  refine fn_pureS F sc__law_called (fun st i sl P ⟨v, _, _, e, _⟩ => by rw [e]; rfl) fun cdv A outer s H S hS st i0 h0 hf hr sl R hc => ?_
  have nd := sc__law_called.nd
  obtain ⟨v, top, hd, rfl, htop, hn, h⟩ := hc
  refine ⟨_, (dbr_cons (dsr_parOwn 2 3 (dr_of fun i => de_str) nd) (dbr_cons (dsr_par 4 5 (dar_cons (dr_fnS (gs_self hf) F__law_draw hr (dsl_raw 0 (dsl_d (dr_of fun i => de_int) dsl_nil)) (by omega)) (dar_cons (dr_of fun i => de_str) dar_nil)) nd) (dbr_cons (dsr_forRange 6 B.range PassesOwn.never rfl (dar_cons (dr_ix (dr_lst (dar_cons (dr_of fun i => de_int) (dar_cons (dr_of fun i => de_int) (dar_cons (dr_of fun i => de_int) (dar_cons (dr_fnS (gs_self hf) F__law_draw hr (dsl_raw 0 (dsl_d (dr_of fun i => de_int) dsl_nil)) (by omega)) dar_nil))))) (dr_fnS (gs_self hf) F__law_draw hr (dsl_raw 0 (dsl_d (dr_of fun i => de_int) dsl_nil)) (by omega))) dar_nil) (dbr_one (dsr_set 5 (dr_add (dr_of fun i => (de_var 5)) (dr_ix (dr_of fun i => (de_var 2)) (dr_fnS (gs_self hf) F__law_draw hr (dsl_raw 0 (dsl_d (dr_of fun i => de_int) dsl_nil)) (by omega)))) nd)) nd) (dbr_cons (dsr_set 7 (dr_ix (dr_of fun i => (de_lst (da_cons de_int (da_cons de_int (da_cons de_int (da_cons de_int (da_cons de_int (da_cons de_int (da_cons de_int (da_cons de_int (da_cons de_int (da_cons de_int (da_cons de_int (da_cons de_int da_nil)))))))))))))) (dr_fnS (gs_self hf) F__law_draw hr (dsl_raw 0 (dsl_d (dr_of fun i => de_int) dsl_nil)) (by omega))) nd) (dbr_cons (dsr_forRange 6 B.range PassesOwn.never rfl (dar_cons (dr_of fun i => (de_var 1)) dar_nil) (dbr_cons (dsr_set 8 (dr_of fun i => (de_add (de_var 5) (de_ix (de_var 2) (de_mod (de_add (de_var 4) (de_mulI (de_var 7) (de_var 6))) de_int)))) nd) (dbr_cons (dsr_forRange 9 B.range PassesOwn.never rfl (dar_cons (dr_ix (dr_lst (dar_cons (dr_of fun i => de_int) (dar_cons (dr_of fun i => de_int) (dar_cons (dr_of fun i => de_int) (dar_cons (dr_fnS (gs_self hf) F__law_draw hr (dsl_raw 0 (dsl_d (dr_of fun i => de_int) dsl_nil)) (by omega)) dar_nil))))) (dr_fnS (gs_self hf) F__law_draw hr (dsl_raw 0 (dsl_d (dr_of fun i => de_int) dsl_nil)) (by omega))) dar_nil) (dbr_one (dsr_set 8 (dr_add (dr_of fun i => (de_var 8)) (dr_ix (dr_of fun i => (de_var 2)) (dr_fnS (gs_self hf) F__law_draw hr (dsl_raw 0 (dsl_d (dr_of fun i => de_int) dsl_nil)) (by omega)))) nd)) nd) (dbr_cons (dsr_if (dtr_w (dwr_and (dtr_of fun i => (dt_eq hr.units (de_mod (de_var 6) de_int) de_int)) (dwr_and (dtr_of fun i => (dt_lt (de_len B.len (da_cons (de_ixOwn 3 (de_neg de_int)) da_nil)) de_int)) (dwr_and1 (dtr_eq hr.units (dr_fnS (gs_self hf) F__law_draw hr (dsl_raw 0 (dsl_d (dr_of fun i => de_int) dsl_nil)) (by omega)) (dr_of fun i => de_int)))))) (dbr_one (dsr_set 8 (dr_add (dr_of fun i => (de_ixOwn 3 (de_neg de_int))) (dr_ix (dr_of fun i => (de_var 2)) (dr_fnS (gs_self hf) F__law_draw hr (dsl_raw 0 (dsl_d (dr_of fun i => de_int) dsl_nil)) (by omega)))) nd)) dbr_nil) (dbr_one (dsr_of fun i => (ds_append 3 (he := (de_sl (de_var 8) do_none (do_some de_int))))))))) nd) (dbr_one (dsr_freeze (dsr_ret (dr_of fun i => (de_var 3)))))))))), ?_⟩
  repeat (first | refine rd_here rfl ?_ | refine ownL_here rfl ?_ | rw [isI_int] | rw [addD_int] | rw [int0_int] | rw [someD_some] | refine rdRaw_here rfl ?_ | rw [isB_bl] | rw [eqD_str] | rw [eqD_int] | refine And.intro (show CPow _ _ from ⟨by decide, by decide, by decide⟩) ?_ | refine And.intro (show 2 ≤ sizeLine by decide) ?_ | refine And.intro (show 1 ≤ sizeLine by decide) ?_ | refine And.intro (show 3 ≤ sizeLine by decide) ?_ | refine And.intro (show 4 ≤ sizeLine by decide) ?_ | refine And.intro (show 5 ≤ sizeLine by decide) ?_ | dsimp only)
  refine draw_use hd (by decide) (by decide) (by omega) fun shift hx0 hx1 => ?_
  refine ⟨fun items ρ j => ∃ (stem : Str) (a : DL.Slot), ρ = [.raw v, .d (.int (top : Nat)), .d (.str (Str.ofString "abcdefghijklmnopqrstuvwxyz")), .own [], .d (.int shift), .d (.str stem), a, .un, .un, .un] ∧ Small stem ∧ stem.length + items.length ≤ 4 ∧ j + items.length ≤ i0 + 7, ?_, ?_, ?_⟩
  · repeat (first | refine rd_here rfl ?_ | refine ownL_here rfl ?_ | rw [isI_int] | rw [addD_int] | rw [int0_int] | rw [someD_some] | refine rdRaw_here rfl ?_ | rw [isB_bl] | rw [eqD_str] | rw [eqD_int] | refine And.intro (show CPow _ _ from ⟨by decide, by decide, by decide⟩) ?_ | refine And.intro (show 2 ≤ sizeLine by decide) ?_ | refine And.intro (show 1 ≤ sizeLine by decide) ?_ | refine And.intro (show 3 ≤ sizeLine by decide) ?_ | refine And.intro (show 4 ≤ sizeLine by decide) ?_ | refine And.intro (show 5 ≤ sizeLine by decide) ?_ | dsimp only)
    refine draw_use hd (by decide) (by decide) (by omega) fun x hy0 hy1 => ?_
    repeat (first | refine rd_here rfl ?_ | refine ownL_here rfl ?_ | rw [isI_int] | rw [addD_int] | rw [int0_int] | rw [someD_some] | refine rdRaw_here rfl ?_ | rw [isB_bl] | rw [eqD_str] | rw [eqD_int] | refine And.intro (show CPow _ _ from ⟨by decide, by decide, by decide⟩) ?_ | refine And.intro (show 2 ≤ sizeLine by decide) ?_ | refine And.intro (show 1 ≤ sizeLine by decide) ?_ | refine And.intro (show 3 ≤ sizeLine by decide) ?_ | refine And.intro (show 4 ≤ sizeLine by decide) ?_ | refine And.intro (show 5 ≤ sizeLine by decide) ?_ | dsimp only)
    refine draw_use hd (by decide) (by decide) (by omega) fun y hz0 hz1 => ?_
    repeat (first | refine rd_here rfl ?_ | refine ownL_here rfl ?_ | rw [isI_int] | rw [addD_int] | rw [int0_int] | rw [someD_some] | refine rdRaw_here rfl ?_ | rw [isB_bl] | rw [eqD_str] | rw [eqD_int] | refine And.intro (show CPow _ _ from ⟨by decide, by decide, by decide⟩) ?_ | refine And.intro (show 2 ≤ sizeLine by decide) ?_ | refine And.intro (show 1 ≤ sizeLine by decide) ?_ | refine And.intro (show 3 ≤ sizeLine by decide) ?_ | refine And.intro (show 4 ≤ sizeLine by decide) ?_ | refine And.intro (show 5 ≤ sizeLine by decide) ?_ | dsimp only)
    have fin : ∀ n : Int, 0 ≤ n → n ≤ 4 → (int1 [.int n] fun n => (-(2 ^ 62) ≤ n ∧ n < 2 ^ 62) ∧ ∃ (stem : Str) (a : DL.Slot), ([.raw v, .d (.int (top : Nat)), .d (.str (Str.ofString "abcdefghijklmnopqrstuvwxyz")), .own [], .d (.int shift), .d (.str ""), .un, .un, .un, .un] : List DL.Slot) = [.raw v, .d (.int (top : Nat)), .d (.str (Str.ofString "abcdefghijklmnopqrstuvwxyz")), .own [], .d (.int shift), .d (.str stem), a, .un, .un, .un] ∧ Small stem ∧ stem.length + (rints 0 n.toNat).length ≤ 4 ∧ i0 + 1 + 1 + 1 + (rints 0 n.toNat).length ≤ i0 + 7) := fun n h0 h4 => by
      refine ⟨⟨by omega, by omega⟩, "", .un, rfl, small_nil, ?_, ?_⟩
      · rw [show ("" : Str).length = 0 by decide +kernel]; simp [rints]; omega
      · simp [rints]; omega
    have h3 : y = 0 ∨ y = 1 ∨ y = 2 ∨ y = 3 := by omega
    rcases h3 with rfl | rfl | rfl | rfl
    · exact fin 0 (by decide) (by decide)
    · exact fin 0 (by decide) (by decide)
    · exact fin 1 (by decide) (by decide)
    · exact fin x hy0 (by omega)
  · rintro ρ j ⟨stem, a, rfl, hst, hsl, hj⟩
    refine ⟨(show 12 ≤ sizeLine by decide), ?_⟩
    repeat (first | refine rd_here rfl ?_ | refine ownL_here rfl ?_ | rw [isI_int] | rw [addD_int] | rw [int0_int] | rw [someD_some] | refine rdRaw_here rfl ?_ | rw [isB_bl] | rw [eqD_str] | rw [eqD_int] | refine And.intro (show CPow _ _ from ⟨by decide, by decide, by decide⟩) ?_ | refine And.intro (show 2 ≤ sizeLine by decide) ?_ | refine And.intro (show 1 ≤ sizeLine by decide) ?_ | refine And.intro (show 3 ≤ sizeLine by decide) ?_ | refine And.intro (show 4 ≤ sizeLine by decide) ?_ | refine And.intro (show 5 ≤ sizeLine by decide) ?_ | dsimp only)
    have hj' : j ≤ i0 + 7 := by simpa using hj
    have hsl' : stem.length ≤ 4 := by simpa using hsl
    refine draw_use hd (by decide) (by decide) (by omega) fun x hy0 hy1 => ?_
    obtain ⟨stride, ⟨hstr, hmem⟩, hat⟩ := stride_at hy0 hy1
    rw [ixD_lst, hat, someD_some]
    refine ⟨fun items ρ j2 => ∃ (ws : List Str) (a8 a9 a6 : DL.Slot), ρ = [.raw v, .d (.int (top : Nat)), .d (.str (Str.ofString "abcdefghijklmnopqrstuvwxyz")), .own (ws.map Dat.str), .d (.int shift), .d (.str stem), a6, .d (.int stride), a8, a9] ∧ (∀ z ∈ ws, isName (.str z) = true) ∧ Marked stem.length shift stride ws ∧ (∀ (q : Nat) (d : Dat), items[q]? = some d → d = .int ((ws.length + q : Nat) : Int)) ∧ ws.length + items.length = top ∧ j2 + 20 * items.length ≤ i0 + 20 + 20 * top, ?_, ?_, ?_⟩
    · repeat (first | refine rd_here rfl ?_ | refine ownL_here rfl ?_ | rw [isI_int] | rw [addD_int] | rw [int0_int] | rw [someD_some] | refine rdRaw_here rfl ?_ | rw [isB_bl] | rw [eqD_str] | rw [eqD_int] | refine And.intro (show CPow _ _ from ⟨by decide, by decide, by decide⟩) ?_ | refine And.intro (show 2 ≤ sizeLine by decide) ?_ | refine And.intro (show 1 ≤ sizeLine by decide) ?_ | refine And.intro (show 3 ≤ sizeLine by decide) ?_ | refine And.intro (show 4 ≤ sizeLine by decide) ?_ | refine And.intro (show 5 ≤ sizeLine by decide) ?_ | dsimp only)
      refine ⟨⟨by omega, by omega⟩, [], .un, .un, a, rfl, (fun z hz => by cases hz), marked_nil, (fun q d hq => ?_), (by simp [rints]), (by simp [rints]; omega)⟩
      have hq' : (rints 0 top)[q]? = some d := by simpa using hq
      rw [rints, List.getElem?_map] at hq'
      cases e : (List.range top)[q]? with
      | none => rw [e] at hq'; cases hq'
      | some y =>
        rw [e] at hq'
        cases hq'
        obtain ⟨h1, h2⟩ := List.getElem?_eq_some_iff.mp e
        rw [List.getElem_range] at h2
        rw [← h2]
        show Dat.int (0 + ((q : Nat) : Int)) = _
        congr 1
    · rintro ρ j2 ⟨ws, a8, a9, a6, rfl, hws, hmk, _, hlen, hj2⟩
      refine rd_here rfl ?_
      exact h ws j2 (by simpa using hlen) hws (fun ht => marked_nodup hmem hmk (by have : ws.length = top := by simpa using hlen
                                                                                   omega)) (by simp at hj2; omega)
    rintro d ds ρ j2 ⟨ws, a8, a9, a6, rfl, hws, hmk, hit, hlen, hj2⟩
    obtain rfl : d = .int ((ws.length : Nat) : Int) := by simpa using hit 0 d rfl
    rw [List.length_cons] at hlen hj2
    repeat (first | refine rd_here rfl ?_ | refine ownL_here rfl ?_ | rw [isI_int] | rw [addD_int] | rw [int0_int] | rw [someD_some] | refine rdRaw_here rfl ?_ | rw [isB_bl] | rw [eqD_str] | rw [eqD_int] | refine And.intro (show CPow _ _ from ⟨by decide, by decide, by decide⟩) ?_ | refine And.intro (show 2 ≤ sizeLine by decide) ?_ | refine And.intro (show 1 ≤ sizeLine by decide) ?_ | refine And.intro (show 3 ≤ sizeLine by decide) ?_ | refine And.intro (show 4 ≤ sizeLine by decide) ?_ | refine And.intro (show 5 ≤ sizeLine by decide) ?_ | dsimp only)
    refine ⟨.inl ⟨by omega, by omega⟩, ?_⟩
    repeat (first | refine rd_here rfl ?_ | refine ownL_here rfl ?_ | rw [isI_int] | rw [addD_int] | rw [int0_int] | rw [someD_some] | refine rdRaw_here rfl ?_ | rw [isB_bl] | rw [eqD_str] | rw [eqD_int] | refine And.intro (show CPow _ _ from ⟨by decide, by decide, by decide⟩) ?_ | refine And.intro (show 2 ≤ sizeLine by decide) ?_ | refine And.intro (show 1 ≤ sizeLine by decide) ?_ | refine And.intro (show 3 ≤ sizeLine by decide) ?_ | refine And.intro (show 4 ≤ sizeLine by decide) ?_ | refine And.intro (show 5 ≤ sizeLine by decide) ?_ | dsimp only)
    refine ⟨(show (0 : Int) < 26 by decide), ?_⟩
    repeat (first | refine rd_here rfl ?_ | refine ownL_here rfl ?_ | rw [isI_int] | rw [addD_int] | rw [int0_int] | rw [someD_some] | refine rdRaw_here rfl ?_ | rw [isB_bl] | rw [eqD_str] | rw [eqD_int] | refine And.intro (show CPow _ _ from ⟨by decide, by decide, by decide⟩) ?_ | refine And.intro (show 2 ≤ sizeLine by decide) ?_ | refine And.intro (show 1 ≤ sizeLine by decide) ?_ | refine And.intro (show 3 ≤ sizeLine by decide) ?_ | refine And.intro (show 4 ≤ sizeLine by decide) ?_ | refine And.intro (show 5 ≤ sizeLine by decide) ?_ | dsimp only)
    obtain ⟨hc, hat2⟩ := letter_at2 (i := (shift + stride * ((ws.length : Nat) : Int)) % 26) (Int.emod_nonneg _ (by decide)) (Int.emod_lt_of_pos _ (by decide))
    obtain ⟨c, hce⟩ : ∃ c, c = lett shift stride ws.length := ⟨_, rfl⟩
    rw [show 97 + ((shift + stride * ((ws.length : Nat) : Int)) % 26).toNat = c from hce.symm] at hc hat2
    refine ⟨alpha_line, ?_⟩
    rw [hat2, someD_some]
    repeat (first | refine rd_here rfl ?_ | refine ownL_here rfl ?_ | rw [isI_int] | rw [addD_int] | rw [int0_int] | rw [someD_some] | refine rdRaw_here rfl ?_ | rw [isB_bl] | rw [eqD_str] | rw [eqD_int] | refine And.intro (show CPow _ _ from ⟨by decide, by decide, by decide⟩) ?_ | refine And.intro (show 2 ≤ sizeLine by decide) ?_ | refine And.intro (show 1 ≤ sizeLine by decide) ?_ | refine And.intro (show 3 ≤ sizeLine by decide) ?_ | refine And.intro (show 4 ≤ sizeLine by decide) ?_ | refine And.intro (show 5 ≤ sizeLine by decide) ?_ | dsimp only)
    refine ⟨by rw [len_one]; exact line_of (by omega), ?_⟩
    have hb1 : Small (stem ++ ⟨#[c]⟩) := small_app hst (small_one hc)
    have hb2 : (stem ++ ⟨#[c]⟩ : Str).length = stem.length + 1 := by rw [Str.length_append, len_one]
    refine ⟨fun items ρ j3 => ∃ (bit : Str) (a9 : DL.Slot), ρ = [.raw v, .d (.int (top : Nat)), .d (.str (Str.ofString "abcdefghijklmnopqrstuvwxyz")), .own (ws.map Dat.str), .d (.int shift), .d (.str stem), .d (.int ((ws.length : Nat) : Int)), .d (.int stride), .d (.str bit), a9] ∧ Small bit ∧ bit.cps.toList[stem.length]? = some c ∧ 1 ≤ bit.length ∧ bit.length + items.length ≤ 10 ∧ j3 + items.length ≤ j2 + 7, ?_, ?_, ?_⟩
    · repeat (first | refine rd_here rfl ?_ | refine ownL_here rfl ?_ | rw [isI_int] | rw [addD_int] | rw [int0_int] | rw [someD_some] | refine rdRaw_here rfl ?_ | rw [isB_bl] | rw [eqD_str] | rw [eqD_int] | refine And.intro (show CPow _ _ from ⟨by decide, by decide, by decide⟩) ?_ | refine And.intro (show 2 ≤ sizeLine by decide) ?_ | refine And.intro (show 1 ≤ sizeLine by decide) ?_ | refine And.intro (show 3 ≤ sizeLine by decide) ?_ | refine And.intro (show 4 ≤ sizeLine by decide) ?_ | refine And.intro (show 5 ≤ sizeLine by decide) ?_ | dsimp only)
      refine draw_use hd (by decide) (by decide) (by omega) fun y hy0 hy1 => ?_
      repeat (first | refine rd_here rfl ?_ | refine ownL_here rfl ?_ | rw [isI_int] | rw [addD_int] | rw [int0_int] | rw [someD_some] | refine rdRaw_here rfl ?_ | rw [isB_bl] | rw [eqD_str] | rw [eqD_int] | refine And.intro (show CPow _ _ from ⟨by decide, by decide, by decide⟩) ?_ | refine And.intro (show 2 ≤ sizeLine by decide) ?_ | refine And.intro (show 1 ≤ sizeLine by decide) ?_ | refine And.intro (show 3 ≤ sizeLine by decide) ?_ | refine And.intro (show 4 ≤ sizeLine by decide) ?_ | refine And.intro (show 5 ≤ sizeLine by decide) ?_ | dsimp only)
      refine draw_use hd (by decide) (by decide) (by omega) fun y2 hz0 hz1 => ?_
      repeat (first | refine rd_here rfl ?_ | refine ownL_here rfl ?_ | rw [isI_int] | rw [addD_int] | rw [int0_int] | rw [someD_some] | refine rdRaw_here rfl ?_ | rw [isB_bl] | rw [eqD_str] | rw [eqD_int] | refine And.intro (show CPow _ _ from ⟨by decide, by decide, by decide⟩) ?_ | refine And.intro (show 2 ≤ sizeLine by decide) ?_ | refine And.intro (show 1 ≤ sizeLine by decide) ?_ | refine And.intro (show 3 ≤ sizeLine by decide) ?_ | refine And.intro (show 4 ≤ sizeLine by decide) ?_ | refine And.intro (show 5 ≤ sizeLine by decide) ?_ | dsimp only)
      have fin : ∀ n : Int, 0 ≤ n → n ≤ 5 → (int1 [.int n] fun n => (-(2 ^ 62) ≤ n ∧ n < 2 ^ 62) ∧ ∃ (bit : Str) (a9' : DL.Slot), ([.raw v, .d (.int (top : Nat)), .d (.str (Str.ofString "abcdefghijklmnopqrstuvwxyz")), .own (ws.map Dat.str), .d (.int shift), .d (.str stem), .d (.int ((ws.length : Nat) : Int)), .d (.int stride), .d (.str (stem ++ ⟨#[c]⟩)), a9] : List DL.Slot) = [.raw v, .d (.int (top : Nat)), .d (.str (Str.ofString "abcdefghijklmnopqrstuvwxyz")), .own (ws.map Dat.str), .d (.int shift), .d (.str stem), .d (.int ((ws.length : Nat) : Int)), .d (.int stride), .d (.str bit), a9'] ∧ Small bit ∧ bit.cps.toList[stem.length]? = some c ∧ 1 ≤ bit.length ∧ bit.length + (rints 0 n.toNat).length ≤ 10 ∧ j2 + 1 + 1 + (rints 0 n.toNat).length ≤ j2 + 7) := fun n h0 h4 => by
        refine ⟨⟨by omega, by omega⟩, _, _, rfl, hb1, app_new, by omega, ?_, ?_⟩
        · simp [rints]; omega
        · simp [rints]; omega
      have h3 : y2 = 0 ∨ y2 = 1 ∨ y2 = 2 ∨ y2 = 3 := by omega
      rcases h3 with rfl | rfl | rfl | rfl
      · exact fin 0 (by decide) (by decide)
      · exact fin 0 (by decide) (by decide)
      · exact fin 1 (by decide) (by decide)
      · exact fin y hy0 (by omega)
    · rintro ρ j3 ⟨bit, a9, rfl, hbit, hbc, hbl, hbu, hj3⟩
      have hbu' : bit.length ≤ 10 := by simpa using hbu
      have hj3' : j3 ≤ j2 + 7 := by simpa using hj3
      refine ⟨fun b j4 => j4 ≤ j3 + 1 ∧ (b = true → ws.length % 2 = 1 ∧ ∃ (init : List Str) (z : Str), ws = init ++ [z] ∧ z.length < 6), ?_, ?_, ?_⟩
      · repeat (first | refine rd_here rfl ?_ | refine ownL_here rfl ?_ | rw [isI_int] | rw [addD_int] | rw [int0_int] | rw [someD_some] | refine rdRaw_here rfl ?_ | rw [isB_bl] | rw [eqD_str] | rw [eqD_int] | refine And.intro (show CPow _ _ from ⟨by decide, by decide, by decide⟩) ?_ | refine And.intro (show 2 ≤ sizeLine by decide) ?_ | refine And.intro (show 1 ≤ sizeLine by decide) ?_ | refine And.intro (show 3 ≤ sizeLine by decide) ?_ | refine And.intro (show 4 ≤ sizeLine by decide) ?_ | refine And.intro (show 5 ≤ sizeLine by decide) ?_ | dsimp only)
        refine ⟨(show (0 : Int) < 2 by decide), ?_⟩
        repeat (first | refine rd_here rfl ?_ | refine ownL_here rfl ?_ | rw [isI_int] | rw [addD_int] | rw [int0_int] | rw [someD_some] | refine rdRaw_here rfl ?_ | rw [isB_bl] | rw [eqD_str] | rw [eqD_int] | refine And.intro (show CPow _ _ from ⟨by decide, by decide, by decide⟩) ?_ | refine And.intro (show 2 ≤ sizeLine by decide) ?_ | refine And.intro (show 1 ≤ sizeLine by decide) ?_ | refine And.intro (show 3 ≤ sizeLine by decide) ?_ | refine And.intro (show 4 ≤ sizeLine by decide) ?_ | refine And.intro (show 5 ≤ sizeLine by decide) ?_ | dsimp only)
        by_cases hk : ((ws.length : Nat) : Int) % 2 = 1
        · rw [if_pos (decide_eq_true hk)]
          have hne : ws ≠ [] := fun z => by rw [z] at hk; exact absurd hk (by decide)
          obtain ⟨init, z, rfl⟩ : ∃ init z, ws = init ++ [z] := by
            rcases List.eq_nil_or_concat ws with z | ⟨l, b, z⟩
            · exact absurd z hne
            · exact ⟨l, b, by rw [z, List.concat_eq_append]⟩
          have hz := of_name (hws z (by simp))
          repeat (first | refine rd_here rfl ?_ | refine ownL_here rfl ?_ | rw [isI_int] | rw [addD_int] | rw [int0_int] | rw [someD_some] | refine rdRaw_here rfl ?_ | rw [isB_bl] | rw [eqD_str] | rw [eqD_int] | refine And.intro (show CPow _ _ from ⟨by decide, by decide, by decide⟩) ?_ | refine And.intro (show 2 ≤ sizeLine by decide) ?_ | refine And.intro (show 1 ≤ sizeLine by decide) ?_ | refine And.intro (show 3 ≤ sizeLine by decide) ?_ | refine And.intro (show 4 ≤ sizeLine by decide) ?_ | refine And.intro (show 5 ≤ sizeLine by decide) ?_ | dsimp only)
          rw [negD_int, isI_int, List.map_append, show atI (init.map Dat.str ++ [z].map Dat.str) (-1) = some (.str z) from atI_last _ _, someD_some]
          refine ⟨line_of (by omega), ?_⟩
          repeat (first | refine rd_here rfl ?_ | refine ownL_here rfl ?_ | rw [isI_int] | rw [addD_int] | rw [int0_int] | rw [someD_some] | refine rdRaw_here rfl ?_ | rw [isB_bl] | rw [eqD_str] | rw [eqD_int] | refine And.intro (show CPow _ _ from ⟨by decide, by decide, by decide⟩) ?_ | refine And.intro (show 2 ≤ sizeLine by decide) ?_ | refine And.intro (show 1 ≤ sizeLine by decide) ?_ | refine And.intro (show 3 ≤ sizeLine by decide) ?_ | refine And.intro (show 4 ≤ sizeLine by decide) ?_ | refine And.intro (show 5 ≤ sizeLine by decide) ?_ | dsimp only)
          by_cases h6 : ((z.length : Nat) : Int) < 6
          · rw [if_pos (decide_eq_true h6)]
            repeat (first | refine rd_here rfl ?_ | refine ownL_here rfl ?_ | rw [isI_int] | rw [addD_int] | rw [int0_int] | rw [someD_some] | refine rdRaw_here rfl ?_ | rw [isB_bl] | rw [eqD_str] | rw [eqD_int] | refine And.intro (show CPow _ _ from ⟨by decide, by decide, by decide⟩) ?_ | refine And.intro (show 2 ≤ sizeLine by decide) ?_ | refine And.intro (show 1 ≤ sizeLine by decide) ?_ | refine And.intro (show 3 ≤ sizeLine by decide) ?_ | refine And.intro (show 4 ≤ sizeLine by decide) ?_ | refine And.intro (show 5 ≤ sizeLine by decide) ?_ | dsimp only)
            refine draw_use hd (by decide) (by decide) (by omega) fun y hy0 hy1 => ?_
            repeat (first | refine rd_here rfl ?_ | refine ownL_here rfl ?_ | rw [isI_int] | rw [addD_int] | rw [int0_int] | rw [someD_some] | refine rdRaw_here rfl ?_ | rw [isB_bl] | rw [eqD_str] | rw [eqD_int] | refine And.intro (show CPow _ _ from ⟨by decide, by decide, by decide⟩) ?_ | refine And.intro (show 2 ≤ sizeLine by decide) ?_ | refine And.intro (show 1 ≤ sizeLine by decide) ?_ | refine And.intro (show 3 ≤ sizeLine by decide) ?_ | refine And.intro (show 4 ≤ sizeLine by decide) ?_ | refine And.intro (show 5 ≤ sizeLine by decide) ?_ | dsimp only)
            exact ⟨by omega, fun _ => ⟨by omega, init, z, rfl, by omega⟩⟩
          · rw [if_neg (fun y => h6 (of_decide_eq_true y))]
            exact ⟨by omega, fun y => nomatch y⟩
        · rw [if_neg (fun y => hk (of_decide_eq_true y))]
          exact ⟨by omega, fun y => nomatch y⟩
      · rintro j4 ⟨hj4, hin⟩
        obtain ⟨hodd, init, z, rfl, hz6⟩ := hin rfl
        have hz := of_name (hws z (by simp))
        repeat (first | refine rd_here rfl ?_ | refine ownL_here rfl ?_ | rw [isI_int] | rw [addD_int] | rw [int0_int] | rw [someD_some] | refine rdRaw_here rfl ?_ | rw [isB_bl] | rw [eqD_str] | rw [eqD_int] | refine And.intro (show CPow _ _ from ⟨by decide, by decide, by decide⟩) ?_ | refine And.intro (show 2 ≤ sizeLine by decide) ?_ | refine And.intro (show 1 ≤ sizeLine by decide) ?_ | refine And.intro (show 3 ≤ sizeLine by decide) ?_ | refine And.intro (show 4 ≤ sizeLine by decide) ?_ | refine And.intro (show 5 ≤ sizeLine by decide) ?_ | dsimp only)
        rw [negD_int, isI_int, show atI ((init ++ [z]).map Dat.str) (-1) = some (.str z) from by rw [List.map_append]; exact atI_last _ _, someD_some]
        repeat (first | refine rd_here rfl ?_ | refine ownL_here rfl ?_ | rw [isI_int] | rw [addD_int] | rw [int0_int] | rw [someD_some] | refine rdRaw_here rfl ?_ | rw [isB_bl] | rw [eqD_str] | rw [eqD_int] | refine And.intro (show CPow _ _ from ⟨by decide, by decide, by decide⟩) ?_ | refine And.intro (show 2 ≤ sizeLine by decide) ?_ | refine And.intro (show 1 ≤ sizeLine by decide) ?_ | refine And.intro (show 3 ≤ sizeLine by decide) ?_ | refine And.intro (show 4 ≤ sizeLine by decide) ?_ | refine And.intro (show 5 ≤ sizeLine by decide) ?_ | dsimp only)
        refine draw_use hd (by decide) (by decide) (by omega) fun y hy0 hy1 => ?_
        repeat (first | refine rd_here rfl ?_ | refine ownL_here rfl ?_ | rw [isI_int] | rw [addD_int] | rw [int0_int] | rw [someD_some] | refine rdRaw_here rfl ?_ | rw [isB_bl] | rw [eqD_str] | rw [eqD_int] | refine And.intro (show CPow _ _ from ⟨by decide, by decide, by decide⟩) ?_ | refine And.intro (show 2 ≤ sizeLine by decide) ?_ | refine And.intro (show 1 ≤ sizeLine by decide) ?_ | refine And.intro (show 3 ≤ sizeLine by decide) ?_ | refine And.intro (show 4 ≤ sizeLine by decide) ?_ | refine And.intro (show 5 ≤ sizeLine by decide) ?_ | dsimp only)
        obtain ⟨c2, hc2, hat3⟩ := letter_at hy0 hy1
        refine ⟨alpha_line, ?_⟩
        rw [hat3, someD_some]
        repeat (first | refine rd_here rfl ?_ | refine ownL_here rfl ?_ | rw [isI_int] | rw [addD_int] | rw [int0_int] | rw [someD_some] | refine rdRaw_here rfl ?_ | rw [isB_bl] | rw [eqD_str] | rw [eqD_int] | refine And.intro (show CPow _ _ from ⟨by decide, by decide, by decide⟩) ?_ | refine And.intro (show 2 ≤ sizeLine by decide) ?_ | refine And.intro (show 1 ≤ sizeLine by decide) ?_ | refine And.intro (show 3 ≤ sizeLine by decide) ?_ | refine And.intro (show 4 ≤ sizeLine by decide) ?_ | refine And.intro (show 5 ≤ sizeLine by decide) ?_ | dsimp only)
        refine ⟨by rw [len_one]; exact line_of (by omega), ?_⟩
        have hbs : Small (z ++ ⟨#[c2]⟩) := small_app hz.1 (small_one hc2)
        have hbl2 : (z ++ ⟨#[c2]⟩ : Str).length = z.length + 1 := by rw [Str.length_append, len_one]
        have hnew : Marked stem.length shift stride ((init ++ [z]) ++ [cutS (z ++ ⟨#[c2]⟩) none (some 6)]) := marked_snoc hmk (.inr ⟨hodd, z, by simp, c2, by
          rw [cut6_list, List.take_of_length_le]
          · rw [Str.cps_append, Array.toList_append]
          · rw [show (z ++ ⟨#[c2]⟩ : Str).cps.toList.length = (z ++ ⟨#[c2]⟩ : Str).length by simp [Str.length], hbl2]; omega⟩)
        generalize hW : init ++ [z] = ws at *
        repeat (first | refine rd_here rfl ?_ | refine ownL_here rfl ?_ | rw [isI_int] | rw [addD_int] | rw [int0_int] | rw [someD_some] | refine rdRaw_here rfl ?_ | rw [isB_bl] | rw [eqD_str] | rw [eqD_int] | refine And.intro (show CPow _ _ from ⟨by decide, by decide, by decide⟩) ?_ | refine And.intro (show 2 ≤ sizeLine by decide) ?_ | refine And.intro (show 1 ≤ sizeLine by decide) ?_ | refine And.intro (show 3 ≤ sizeLine by decide) ?_ | refine And.intro (show 4 ≤ sizeLine by decide) ?_ | refine And.intro (show 5 ≤ sizeLine by decide) ?_ | dsimp only)
        refine ⟨line_of (by omega), ?_⟩
        refine ⟨by rw [List.length_map]; exact Nat.lt_of_lt_of_le (show ws.length < 101 by omega) (by decide), ws ++ [cutS (z ++ ⟨#[c2]⟩) none (some 6)], .d (.str (z ++ ⟨#[c2]⟩)), a9, .d (.int ((ws.length : Nat) : Int)), by rw [List.map_append]; rfl, fun y hy => ?_, hnew, fun q d hq => ?_, by rw [List.length_append, List.length_singleton]; omega, by omega⟩
        · rcases List.mem_append.mp hy with hy | hy
          · exact hws y hy
          · rw [List.mem_singleton.mp hy]; exact cut6 hbs (by omega)
        · rw [hit (q + 1) d (by simpa using hq), List.length_append, List.length_singleton]
          congr 2
          omega
      · rintro j4 ⟨hj4, _⟩
        repeat (first | refine rd_here rfl ?_ | refine ownL_here rfl ?_ | rw [isI_int] | rw [addD_int] | rw [int0_int] | rw [someD_some] | refine rdRaw_here rfl ?_ | rw [isB_bl] | rw [eqD_str] | rw [eqD_int] | refine And.intro (show CPow _ _ from ⟨by decide, by decide, by decide⟩) ?_ | refine And.intro (show 2 ≤ sizeLine by decide) ?_ | refine And.intro (show 1 ≤ sizeLine by decide) ?_ | refine And.intro (show 3 ≤ sizeLine by decide) ?_ | refine And.intro (show 4 ≤ sizeLine by decide) ?_ | refine And.intro (show 5 ≤ sizeLine by decide) ?_ | dsimp only)
        refine ⟨line_of (by omega), ?_⟩
        refine ⟨by rw [List.length_map]; exact Nat.lt_of_lt_of_le (show ws.length < 101 by omega) (by decide), ws ++ [cutS bit none (some 6)], .d (.str bit), a9, .d (.int ((ws.length : Nat) : Int)), by rw [List.map_append]; rfl, fun y hy => ?_, marked_snoc hmk (.inl (cut6_at (by omega) (by rw [hbc, hce]))), fun q d hq => ?_, by rw [List.length_append, List.length_singleton]; omega, by omega⟩
        · rcases List.mem_append.mp hy with hy | hy
          · exact hws y hy
          · rw [List.mem_singleton.mp hy]; exact cut6 hbit (by omega)
        · rw [hit (q + 1) d (by simpa using hq), List.length_append, List.length_singleton]
          congr 2
          omega
    · rintro d2 ds2 ρ j3 ⟨bit, a9, rfl, hbit, hbc, hbl, hbu, hj3⟩
      repeat (first | refine rd_here rfl ?_ | refine ownL_here rfl ?_ | rw [isI_int] | rw [addD_int] | rw [int0_int] | rw [someD_some] | refine rdRaw_here rfl ?_ | rw [isB_bl] | rw [eqD_str] | rw [eqD_int] | refine And.intro (show CPow _ _ from ⟨by decide, by decide, by decide⟩) ?_ | refine And.intro (show 2 ≤ sizeLine by decide) ?_ | refine And.intro (show 1 ≤ sizeLine by decide) ?_ | refine And.intro (show 3 ≤ sizeLine by decide) ?_ | refine And.intro (show 4 ≤ sizeLine by decide) ?_ | refine And.intro (show 5 ≤ sizeLine by decide) ?_ | dsimp only)
      rw [List.length_cons] at hbu hj3
      refine draw_use hd (by decide) (by decide) (by omega) fun y hy0 hy1 => ?_
      repeat (first | refine rd_here rfl ?_ | refine ownL_here rfl ?_ | rw [isI_int] | rw [addD_int] | rw [int0_int] | rw [someD_some] | refine rdRaw_here rfl ?_ | rw [isB_bl] | rw [eqD_str] | rw [eqD_int] | refine And.intro (show CPow _ _ from ⟨by decide, by decide, by decide⟩) ?_ | refine And.intro (show 2 ≤ sizeLine by decide) ?_ | refine And.intro (show 1 ≤ sizeLine by decide) ?_ | refine And.intro (show 3 ≤ sizeLine by decide) ?_ | refine And.intro (show 4 ≤ sizeLine by decide) ?_ | refine And.intro (show 5 ≤ sizeLine by decide) ?_ | dsimp only)
      obtain ⟨c2, hc2, hat3⟩ := letter_at hy0 hy1
      refine ⟨alpha_line, ?_⟩
      rw [hat3, someD_some]
      repeat (first | refine rd_here rfl ?_ | refine ownL_here rfl ?_ | rw [isI_int] | rw [addD_int] | rw [int0_int] | rw [someD_some] | refine rdRaw_here rfl ?_ | rw [isB_bl] | rw [eqD_str] | rw [eqD_int] | refine And.intro (show CPow _ _ from ⟨by decide, by decide, by decide⟩) ?_ | refine And.intro (show 2 ≤ sizeLine by decide) ?_ | refine And.intro (show 1 ≤ sizeLine by decide) ?_ | refine And.intro (show 3 ≤ sizeLine by decide) ?_ | refine And.intro (show 4 ≤ sizeLine by decide) ?_ | refine And.intro (show 5 ≤ sizeLine by decide) ?_ | dsimp only)
      exact ⟨by rw [len_one]; exact line_of (by omega), bit ++ ⟨#[c2]⟩, .d d2, rfl, small_app hbit (small_one hc2), app_at hbc, by rw [Str.length_append, len_one]; omega, by rw [Str.length_append, len_one]; omega, by omega⟩
  · rintro d ds ρ j ⟨stem, a, rfl, hst, hsl, hj⟩
    repeat (first | refine rd_here rfl ?_ | refine ownL_here rfl ?_ | rw [isI_int] | rw [addD_int] | rw [int0_int] | rw [someD_some] | refine rdRaw_here rfl ?_ | rw [isB_bl] | rw [eqD_str] | rw [eqD_int] | refine And.intro (show CPow _ _ from ⟨by decide, by decide, by decide⟩) ?_ | refine And.intro (show 2 ≤ sizeLine by decide) ?_ | refine And.intro (show 1 ≤ sizeLine by decide) ?_ | refine And.intro (show 3 ≤ sizeLine by decide) ?_ | refine And.intro (show 4 ≤ sizeLine by decide) ?_ | refine And.intro (show 5 ≤ sizeLine by decide) ?_ | dsimp only)
    have hj' : j + ds.length + 1 ≤ i0 + 7 := by simpa [Nat.add_assoc] using hj
    refine draw_use hd (by decide) (by decide) (by omega) fun x hy0 hy1 => ?_
    repeat (first | refine rd_here rfl ?_ | refine ownL_here rfl ?_ | rw [isI_int] | rw [addD_int] | rw [int0_int] | rw [someD_some] | refine rdRaw_here rfl ?_ | rw [isB_bl] | rw [eqD_str] | rw [eqD_int] | refine And.intro (show CPow _ _ from ⟨by decide, by decide, by decide⟩) ?_ | refine And.intro (show 2 ≤ sizeLine by decide) ?_ | refine And.intro (show 1 ≤ sizeLine by decide) ?_ | refine And.intro (show 3 ≤ sizeLine by decide) ?_ | refine And.intro (show 4 ≤ sizeLine by decide) ?_ | refine And.intro (show 5 ≤ sizeLine by decide) ?_ | dsimp only)
    obtain ⟨c, hc, hat⟩ := letter_at hy0 hy1
    refine ⟨alpha_line, ?_⟩
    rw [hat, someD_some]
    repeat (first | refine rd_here rfl ?_ | refine ownL_here rfl ?_ | rw [isI_int] | rw [addD_int] | rw [int0_int] | rw [someD_some] | refine rdRaw_here rfl ?_ | rw [isB_bl] | rw [eqD_str] | rw [eqD_int] | refine And.intro (show CPow _ _ from ⟨by decide, by decide, by decide⟩) ?_ | refine And.intro (show 2 ≤ sizeLine by decide) ?_ | refine And.intro (show 1 ≤ sizeLine by decide) ?_ | refine And.intro (show 3 ≤ sizeLine by decide) ?_ | refine And.intro (show 4 ≤ sizeLine by decide) ?_ | refine And.intro (show 5 ≤ sizeLine by decide) ?_ | dsimp only)
    rw [List.length_cons] at hsl
    refine ⟨by rw [len_one]; exact line_of (by omega), stem ++ ⟨#[c]⟩, .d d, rfl, small_app hst (small_one hc), by rw [Str.length_append, len_one]; omega, by omega⟩
end
end K01
namespace K01
open PySem PySem.Spec PyProof.Rows L2 DL
/-! ### terms bent -/
section
variable {P : Program} {w : World} {K : PySem.W.Frag} {mg : Str → Option Value} {base : Heap} {f f2 : Addr} {fd fd2 : FuncData} {k : Nat}
-- calls ['_law_draw', '_law_bent'] consts []
end
end K01
namespace K01
open PySem PySem.Spec PyProof.Rows L2 DL
/-! ### the parts by their texts -/
section
variable {P : Program} {w : World} {K : PySem.W.Frag} {mg : Str → Option Value} {base : Heap} {f f2 : Addr} {fd fd2 : FuncData} {k : Nat}
end
end K01
namespace K01
open PySem PySem.Spec PyProof.Rows L2 DL
/-! ### two rising orders of the same texts are one -/
/-! ### terms are flat: no lists, not deep -/
theorem depths_le {m : Nat} : ∀ {ds : List Dat}, (∀ d ∈ ds, (toP d).depth ≤ m) → PyData.depthAll (toPs ds) ≤ m
  | [], _ => by rw [toPs, PyData.depthAll]; omega
  | d :: ds, h => by
    have h1 := h d List.mem_cons_self
    have h2 := depths_le fun x hx => h x (List.mem_cons_of_mem _ hx)
    rw [toPs, PyData.depthAll]
    omega
/-! ### all of a term can be laid out -/
theorem shaped_of {d : Dat} (h : Lay d) (hd : (toP d).depth ≤ 64) : SeqAt.shaped (toP d) = true := by
  unfold SeqAt.shaped
  rw [show (toP d).canLay0 = true from h, decide_eq_true hd]
  rfl
theorem sort_lay : ∀ {k : Str}, k ∈ sorts → Lay (.str k) := fun {k} h => by
  have q : ∀ k ∈ sorts, (toP (.str k)).canLay0 = true := by decide +kernel
  exact q k h
end K01
namespace K01
open PySem PySem.Spec PyProof.Rows L2 DL
/-! ### whether the program answers rightly on one thing -/
section
variable {P : Program} {w : World} {K : PySem.W.Frag} {mg : Str → Option Value} {base : Heap} {f f2 : Addr} {fd fd2 : FuncData} {k : Nat}
end
end K01
namespace K01
open PySem PySem.Spec PyProof.Rows L2 DL
/-! ### an error told by its class -/
section
variable {P : Program} {w : World} {K : PySem.W.Frag} {mg : Str → Option Value} {base : Heap} {f f2 : Addr} {fd fd2 : FuncData} {k : Nat}
end
end K01
namespace K01
open PySem PySem.Spec PyProof.Rows L2 DL LamX
/-! ### a deed that is refused, told -/
end K01
namespace K01
open PySem PySem.Spec PyProof.Rows L2 DL LamX
/-! ### a refused deed told, as an expression of the state -/
section
variable {ι : Type} {G : Fam ι} {π : ι → Unit} {u : ι → Unit → ι}
end
end K01
namespace DL
open PySem PySem.Spec PyProof.Rows L2
/-! ### a list of numbers as a state -/
section
variable {ι κ : Type} {G : Fam ι} {S S' : Addr → Prop} {σ : L2.St} {H H' H2 : Hp} {ρ : List Slot} {i j k : ι} {pos : Pos} {a b c e : Expr} {es rest : List Expr} {Fa Fb : FR ι} {st : Stmt} {sts : List Stmt}
/-! ### arguments of which the last one is a new list of two numbers -/
/-- a call of a def that asks nothing of the state, its arguments of the state -/
theorem dr_fnD {x : Str} {k m : Nat} {ps : List Str} {C : Con} {p : Pos} {Fs : FAR ι} (h : Callee G.X.prog G.X.w G.X.K G.X.mg G.X.base x k ps C) (hr : Room m G.X.A) (ha : DAR G (e :: es) Fs) (hk : k ≤ m := by decide) (hg : Gl G.X x := by rfl) (hdb : (x == ("__debug__" : Str)) = false := by decide)
    (he : starEach (e :: es) G.X.env = (false, eval e G.X.env) :: starEach es G.X.env := by rfl) (hpl : (backTo pos (starEach es G.X.env)).any (·.1) = false := by rfl) :
    DR G (.Call (.Name x p) (e :: es) [] pos) (fun ρ i P => Fs ρ i fun ds j => C.C ds (fun d => P d j) (fun _ => False)) := by
  obtain ⟨f, fd, F, hm, hkp, hb⟩ := h.ex
  obtain ⟨t, h, l⟩ := ha.ex
  refine ⟨⟨_, pe_call F (hr.mono hk) hg hm hkp hb .nil pass0 h hdb he hpl, fun S σ H ρ i P Q g h q => ?_⟩⟩
  refine l S σ H ρ i _ _ g h fun vs ds H1 j st hv hp => ?_
  rw [List.append_nil]
  exact spD_use (G := G.at j) (g.stepI st) hv hp fun v d H2 st2 hd hp => q v d H2 j (st.trans (StpI.of st2)) hd hp
/-! ### a state that is opened amid a def -/
end
/-! ### what asks for no state, with one of its own -/
end DL
namespace K01
open PySem PySem.Spec PyProof.Rows L2 DL
/-! ### sayings: the mirror -/
section
variable {P : Program} {w : World} {K : PySem.W.Frag} {mg : Str → Option Value} {base : Heap} {f : Addr} {fd : FuncData} {k : Nat}
-- calls [] consts ['TERM_WORDS']
-- calls [] consts ['ATOM_WORDS']
-- calls [] consts ['ATOM_WORDS']
end
end K01
namespace K01
open PySem PySem.Spec PyProof.Rows L2 DL
section
variable {P : Program} {w : World} {K : PySem.W.Frag} {mg : Str → Option Value} {base : Heap} {f : Addr} {fd : FuncData} {k : Nat}
-- calls ['is_name', 'has_row', 'places_size', 'atom_terms', 'term_sort'] consts ['ATOM_WORDS']
-- calls [] consts ['MOST_SAYINGS']
end
end K01
namespace K01
open PySem PySem.Spec PyProof.Rows L2 DL
section
variable {P : Program} {w : World} {K : PySem.W.Frag} {mg : Str → Option Value} {base : Heap} {f : Addr} {fd : FuncData} {k : Nat}
-- calls ['has_word', 'is_atom_word', 'atom_size', 'joined_sayings', 'saying_size'] consts []
/-! ### is_saying, is_atom -/
-- calls ['saying_size'] consts ['SAYING_PARTS', 'SAYING_DEEP']
-- calls ['is_atom_word', 'is_saying'] consts []
end
end K01
namespace K01
open PySem PySem.Spec PyProof.Rows L2 DL
/-! ### what stands in a saying -/
section
variable {P : Program} {w : World} {K : PySem.W.Frag} {mg : Str → Option Value} {base : Heap} {f : Addr} {fd : FuncData} {k : Nat}
-- calls ['is_atom_word', 'joined_sayings'] consts []
-- calls ['inner_sayings', 'sayings_in_order'] consts []
-- calls ['is_atom_word', 'sayings_in_order'] consts []
-- calls ['atoms_in_order', 'atom_terms', 'parts_in_order'] consts []
end
end K01
namespace K01
open PySem PySem.Spec PyProof.Rows L2 DL
/-! ### texts of sayings -/
section
variable {P : Program} {w : World} {K : PySem.W.Frag} {mg : Str → Option Value} {base : Heap} {f : Addr} {fd : FuncData} {k : Nat}
-- calls ['is_atom_word', 'atom_terms', 'term_text', 'in_brackets', 'inner_sayings', 'saying_text'] consts []
end
end K01
namespace K01
open PySem PySem.Spec PyProof.Rows L2 DL
/-! ### terms and sayings alike -/
/-! ### what is asked of sayings -/
section
variable {P : Program} {w : World} {K : PySem.W.Frag} {mg : Str → Option Value} {base : Heap} {f : Addr} {fd : FuncData} {k : Nat}
-- calls ['is_term_word', 'inner_terms', 'is_atom_word', 'atom_terms', 'inner_sayings'] consts []
-- calls ['inner_things', 'thing_deep'] consts []
-- calls ['is_saying'] consts []
-- calls ['check_saying', 'atoms_in_order', 'each_once', 'saying_text'] consts []
-- calls ['check_saying', 'terms_in_order', 'each_once', 'term_text'] consts []
-- calls ['is_term', 'term_text', 'is_saying', 'saying_text'] consts []
-- calls ['is_saying', 'is_term', 'thing_deep'] consts []
-- calls ['term_size', 'saying_size'] consts ['TERM_PARTS', 'TERM_DEEP', 'SAYING_PARTS', 'SAYING_DEEP']
end
end K01
namespace K01
open PySem PySem.Spec PyProof.Rows L2 DL
theorem cut_to {α : Type} (xs : List α) (n : Nat) (h : n ≤ xs.length) : cutG xs none (some ((n : Nat) : Int)) = xs.take n := by
  unfold cutG
  rw [HT.sIx_none, HT.sIx_nat, Nat.min_eq_left h, List.drop_zero, Nat.sub_zero]
theorem hu65 {A : Around} {k : Nat} (hr : Room k A) : A.units + 65 < cLine := by have := hr.un; omega
end K01
/-! an own error over LookupError, of two fields -/
namespace DLE
open PySem PySem.W PySem.Calls PyProof.Rows PySem.HandSPX
open Builtin Builtin.ObjectAttr
section
variable {prog : Program} {w : World} {A : Around} {R : Result → Shared → Prop} {hp : Heap} {g : Array GenState} {d : Drawn} {t : Nat} {os : OsState} {K : PySem.W.Frag}
end
end DLE
namespace DL
open PySem PySem.Spec PyProof.Rows L2
section
variable {X : Cx} {pins : List (Addr × Obj)} {σ : L2.St} {H : Hp} {s : Shared} {a C dx : Addr} {f : Str} {y : V} {u : Value} {fs : List (Str × V)} {A : Around} {Er : Value → Shared → Prop}
end
section
variable {X : Cx} {o e : Expr} {es : List Expr} {to te : TE} {ta : TA} {f : Str} {p p' p1 p2 pos : Pos}
end
end DL
namespace DL
open PySem PySem.Spec PyProof.Rows L2
/-! ### an own error over LookupError, of two fields: raised -/
section
variable {G : Ctx} {S : Addr → Prop} {σ : L2.St} {H H' : Hp} {ρ : List Slot} {pos : Pos}
end
end DL
namespace K01
open PySem PySem.Spec PyProof.Rows L2 DL LamX
/-! ### an error told by its class: any of the three -/
section
variable {P : Program} {w : World} {K : PySem.W.Frag} {mg : Str → Option Value} {base : Heap} {f f2 : Addr} {fd fd2 : FuncData} {k : Nat}
end
/-! ### a deed told -/
/-! ### a lambda of whatever expression, told -/
section
variable {ι : Type} {G : Fam ι} {π : ι → Unit} {u : ι → Unit → ι}
end
end K01
namespace DL
open PySem PySem.Spec PyProof.Rows L2
/-! ### comprehensions over draws -/
abbrev Fam.blk {ι : Type} (G : Fam ι) (s : Shared) (H : Hp) (scope : Scope) (cenv : Env) (fp : List Addr) : Fam ι := { G with X := G.X.blk s H scope cenv fp }
section
variable {ι κ : Type} {G : Fam ι} {S S' : Addr → Prop} {σ : L2.St} {H H' H2 : Hp} {ρ : List Slot} {pos : Pos} {a b e : Expr} {Fa : FR ι}
theorem gs_blk {st : Sta κ} {π : ι → κ} {u : ι → κ → ι} {s : Shared} {H9 : Hp} {scope : Scope} {cenv : Env} {fp : List Addr} (gs : GS G st π u) : GS (G.blk s H9 scope cenv fp) st π u := ⟨gs.sub, gs.get, gs.put⟩
theorem Gd.blkI {i : ι} {s : Shared} {H9 : Hp} {scope : Scope} {cenv : Env} {fp : List Addr} (g : Gd (G.at i) S σ H ρ) : Gd ((G.blk s H9 scope cenv fp).at i) S σ H ρ := ⟨g.wld, g.all, g.sub, g.len, g.slots, g.apart⟩
theorem StpI.unblk {j : ι} {s : Shared} {H9 : Hp} {scope : Scope} {cenv : Env} {fp : List Addr} (st : StpI (G.blk s H9 scope cenv fp) j H H') : StpI G j H H' := ⟨st.wld, st.keep, st.has⟩
/-- the weakest reading -/
def tWR (G : Fam ι) (F : FR ι) : TE := fun σ H Q => ∃ S ρ i P, Gd (G.at i) S σ H ρ ∧ F ρ i P ∧ ∀ v d H' j, StpI G j H H' → Dv G.X.K S H' d v → P d j → Q v H'
theorem DR.blk {F : FR ι} {s : Shared} {H9 : Hp} {scope : Scope} {cenv : Env} {fp : List Addr} (h : DR (G.blk s H9 scope cenv fp) e F) : PE (G.X.blk s H9 scope cenv fp) e (tWR G F) := by
  obtain ⟨t, h, l⟩ := h.ex
  exact ⟨fun pins s' σ H Q I ⟨S, ρ, i, P, g, hf, q⟩ => h.run pins s' σ H Q I (l S σ H ρ i P Q g.blkI hf fun v d H' j st => q v d H' j st.unblk)⟩
abbrev FItR (ι : Type) := List Slot → ι → (List Dat → ι → Prop) → Prop
/-- what is walked, told of the state -/
structure DIR (G : Fam ι) (tg iter : Expr) (F : FItR ι) : Prop where
  ex : ∃ w, PI G.X tg iter w ∧ ∀ S σ H ρ i P (R : It → Hp → Prop), Gd (G.at i) S σ H ρ → F ρ i P → (∀ J items H1 j, StpI G j H H1 → (∀ k : ι, WalkOk (G.at k) J items S H1) → P items j → R J H1) → w σ H R
theorem dir_range {tg : Expr} {p : Pos} {Fs : FAR ι} (hm : G.X.mg "range" = none) (ha : DAR G [a] Fs) (hg : Gl G.X "range" := by rfl) (hs : starEach [a] G.X.env = [(false, eval a G.X.env)] := by rfl) :
    DIR G tg (.Call (.Name "range" p) [a] [] pos) (fun ρ i P => Fs ρ i fun ds j => int1 ds fun n => (-(2 ^ 62) ≤ n ∧ n < 2 ^ 62) ∧ P (rints 0 n.toNat) j) := by
  obtain ⟨w, h1, lw⟩ := rangeR (tg := tg) (p := p) (pos := pos) hm ha hg hs
  exact ⟨⟨w, h1, fun S σ H ρ i P R g h q => lw S σ H ρ i P R g h fun lo cnt H1 j st hp => q _ _ H1 j st (fun k => walk_rng) hp⟩⟩
theorem dir_lst {tg : Expr} (ha : DR G a Fa) : DIR G tg a (fun ρ i P => Fa ρ i fun d j => isLst d fun ds => P ds j) := by
  obtain ⟨t, h1, l1⟩ := ha.ex
  refine ⟨⟨_, pi_seq h1, fun S σ H ρ i P R g h q => ?_⟩⟩
  refine l1 S σ H ρ i _ _ g h fun v d H1 j st hv hl => ?_
  cases d with
  | lst ds =>
    obtain ⟨p, xs, rfl, np, ep, hxs⟩ := dv_lst hv
    exact ⟨p, rfl, .inl ⟨⟨xs, .inl (.inl ep)⟩, q _ ds H1 j st (fun k => walk_lst np ep hxs) hl⟩⟩
  | _ => exact hl.elim
theorem lift_lcR {w : TI} {F : FItR ι} {Fe : FR ι} (n : Nat) (lw : ∀ S σ H ρ i P (R : It → Hp → Prop), Gd (G.at i) S σ H ρ → F ρ i P → (∀ J items H1 j, StpI G j H H1 → (∀ k : ι, WalkOk (G.at k) J items S H1) → P items j → R J H1) → w σ H R) :
    ∀ S σ H ρ i (P : List Dat → ι → Prop) (Q : VK), Gd (G.at i) S σ H ρ → (∃ Inv : List Dat → List Dat → ι → Prop, (F ρ i fun items j => Inv items [] j) ∧ (∀ acc j, Inv [] acc j → P acc j) ∧ ∀ d ds acc j, Inv (d :: ds) acc j → Fe (ρ.set n (.d d)) j fun y k => acc.length < sizeLine ∧ Inv ds (acc ++ [y]) k) →
      (∀ p xs ds H' j, H p = none → StpI G j H H' → H' p = some (.lst xs) → DvL G.X.K (fun a => S a ∨ a = p) H' ds xs → P ds j → Q (.ref p) H') → tLc w (gName n) (fun _ H Q => Q true H) (tWR G Fe) [n] σ H Q := by
  intro S σ H ρ i P Q gd ⟨IV, h, k0, ks⟩ q
  refine lw S σ H ρ i _ _ gd h fun J items H1 j0 st wk hp D nD => ?_
  have g1 := gd.stepI st
  have gw : Gd (G.at j0) S (σ.set n none) H1 (ρ.set n .un) := g1.wipe
  have nS : ¬ S D := g1.fresh nD
  have nS0 : ¬ G.S0 D := fun z => nS (gd.sub D z)
  have h0 : G.H0 D = none := g1.fresh0 nD
  have ndH : H D = none := by
    cases e : H D with
    | none => rfl
    | some o =>
      obtain ⟨o', e'⟩ := st.has D o e
      rw [nD] at e'; cases e'
  obtain ⟨g2, fr2⟩ := gw.grow (o := .lst []) nD
  have hn : ∀ (i : Nat) (s : Slot), (ρ.set n .un)[i]? = some s → s.isOwn = true → (σ.set n none)[i]? ≠ some (some (.ref D)) := fun i s hs ho e => by
    have k := gw.slots i s hs
    rw [e] at k
    obtain ⟨a, u, e1, _, e2, _⟩ := SlotOk.addr k ho
    cases e1
    rw [nD] at e2; cases e2
  have wipe1 : L2.wipe σ [n] = σ.set n none := rfl
  let Pv : Nat → Hp → Prop := fun r H' => ∃ acc dacc j, H' D = some (.lst acc) ∧ DvL G.X.K (fun a => S a ∨ a = D) H' dacc acc ∧ Gd (G.at j) (fun a => S a ∨ a = D) (σ.set n none) H' (ρ.set n .un) ∧ Fr S H1 (fun a => S a ∨ a = D) H' ∧ StpI G j H H' ∧ IV (items.drop r) dacc j
  refine ⟨fun r m H' => m = items.length - r ∧ r ≤ items.length ∧ Pv r H', ⟨items.length, rfl, Nat.zero_le _, [], [], j0, upd_same, rfl, g2, fr2, st.trans (StpI.new g1.wld nD), hp⟩, ?_⟩
  rintro r m H' ⟨rfl, hi, acc, dacc, j, eD, hacc, g', fr, st', hf⟩
  by_cases hlt : r < items.length
  · refine .inr ⟨(wk j).go r _ H' hlt fr, Pv (r + 1), fun H2 p => ⟨items.length - (r + 1), by omega, rfl, hlt, p⟩, fun x H2 y => ?_⟩
    obtain ⟨s2, hd⟩ := (wk j).yld r _ _ _ _ H' x H2 (List.getElem?_eq_getElem hlt) g' fr y
    have g3 := g'.step s2
    rw [List.drop_eq_getElem_cons hlt] at hf
    rw [wipe1]
    refine ⟨by show ((σ.set n none).set n (some x)).set n none = σ.set n none; rw [List.set_set, List.set_set], ?_⟩
    have gx : Gd (G.at j) (fun a => S a ∨ a = D) ((σ.set n none).set n (some x)) H2 ((ρ.set n .un).set n (.d items[r])) := g3.set hd
    rw [show (ρ.set n Slot.un).set n (.d items[r]) = ρ.set n (.d items[r]) from List.set_set ..] at gx
    show (if true = true then _ else _)
    rw [if_pos rfl]
    refine ⟨_, _, j, _, gx, ks _ _ _ _ hf, fun v d H4 k st4 hv ⟨hz, hc⟩ => ?_⟩
    have s14 : StpI G k H' H4 := (StpI.of s2).trans st4
    have g4 := g'.stepI s14
    have eD4 := s14.keep D _ nS0 eD
    obtain ⟨g5, fr5⟩ := g4.acc (o := .lst (acc ++ [v])) (.inr rfl) h0 (fun φ z => by rw [eD4] at z; cases z) hn
    have hacc4 := s14.dvl g' hacc
    refine ⟨acc, eD4, by rw [hacc4.len]; exact hz, acc ++ [v], dacc ++ [d], k, upd_same, (hacc4.append (es := [d]) (us := [v]) ⟨v, [], rfl, hv, rfl⟩).move fr5, g5, (fr.trans (s14.fr g')).trans fr5, ?_, hc⟩
    have ss := st'.trans s14
    refine ⟨g5.wld, fun a o n e => ?_, fun a o e => ?_⟩
    · rw [upd_ne (ne_of_none e ndH)]; exact ss.keep a o n e
    · obtain ⟨o', e'⟩ := ss.has a o e
      exact ⟨o', by rw [upd_ne (ne_of_none e ndH)]; exact e'⟩
  · have e : r = items.length := by omega
    subst e
    rw [List.drop_length] at hf
    exact .inl ⟨(wk j).stop _ H' fr, q D acc dacc H' j ndH st' eD hacc (k0 _ _ hf)⟩
/-- a comprehension over draws, by a word of what is left, what is made, the index -/
theorem dr_lc {elt tg iter : Expr} {scope : Scope} {x : Str} (n : Nat) {F : FItR ι} {Fe : FR ι} (hc : G.X.calm = true) (hN : G.X.N.Nodup) (hi : DIR G tg iter F) (ok : BlkOk G.X.N G.X.env.scope scope [(x, n)])
    (hg : ∀ (s : Shared) (H : Hp) (C : Addr) (cl : List (Str × Addr)) (fp : List Addr), PG (G.X.blk s H scope (compEnvC scope cl C G.X.env) fp) tg (gName n))
    (he : ∀ (s : Shared) (H : Hp) (C : Addr) (cl : List (Str × Addr)) (fp : List Addr), DR (G.blk s H scope (compEnvC scope cl C G.X.env) fp) elt Fe) (hs : ∀ x, foldedSetIterable iter G.X.env x = pure x := by intro _; rfl) :
    DR G (.ListComp elt [⟨tg, iter, [], 0⟩] scope pos) (fun ρ i P => ∃ Inv : List Dat → List Dat → ι → Prop, (F ρ i fun items j => Inv items [] j) ∧ (∀ acc j, Inv [] acc j → P (.lst acc) j) ∧ ∀ d ds acc j, Inv (d :: ds) acc j → Fe (ρ.set n (.d d)) j fun y k => acc.length < sizeLine ∧ Inv ds (acc ++ [y]) k) := by
  obtain ⟨w, h1, l1⟩ := hi.ex
  refine ⟨⟨_, pe_lc (own := [(x, n)]) hc hN h1 ok hg (fun s H C cl fp => pts_nil) (fun s H C cl fp => (he s H C cl fp).blk) hs, fun S σ H ρ i P Q g h q => ?_⟩⟩
  refine lift_lcR n l1 S σ H ρ i (fun ds j => P (.lst ds) j) Q g h fun p xs ds H' j np st e hv hp => ?_
  have nS : ¬ S p := g.fresh np
  exact q _ (.lst ds) H' j st ⟨p, xs, rfl, nS, e, hv.move fun a o n e => ⟨fun z => n (.inl z), e⟩⟩ hp
end
end DL
namespace DL
open PySem PySem.Spec PyProof.Rows L2
section
variable {G : Ctx} {S : Addr → Prop} {σ : L2.St} {H H' : Hp} {ρ : List Slot} {pos : Pos} {a b c e : Expr} {Fa Fb : FE}
/-! ### gcd -/
def gcdD : RCD
  | [.int x, .int y], P => P (.int ((Nat.gcd x.natAbs y.natAbs : Nat) : Int))
  | _, _ => False
theorem serves_gcd : ServesC G rGcd gcdD := by
  intro S σ ρ H vs ds P Q g hv h q
  unfold gcdD at h
  split at h
  · obtain ⟨v, r, rfl, h1, h2⟩ := (hv : ∃ v r, vs = v :: r ∧ Dv G.X.K S H _ v ∧ DvL G.X.K S H [_] r)
    obtain ⟨u, r2, rfl, h3, h4⟩ := (h2 : ∃ v r2, r = v :: r2 ∧ Dv G.X.K S H _ v ∧ DvL G.X.K S H [] r2)
    cases (h4 : r2 = [])
    cases dv_int h1
    cases dv_int h3
    exact ⟨_, _, rfl, q _ (.int _) H (Stp.refl g.wld) rfl h⟩
  · exact h.elim
theorem de_gcd {p : Pos} {x : Str} {es : List Expr} {Fs : FA} (hm : G.X.mg x = some (.builtin "math.gcd")) (ha : DA G (e :: es) Fs) (hg : Gl G.X x := by rfl) (hdb : (x == ("__debug__" : Str)) = false := by decide)
    (he : starEach (e :: es) G.X.env = (false, eval e G.X.env) :: starEach es G.X.env := by rfl) (hpl : (backTo pos (starEach es G.X.env)).any (·.1) = false := by rfl) : DE G (.Call (.Name x p) (e :: es) [] pos) (fun ρ P => Fs ρ fun ds => gcdD ds P) := by
  obtain ⟨t, h, l⟩ := ha.ex
  exact ⟨⟨_, pe_callBfun cr_gcd hg hm h hdb he hpl, lift_cb serves_gcd l⟩⟩
/-! ### while -/
theorem ds_while {body : List Stmt} {Fc : FT} {Fb : FS} (hp : PassesOwn (model G.X.prog G.X.w) G.X.A G.X.env G.X.xe) (hc : DT G c Fc) (hb : DB G body Fb) :
    DS G (.While c body [] pos) (fun D ρ => ∃ Inv : Nat → List Slot → Prop, (∃ m, Inv m ρ) ∧ ∀ m ρ, Inv m ρ → ∃ Pc : Bool → Prop, Fc ρ Pc ∧ (Pc false → D.nx ρ) ∧ (Pc true → Fb { nx := fun ρ => ∃ m', m' < m ∧ Inv m' ρ, ct := fun ρ => ∃ m', m' < m ∧ Inv m' ρ, bk := D.nx, rt := D.rt } ρ)) := by
  obtain ⟨tc, h1, lc⟩ := hc.ex
  obtain ⟨tb, h2, lb⟩ := hb.ex
  refine ⟨⟨_, ps_while hp h1 h2, fun S σ H ρ D Dh g h q => ?_⟩⟩
  obtain ⟨IV, ⟨m0, h0⟩, turn⟩ := h
  refine ⟨fun m σ' H' => ∃ S' ρ', Gd G S' σ' H' ρ' ∧ Fr S H S' H' ∧ IV m ρ', ⟨m0, S, ρ, g, Fr.refl _ _, h0⟩, ?_⟩
  rintro m σ1 H1 ⟨S1, ρ1, g1, fr1, hi⟩
  obtain ⟨Pc, hc, hf, ht⟩ := turn m ρ1 hi
  refine lc S1 σ1 H1 ρ1 _ _ g1 hc fun b H2 st hb => ?_
  have g2 := g1.step st
  have fr2 : Fr S H S1 H2 := fr1.trans (st.fr g1)
  cases b with
  | false => exact q.nx _ _ _ _ g2 fr2 (hf hb)
  | true =>
    refine ⟨fun σ' H' => ∃ m', m' < m ∧ ∃ S' ρ', Gd G S' σ' H' ρ' ∧ Fr S H S' H' ∧ IV m' ρ', fun σ' H' ⟨m', h1, h2⟩ => ⟨m', h1, h2⟩, ?_⟩
    exact lb S1 σ1 H2 ρ1 _ _ g2 (ht hb) ⟨fun S4 σ4 H4 ρ4 g4 fr4 ⟨m', hm, hn⟩ => ⟨m', hm, S4, ρ4, g4, fr2.trans fr4, hn⟩, q.rt, fun S4 σ4 H4 ρ4 g4 fr4 hn => q.nx _ _ _ _ g4 (fr2.trans fr4) hn, fun S4 σ4 H4 ρ4 g4 fr4 ⟨m', hm, hn⟩ => ⟨m', hm, S4, ρ4, g4, fr2.trans fr4, hn⟩⟩
/-! ### membership -/
/-- data not in a list of data -/
def ninD : R2D
  | x, .lst ds, P => SeqAt.shaped (toP x) = true ∧ SeqAt.shaped (toP (.lst ds)) = true ∧ P (.bl (!(toPs ds).any fun z => PyData.eqv z (toP x)))
  | _, _, _ => False
theorem serves_ninD : Serves G (rNotInD G.X.K) ninD := by
  intro S σ ρ H x y dx dy P Q g hx hy h q
  cases dy with
  | lst ds =>
    obtain ⟨h1, h2, h3⟩ := (h : SeqAt.shaped (toP dx) = true ∧ SeqAt.shaped (toP (.lst ds)) = true ∧ P (.bl (!(toPs ds).any fun z => PyData.eqv z (toP dx))))
    have e : toP (.lst ds) = .list (toPs ds) := by rw [toP]
    refine ⟨toP dx, toPs ds, dp_of _ _ hx (SeqAt.canLay_of_shaped h1), ?_, h1, by rw [← e]; exact h2, q _ (.bl _) H (Stp.refl g.wld) rfl h3⟩
    rw [← e]
    exact dp_of _ _ hy (SeqAt.canLay_of_shaped h2)
  | _ => cases dx <;> exact h.elim
theorem dt_ninD (hu : G.X.A.units + 65 < cLine) (ha : DE G a Fa) (hb : DE G b Fb) (hm : behindInMarks .NotIn b = false := by rfl) : DT G (.Compare a [.NotIn] [b] pos) (fun ρ P => Fa ρ fun x => Fb ρ fun y => ninD x y fun z => isB z P) := dt_cmp (op_notInD hu) serves_ninD ha hb hm
end
end DL
namespace DL
open PySem PySem.Spec PyProof.Rows L2
section
variable {G : Ctx} {S : Addr → Prop} {σ : L2.St} {H H' : Hp} {ρ : List Slot} {pos : Pos} {a b c e : Expr} {Fa Fb Fc : FE}
end
end DL
namespace DL
open PySem PySem.Spec PyProof.Rows L2
section
variable {G : Ctx} {pos : Pos} {a b : Expr} {Fa Fb : FE}
theorem de_mulW (ha : DE G a Fa) (hb : DE G b Fb) : DE G (.BinOp a .Mult b pos) (fun ρ P => Fa ρ fun x => Fb ρ fun y => intD (fun i j => .int (i * j)) CMulW x y P) := de_bin op_mulW serves_I ha hb
theorem de_fdivW (ha : DE G a Fa) (hb : DE G b Fb) : DE G (.BinOp a .FloorDiv b pos) (fun ρ P => Fa ρ fun x => Fb ρ fun y => intD (fun i j => .int (i / j)) CDivW x y P) := de_bin op_fdivW serves_I ha hb
end
/-- within so many bits -/
def sml (i : Int) : Prop := i.natAbs < 2 ^ 240
theorem sml_mul {i j : Int} (hi : sml i) (hj : sml j) : CMulW i j := wide_mul hi hj (by decide) (by decide) (by decide)
theorem sml_div {i j : Int} (h : 0 < j) (hj : sml j) : CDivW i j := wide_div h hj (by decide) (by decide)
theorem sml_of {i : Int} (h : i.natAbs < 2 ^ 200) : sml i := Nat.lt_trans h (Nat.pow_lt_pow_right (by decide) (by decide))
/-! all numbers within are so -/
mutual
def SmV : Dat → Prop
  | .int i => sml i
  | .tup ds => SmVs ds
  | .lst ds => SmVs ds
  | _ => True
def SmVs : List Dat → Prop
  | [] => True
  | d :: ds => SmV d ∧ SmVs ds
end
theorem smVs_all : ∀ {ds : List Dat}, SmVs ds ↔ ∀ d ∈ ds, SmV d
  | [] => ⟨fun _ _ h => (List.not_mem_nil h).elim, fun _ => by rw [SmVs]; trivial⟩
  | d :: ds => by
    rw [SmVs, smVs_all]
    constructor
    · rintro ⟨h1, h2⟩ x hx
      rcases List.mem_cons.mp hx with rfl | hx
      · exact h1
      · exact h2 x hx
    · intro h
      exact ⟨h d List.mem_cons_self, fun x hx => h x (List.mem_cons_of_mem _ hx)⟩
theorem smV_tup {ds : List Dat} : SmV (.tup ds) ↔ ∀ d ∈ ds, SmV d := by rw [SmV, smVs_all]
theorem smV_lst {ds : List Dat} : SmV (.lst ds) ↔ ∀ d ∈ ds, SmV d := by rw [SmV, smVs_all]
end DL
namespace K01
open PySem PySem.Spec PyProof.Rows L2 DL
/-! ### values: the mirror -/
def ratB : Dat → Bool
  | .tup [.int _, .int _] => true
  | _ => false
def ratN : Dat → Int
  | .tup [.int a, .int _] => a
  | _ => 0
def ratD : Dat → Int
  | .tup [.int _, .int b] => b
  | _ => 1
def fracB : Dat → Bool
  | .tup [.int a, .int b] => decide (0 < b) && decide (Nat.gcd a.natAbs b.natAbs = 1)
  | _ => false
theorem frac_inv {d : Dat} (h : fracB d = true) : ∃ a b : Int, d = .tup [.int a, .int b] ∧ 0 < b ∧ Nat.gcd a.natAbs b.natAbs = 1 := by
  unfold fracB at h
  split at h
  · rename_i a b
    rw [Bool.and_eq_true, decide_eq_true_eq, decide_eq_true_eq] at h
    exact ⟨a, b, rfl, h.1, h.2⟩
  · cases h
theorem rat_inv {d : Dat} (h : ratB d = true) : ∃ a b : Int, d = .tup [.int a, .int b] := by
  unfold ratB at h
  split at h
  · exact ⟨_, _, rfl⟩
  · cases h
theorem frac_rat {d : Dat} (h : fracB d = true) : ratB d = true := by
  obtain ⟨a, b, rfl, _⟩ := frac_inv h
  rfl
def belowB (p q : Dat) : Bool := decide (ratN p * ratD q < ratN q * ratD p)
/-- the numbers of a pair are not too great -/
def smR (d : Dat) : Prop := sml (ratN d) ∧ sml (ratD d)
theorem smR_of {a b : Int} (h : SmV (.tup [.int a, .int b])) : smR (.tup [.int a, .int b]) := by
  have q := smV_tup.mp h
  exact ⟨q (.int a) (by simp), q (.int b) (by simp)⟩
theorem smR_frac {d : Dat} (h : SmV d) (hf : fracB d = true) : smR d := by
  obtain ⟨a, b, rfl, _⟩ := frac_inv hf
  exact smR_of h
def c_is_below : Con := conE (α := Dat × Dat) (fun x => [x.1, x.2]) (fun x => (ratB x.1 = true ∧ smR x.1) ∧ ratB x.2 = true ∧ smR x.2) fun x => .bl (belowB x.1 x.2)
def c_is_fraction : Con := con1 (fun _ => True) fun d => .bl (fracB d)
/-! a tree's parts, if it is one, at most so deep, in so much room -/
def foldT (g : Dat → Int → Option Nat) (room : Int) : Nat → List Dat → Option Nat
  | total, [] => some total
  | total, d :: ds => match g d (room - total) with
    | none => none
    | some s => foldT g room (total + s) ds
def tipN : List Dat → Option Nat
  | [x] => if fracB x = true then some 1 else none
  | _ => none
def nodN (g : Dat → Int → Option Nat) (room : Int) : List Dat → Option Nat
  | [x, y] => foldT g room 1 [x, y]
  | _ => none
def nodeT (g : Dat → Int → Option Nat) (d : Dat) (room : Int) : Option Nat := match d with
  | .tup (.str w :: r) => if w = "tip" then tipN r else if w = "node" then nodN g room r else none
  | _ => none
def tszV : Nat → Dat → Int → Option Nat
  | 0, _, _ => none
  | n + 1, d, room => if room < 1 then none else nodeT (tszV n) d room
theorem tsz_succ {n : Nat} {d : Dat} {room : Int} : tszV (n + 1) d room = if room < 1 then none else nodeT (tszV n) d room := rfl
theorem nodeT_no {g : Dat → Int → Option Nat} {d : Dat} {room : Int} (h : hasWord d = false) : nodeT g d room = none := by
  unfold nodeT
  split
  · cases h
  · rfl
def optI (o : Option Nat) : Dat := match o with
  | none => .non
  | some n => .int (n : Nat)
def c_tree_size (N : Nat) : Con := conE (α := Dat × Nat × Int) (fun x => [x.1, .int (x.2.1 : Nat), .int x.2.2]) (fun x => x.2.1 < N) fun x => optI (tszV x.2.1 x.1 x.2.2)
def okNext (l : Option Dat) (y : Dat) : Bool := match l with
  | none => true
  | some x => belowB x y
def risL : Option Dat → List Dat → Bool
  | _, [] => true
  | l, d :: ds => fracB d && okNext l d && risL (some d) ds
theorem risL_cons {l : Option Dat} {d : Dat} {ds : List Dat} : risL l (d :: ds) = (fracB d && okNext l d && risL (some d) ds) := by cases l <;> rfl
def risB (d : Dat) : Bool := match d with
  | .tup ds => risL none ds
  | _ => false
def wholeB (d : Dat) (k : Str) : Bool := match d with
  | .int i => decide (0 ≤ i) && (decide (k = "thing") || decide (i ≤ 15))
  | _ => false
def valB (d : Dat) (k : Str) : Bool := if k = "num" then fracB d else if k = "tree" then (tszV 40 d 600).isSome else if k = "set" then risB d else wholeB d k
def c_is_rising : Con := con1 SmV fun d => .bl (risB d)
section
variable {P : Program} {w : World} {K : PySem.W.Frag} {mg : Str → Option Value} {base : Heap} {f f2 : Addr} {fd fd2 : FuncData} {k : Nat}
abbrev s_is_below : Stmt := topS 5
theorem sc_is_below : FnScope ["one", "other"] ["one", "other"] (defScope s_is_below) := ⟨rfl, rfl, rfl, by decide +kernel, rfl, by decide +kernel, by decide +kernel⟩
-- calls [] consts []
theorem ok_is_below (F : Fun K "is_below" "is_below" s_is_below f fd) : FnOk P w K mg base CX0 (k + 1) f fd ["one", "other"] (spD K c_is_below) := by
  refine fn_pure F sc_is_below (fun ds P X ⟨d, e, _⟩ => by rw [e]; rfl) fun cdv A outer s H S hS hr => ?_
  have nd := sc_is_below.nd
  refine ⟨_, (db_one (ds_ret (de_lt (de_mulW (de_ix (de_var 0) de_int) (de_ix (de_var 1) de_int)) (de_mulW (de_ix (de_var 1) de_int) (de_ix (de_var 0) de_int))))), ?_⟩
  rintro ds R X ⟨⟨p, q⟩, rfl, ⟨⟨hp, hp2⟩, hq, hq2⟩, h⟩
  obtain ⟨a, b, rfl⟩ := rat_inv hp
  obtain ⟨c, d, rfl⟩ := rat_inv hq
  exact ⟨sml_mul hp2.1 hq2.2, sml_mul hq2.1 hp2.2, h⟩
abbrev s_is_fraction : Stmt := topS 19
theorem sc_is_fraction : FnScope ["thing", "over", "under"] ["thing"] (defScope s_is_fraction) := ⟨rfl, rfl, rfl, by decide +kernel, rfl, by decide +kernel, by decide +kernel⟩
-- calls [] consts []
theorem ok_is_fraction (B : Bt mg) (B_gcd : mg "gcd" = some (.builtin "math.gcd")) (F : Fun K "is_fraction" "is_fraction" s_is_fraction f fd) : FnOk P w K mg base CX0 (k + 1) f fd ["thing"] (spD K c_is_fraction) := by
  refine fn_pure F sc_is_fraction (fun ds P X ⟨d, e, _⟩ => by rw [e]; rfl) fun cdv A outer s H S hS hr => ?_
  have nd := sc_is_fraction.nd
  refine ⟨_, (db_cons (ds_ifc (dt_w (dw_or (dt_ntype (TT := "tuple") (he := (de_var 0)) (hm := B.type) (hmT := B.tuple) (hv := by decide +kernel) (hn := by decide) (hd := by decide)) (dw_or1 (dt_ne hr.units (de_len B.len (da_cons (de_var 0) da_nil)) de_int)))) (db_one (ds_ret de_bl)) db_nil) (db_cons (ds_asg (de_var 0) (dg_tup 2 rfl (dgs_cons (dg_name 1 nd) (dgs_cons (dg_name 2 nd) dgs_nil)))) (db_cons (ds_ifc (dt_w (dw_or (dt_ntype (TT := "int") (he := (de_var 1)) (hm := B.type) (hmT := B.int) (hv := by decide +kernel) (hn := by decide) (hd := by decide)) (dw_or1 (dt_ntype (TT := "int") (he := (de_var 2)) (hm := B.type) (hmT := B.int) (hv := by decide +kernel) (hn := by decide) (hd := by decide))))) (db_one (ds_ret de_bl)) db_nil) (db_one (ds_ret (de_and (de_gt (de_var 2) de_int) (de_one (de_eq hr.units (de_gcd B_gcd (da_cons (de_var 1) (da_cons (de_var 2) da_nil))) de_int)))))))), ?_⟩
  rintro ds R X ⟨d, rfl, _, h⟩
  replace h : R (.bl (fracB d)) := h
  refine ⟨fun b => (b = false → ∃ x y, d = .tup [x, y]) ∧ (b = true → fracB d = false), ?_, fun e => ?_, fun e => ?_⟩
  · ((try dsimp only); refine rd_here rfl ?_; (try dsimp only))
    cases d with
    | tup xs =>
      rw [if_neg (by simp [tyName])]
      ((try dsimp only); refine rd_here rfl ?_; (try dsimp only))
      rw [lenD_tup, neD_int, isB_bl]
      match xs with
      | [] => exact ⟨(fun z => by cases z), fun _ => rfl⟩
      | [x] => exact ⟨(fun z => by cases z), fun _ => by cases x <;> rfl⟩
      | [x, y] => exact ⟨fun _ => ⟨x, y, rfl⟩, (fun z => by cases z)⟩
      | x :: y :: z :: r => exact ⟨fun e => absurd e (by simp; omega), fun _ => by cases x <;> cases y <;> rfl⟩
    | _ =>
      rw [if_pos (by simp [tyName])]
      exact ⟨(fun z => by cases z), fun _ => rfl⟩
  · have q := e.2 rfl
    rw [q] at h
    exact h
  · obtain ⟨x, y, rfl⟩ := e.1 rfl
    ((try dsimp only); refine rd_here rfl ?_; (try dsimp only))
    simp only [tupD_tup, consD_cons]
    refine ⟨by simp, trivial, ?_⟩
    refine ⟨fun b => (b = false → ∃ i j, x = .int i ∧ y = .int j) ∧ (b = true → fracB (.tup [x, y]) = false), ?_, fun e => ?_, fun e => ?_⟩
    · ((try dsimp only); refine rd_here rfl ?_; (try dsimp only))
      cases x with
      | int i =>
        rw [if_neg (by simp [tyName])]
        ((try dsimp only); refine rd_here rfl ?_; (try dsimp only))
        cases y with
        | int j => exact ⟨fun _ => ⟨i, j, rfl, rfl⟩, fun z => absurd z (by simp [tyName])⟩
        | _ => exact ⟨fun z => absurd z (by simp [tyName]), fun _ => rfl⟩
      | _ =>
        rw [if_pos (by simp [tyName])]
        exact ⟨(fun z => by cases z), fun _ => by cases y <;> rfl⟩
    · have q := e.2 rfl
      rw [q] at h
      exact h
    · obtain ⟨i, j, rfl, rfl⟩ := e.1 rfl
      ((try dsimp only); refine rd_here rfl ?_; (try dsimp only))
      rw [int0_int, isB_bl]
      have ef : fracB (.tup [.int i, .int j]) = (decide (0 < j) && decide (Nat.gcd i.natAbs j.natAbs = 1)) := rfl
      rw [ef] at h
      by_cases hj : 0 < j
      · rw [decide_eq_true hj, if_pos rfl]
        rw [decide_eq_true hj, Bool.true_and] at h
        ((try dsimp only); refine rd_here rfl ?_; (try dsimp only))
        ((try dsimp only); refine rd_here rfl ?_; (try dsimp only))
        show eqD (.int ((Nat.gcd i.natAbs j.natAbs : Nat) : Int)) (.int 1) _
        rw [eqD_int]
        have e2 : decide (((Nat.gcd i.natAbs j.natAbs : Nat) : Int) = 1) = decide (Nat.gcd i.natAbs j.natAbs = 1) := decide_eq_decide.mpr (by omega)
        rw [e2]
        exact h
      · rw [decide_eq_false hj, if_neg (by decide)]
        rw [decide_eq_false hj, Bool.false_and] at h
        exact h
abbrev s_tree_size : Stmt := topS 17
theorem sc_tree_size : FnScope ["thing", "deep", "room", "total", "inner", "size"] ["thing", "deep", "room"] (defScope s_tree_size) := ⟨rfl, rfl, rfl, by decide +kernel, rfl, by decide +kernel, by decide +kernel⟩
-- calls ['has_word', 'is_fraction', 'tree_size'] consts []
theorem ok_tree_size {n : Nat} (B : Bt mg) (F_has_word : Callee P w K mg base "has_word" k ["thing"] c_has_word) (F_is_fraction : Callee P w K mg base "is_fraction" k ["thing"] c_is_fraction) (F_tree_size : Callee P w K mg base "tree_size" k ["thing", "deep", "room"] (c_tree_size n)) (F : Fun K "tree_size" "tree_size" s_tree_size f fd) : FnOk P w K mg base CX0 (k + 1) f fd ["thing", "deep", "room"] (spD K (c_tree_size (n + 1))) := by
  refine fn_pure F sc_tree_size (fun ds P X ⟨d, e, _⟩ => by rw [e]; rfl) fun cdv A outer s H S hS hr => ?_
  have nd := sc_tree_size.nd
  refine ⟨_, (db_cons (ds_ifc (dt_w (dw_or (dt_lt (de_var 1) de_int) (dw_or (dt_lt (de_var 2) de_int) (dw_or1 (dt_not (dt_val (de_fn F_has_word hr (da_cons (de_var 0) da_nil) (by omega)))))))) (db_one (ds_ret de_non)) db_nil) (db_cons (ds_ifc (dt_eq hr.units (de_ix (de_var 0) de_int) de_str) (db_one (ds_ret (de_if (dt_w (dw_and (dt_eq hr.units (de_len B.len (da_cons (de_var 0) da_nil)) de_int) (dw_and1 (dt_val (de_fn F_is_fraction hr (da_cons (de_ix (de_var 0) de_int) da_nil) (by omega)))))) de_int de_non))) db_nil) (db_cons (ds_ifc (dt_w (dw_or (dt_ne hr.units (de_ix (de_var 0) de_int) de_str) (dw_or1 (dt_ne hr.units (de_len B.len (da_cons (de_var 0) da_nil)) de_int)))) (db_one (ds_ret de_non)) db_nil) (db_cons (ds_set 3 de_int nd) (db_cons (ds_forI PassesOwn.never rfl (di_seq (de_sl (de_var 0) (do_some de_int) do_none)) (dg_name 4 nd) (db_cons (ds_set 5 (de_fn F_tree_size hr (da_cons (de_var 4) (da_cons (de_sub (de_var 1) de_int) (da_cons (de_sub (de_var 2) (de_var 3)) da_nil))) (by omega)) nd) (db_cons (ds_ifc (dt_isN (de_var 5)) (db_one (ds_ret de_non)) db_nil) (db_one (ds_augI 3 (de_var 5) nd))))) (db_one (ds_ret (de_var 3)))))))), ?_⟩
  rintro ds R X ⟨⟨d, m, room⟩, rfl, hm, h⟩
  dsimp only at hm h
  have z0 : room < 1 → tszV m d room = none := fun z => by
    cases m with
    | zero => rfl
    | succ m => rw [tsz_succ, if_pos z]
  refine ⟨fun b => (b = false → 1 ≤ m ∧ ¬ room < 1 ∧ ∃ w r, d = .tup (.str w :: r)) ∧ (b = true → tszV m d room = none), ?_, fun e => ?_, fun e => ?_⟩
  · ((try dsimp only); refine rd_here rfl ?_; (try dsimp only))
    rw [int0_int, isB_bl]
    by_cases h1 : ((m : Nat) : Int) < 1
    · rw [if_pos (decide_eq_true h1)]
      exact ⟨(fun z => by cases z), fun _ => by rw [show m = 0 by omega]; rfl⟩
    rw [if_neg (fun z => h1 (of_decide_eq_true z))]
    ((try dsimp only); refine rd_here rfl ?_; (try dsimp only))
    rw [int0_int, isB_bl]
    by_cases h2 : room < 1
    · rw [if_pos (decide_eq_true h2)]
      exact ⟨(fun z => by cases z), fun _ => z0 h2⟩
    rw [if_neg (fun z => h2 (of_decide_eq_true z))]
    ((try dsimp only); refine rd_here rfl ?_; (try dsimp only))
    refine con1_C.mpr ⟨trivial, ?_⟩
    rw [isB_bl]
    cases hw : hasWord d with
    | true =>
      refine ⟨fun _ => ⟨by omega, h2, ?_⟩, (fun z => by cases z)⟩
      unfold hasWord at hw
      split at hw
      · exact ⟨_, _, rfl⟩
      · cases hw
    | false =>
      refine ⟨(fun z => by cases z), fun _ => ?_⟩
      obtain ⟨m', rfl⟩ : ∃ m', m = m' + 1 := ⟨m - 1, by omega⟩
      rw [tsz_succ, if_neg h2, nodeT_no hw]
  · rw [e.2 rfl] at h
    exact h
  obtain ⟨hm1, hr1, w0, r, rfl⟩ := e.1 rfl
  obtain ⟨m', rfl⟩ : ∃ m', m = m' + 1 := ⟨m - 1, by omega⟩
  have et : tszV (m' + 1) (.tup (.str w0 :: r)) room = if w0 = "tip" then tipN r else if w0 = "node" then nodN (tszV m') room r else none := by rw [tsz_succ, if_neg hr1]; rfl
  rw [et] at h
  refine ⟨fun b => b = decide (w0 = "tip"), ?_, fun e => ?_, fun e => ?_⟩
  · ((try dsimp only); refine rd_here rfl ?_; (try dsimp only))
    rw [ixD_tup, at0, someD_some, eqD_str, isB_bl]
  · have e1 := of_decide_eq_true e.symm
    rw [if_pos e1] at h
    ((try dsimp only); refine rd_here rfl ?_; (try dsimp only))
    rw [lenD_tup, eqD_int, isB_bl]
    match r with
    | [] =>
      rw [if_neg (by simp)]
      exact h
    | [x] =>
      rw [if_pos (by simp)]
      ((try dsimp only); refine rd_here rfl ?_; (try dsimp only))
      rw [ixD_tup, at1, someD_some]
      refine con1_C.mpr ⟨trivial, ?_⟩
      rw [isB_bl]
      cases hx : fracB x with
      | true => rw [if_pos rfl]; rw [tipN, hx] at h; exact h
      | false => rw [if_neg (by decide)]; rw [tipN, hx] at h; exact h
    | x :: y :: r2 =>
      rw [if_neg (by simp; omega)]
      exact h
  have n1 : ¬ w0 = "tip" := of_decide_eq_false e.symm
  rw [if_neg n1] at h
  refine ⟨fun b => (b = false → w0 = "node" ∧ ∃ x y, r = [x, y]) ∧ (b = true → R .non), ?_, fun e => ?_, fun e => ?_⟩
  · ((try dsimp only); refine rd_here rfl ?_; (try dsimp only))
    rw [ixD_tup, at0, someD_some, neD_str, isB_bl]
    by_cases h1 : w0 = "node"
    · rw [if_neg (by simp [h1])]
      rw [if_pos h1] at h
      ((try dsimp only); refine rd_here rfl ?_; (try dsimp only))
      rw [lenD_tup, neD_int, isB_bl]
      match r with
      | [] => exact ⟨(fun z => by cases z), fun _ => h⟩
      | [x] => exact ⟨(fun z => by cases z), fun _ => h⟩
      | [x, y] => exact ⟨fun _ => ⟨h1, x, y, rfl⟩, (fun z => by cases z)⟩
      | x :: y :: z :: r2 => exact ⟨fun e => absurd e (by simp; omega), fun _ => h⟩
    · rw [if_pos (by simp [h1])]
      rw [if_neg h1] at h
      exact ⟨(fun z => by cases z), fun _ => h⟩
  · exact e.2 rfl
  obtain ⟨rfl, x, y, rfl⟩ := e.1 rfl
  rw [if_pos rfl, nodN] at h
  try dsimp only
  refine ⟨fun items ρ => ∃ (total : Nat) (a b : DL.Slot), foldT (tszV m') room 1 [x, y] = foldT (tszV m') room total items ∧ ρ = [.d (.tup [.str "node", x, y]), .d (.int ((m' + 1 : Nat) : Int)), .d (.int room), .d (.int (total : Nat)), a, b], ?_, ?_, ?_⟩
  · ((try dsimp only); refine rd_here rfl ?_; (try dsimp only))
    rw [isI_int, slD_tup, seqOf_tup]
    rw [show cutG [Dat.str "node", x, y] (some 1) none = [x, y] from rfl]
    exact ⟨1, .un, .un, rfl, rfl⟩
  · rintro ρ ⟨total, a, b, e1, rfl⟩
    rw [e1] at h
    exact rd_here rfl h
  · rintro d ds ρ ⟨total, a, b, e1, rfl⟩
    replace e1 := e1.trans (show foldT (tszV m') room total (d :: ds) = _ from by rw [foldT])
    ((try dsimp only); refine rd_here rfl ?_; (try dsimp only))
    ((try dsimp only); refine rd_here rfl ?_; (try dsimp only))
    rw [int0_int]
    ((try dsimp only); refine rd_here rfl ?_; (try dsimp only))
    ((try dsimp only); refine rd_here rfl ?_; (try dsimp only))
    rw [int0_int]
    refine ⟨(d, m', room - (total : Nat)), ?_, show m' < n by omega, ?_⟩
    · exact congrArg (fun z : Int => [d, Dat.int z, Dat.int (room - (total : Nat))]) (show ((m' + 1 : Nat) : Int) - 1 = (m' : Nat) by omega)
    · dsimp only
      cases hs : tszV m' d (room - (total : Nat)) with
      | none =>
        rw [hs] at e1
        rw [e1] at h
        refine ⟨(· = true), ?_, fun _ => ?_, fun e => (by cases e)⟩
        · ((try dsimp only); refine rd_here rfl ?_; (try dsimp only))
          rfl
        · exact h
      | some sz =>
        rw [hs] at e1
        refine ⟨(· = false), ?_, fun e => (by cases e), fun _ => ?_⟩
        · ((try dsimp only); refine rd_here rfl ?_; (try dsimp only))
          rfl
        · ((try dsimp only); refine rd_here rfl ?_; (try dsimp only))
          ((try dsimp only); refine rd_here rfl ?_; (try dsimp only))
          rw [show optI (some sz) = Dat.int ((sz : Nat) : Int) from rfl, int0_int]
          exact ⟨total + sz, _, _, e1, rfl⟩
end
end K01
namespace K01
open PySem PySem.Spec PyProof.Rows L2 DL
def optD (o : Option Dat) : Dat := match o with
  | none => .non
  | some d => d
section
variable {P : Program} {w : World} {K : PySem.W.Frag} {mg : Str → Option Value} {base : Heap} {f f2 : Addr} {fd fd2 : FuncData} {k : Nat}
abbrev s_is_rising : Stmt := topS 18
theorem sc_is_rising : FnScope ["thing", "last", "item"] ["thing"] (defScope s_is_rising) := ⟨rfl, rfl, rfl, by decide +kernel, rfl, by decide +kernel, by decide +kernel⟩
-- calls ['is_below', 'is_fraction'] consts []
theorem ok_is_rising (B : Bt mg) (F_is_fraction : Callee P w K mg base "is_fraction" k ["thing"] c_is_fraction) (F_is_below : Callee P w K mg base "is_below" k ["one", "other"] c_is_below) (F : Fun K "is_rising" "is_rising" s_is_rising f fd) : FnOk P w K mg base CX0 (k + 1) f fd ["thing"] (spD K c_is_rising) := by
  refine fn_pure F sc_is_rising (fun ds P X ⟨d, e, _⟩ => by rw [e]; rfl) fun cdv A outer s H S hS hr => ?_
  have nd := sc_is_rising.nd
  refine ⟨_, (db_cons (ds_ifc (dt_ntype (TT := "tuple") (he := (de_var 0)) (hm := B.type) (hmT := B.tuple) (hv := by decide +kernel) (hn := by decide) (hd := by decide)) (db_one (ds_ret de_bl)) db_nil) (db_cons (ds_set 1 de_non nd) (db_cons (ds_forI PassesOwn.never rfl (di_seq (de_var 0)) (dg_name 2 nd) (db_cons (ds_ifc (dt_w (dw_or (dt_not (dt_val (de_fn F_is_fraction hr (da_cons (de_var 2) da_nil) (by omega)))) (dw_or1 (dt_w (dw_and (dt_notN (de_var 1)) (dw_and1 (dt_not (dt_val (de_fn F_is_below hr (da_cons (de_var 1) (da_cons (de_var 2) da_nil)) (by omega)))))))))) (db_one (ds_ret de_bl)) db_nil) (db_one (ds_set 1 (de_var 2) nd)))) (db_one (ds_ret de_bl))))), ?_⟩
  rintro ds R X ⟨d, rfl, hsm, h⟩
  replace h : R (.bl (risB d)) := h
  refine ⟨fun b => (b = false → ∃ xs, d = .tup xs) ∧ (b = true → risB d = false), ?_, fun e => ?_, fun e => ?_⟩
  · ((try dsimp only); refine rd_here rfl ?_; (try dsimp only))
    cases d with
    | tup xs => exact ⟨fun _ => ⟨xs, rfl⟩, fun e => absurd e (by simp [tyName])⟩
    | _ => exact ⟨fun e => absurd e (by simp [tyName]), fun _ => rfl⟩
  · rw [e.2 rfl] at h
    exact h
  obtain ⟨xs, rfl⟩ := e.1 rfl
  try dsimp only
  refine ⟨fun items ρ => ∃ (l : Option Dat) (a : DL.Slot), ρ = [.d (.tup xs), .d (optD l), a] ∧ risL none xs = risL l items ∧ (∀ p, l = some p → fracB p = true ∧ SmV p) ∧ ∀ y ∈ items, SmV y, ?_, ?_, ?_⟩
  · ((try dsimp only); refine rd_here rfl ?_; (try dsimp only))
    rw [seqOf_tup]
    exact ⟨none, .un, rfl, rfl, (fun p e => by cases e), smV_tup.mp hsm⟩
  · rintro ρ ⟨l, a, rfl, e1, _, _⟩
    replace h : R (.bl (risL none xs)) := h
    rw [e1] at h
    exact h
  rintro y ys ρ ⟨l, a, rfl, e1, hl, hy⟩
  have sy := hy y List.mem_cons_self
  have hys : ∀ z ∈ ys, SmV z := fun z hz => hy z (List.mem_cons_of_mem _ hz)
  replace h : R (.bl (risL none xs)) := h
  rw [show risL l (y :: ys) = _ from risL_cons] at e1
  refine ⟨fun b => (b = false → fracB y = true ∧ risL none xs = risL (some y) ys) ∧ (b = true → risL none xs = false), ?_, fun e => ?_, fun e => ?_⟩
  · ((try dsimp only); refine rd_here rfl ?_; (try dsimp only))
    refine con1_C.mpr ⟨trivial, ?_⟩
    rw [isB_bl]
    cases hf : fracB y with
    | false =>
      rw [if_pos (by decide)]
      rw [hf, Bool.false_and, Bool.false_and] at e1
      exact ⟨(fun z => by cases z), fun _ => e1⟩
    | true =>
      rw [if_neg (by decide)]
      rw [hf, Bool.true_and] at e1
      ((try dsimp only); refine rd_here rfl ?_; (try dsimp only))
      cases l with
      | none =>
        refine ⟨fun _ => ⟨rfl, ?_⟩, (fun z => by cases z)⟩
        rw [e1]
        rfl
      | some x =>
        obtain ⟨hx, sx⟩ := hl x rfl
        have nx : isN x = false := by obtain ⟨a, b, rfl, _⟩ := frac_inv hx; rfl
        rw [show optD (some x) = x from rfl, nx]
        rw [if_pos (by decide)]
        ((try dsimp only); refine rd_here rfl ?_; (try dsimp only))
        ((try dsimp only); refine rd_here rfl ?_; (try dsimp only))
        refine conE_use (args := fun x : Dat × Dat => [x.1, x.2]) (x, y) ⟨⟨frac_rat hx, smR_frac sx hx⟩, frac_rat hf, smR_frac sy hf⟩ ?_
        dsimp only
        rw [isB_bl]
        rw [show okNext (some x) y = belowB x y from rfl] at e1
        cases hb : belowB x y with
        | true =>
          rw [hb, Bool.true_and] at e1
          exact ⟨fun _ => ⟨rfl, e1⟩, (fun z => by cases z)⟩
        | false =>
          rw [hb, Bool.false_and] at e1
          exact ⟨(fun z => by cases z), fun _ => e1⟩
  · rw [e.2 rfl] at h
    exact h
  obtain ⟨hf, e2⟩ := e.1 rfl
  ((try dsimp only); refine rd_here rfl ?_; (try dsimp only))
  exact ⟨some y, _, rfl, e2, (fun p e => by cases e; exact ⟨hf, sy⟩), hys⟩
def valD (d s : Dat) : Bool := if isSort s = true then valB d (strOr s) else false
def c_is_valueD : Con := conE (α := Dat × Dat) (fun x => [x.1, x.2]) (fun x => SmV x.1) fun x => .bl (valD x.1 x.2)
abbrev s_is_value : Stmt := topS 20
theorem sc_is_value : FnScope ["thing", "sort"] ["thing", "sort"] (defScope s_is_value) := ⟨rfl, rfl, rfl, by decide +kernel, rfl, by decide +kernel, by decide +kernel⟩
-- calls ['is_sort', 'is_fraction', 'tree_size', 'is_rising'] consts ['TREE_PARTS', 'TREE_DEEP', 'MOST_BITS']
theorem ok_is_value (B : Bt mg) (F_is_sort : Callee P w K mg base "is_sort" k ["thing"] c_is_sort) (F_is_fraction : Callee P w K mg base "is_fraction" k ["thing"] c_is_fraction) (F_tree_size : Callee P w K mg base "tree_size" k ["thing", "deep", "room"] (c_tree_size 41)) (F_is_rising : Callee P w K mg base "is_rising" k ["thing"] c_is_rising) (C_TREE_DEEP : CI mg "TREE_DEEP" 40) (C_TREE_PARTS : CI mg "TREE_PARTS" 600) (C_MOST_BITS : CI mg "MOST_BITS" 15) (F : Fun K "is_value" "is_value" s_is_value f fd) : FnOk P w K mg base CX0 (k + 1) f fd ["thing", "sort"] (spD K c_is_valueD) := by
  refine fn_pure F sc_is_value (fun ds P X ⟨d, e, _⟩ => by rw [e]; rfl) fun cdv A outer s H S hS hr => ?_
  have nd := sc_is_value.nd
  refine ⟨_, (db_cons (ds_ifc (dt_not (dt_val (de_fn F_is_sort hr (da_cons (de_var 1) da_nil) (by omega)))) (db_one (ds_ret de_bl)) db_nil) (db_cons (ds_ifc (dt_eq hr.units (de_var 1) de_str) (db_one (ds_ret (de_fn F_is_fraction hr (da_cons (de_var 0) da_nil) (by omega)))) db_nil) (db_cons (ds_ifc (dt_eq hr.units (de_var 1) de_str) (db_one (ds_ret (de_notN (de_fn F_tree_size hr (da_cons (de_var 0) (da_cons (de_ci C_TREE_DEEP) (da_cons (de_ci C_TREE_PARTS) da_nil))) (by omega))))) db_nil) (db_cons (ds_ifc (dt_eq hr.units (de_var 1) de_str) (db_one (ds_ret (de_fn F_is_rising hr (da_cons (de_var 0) da_nil) (by omega)))) db_nil) (db_one (ds_ret (de_and (de_type (TT := "int") (he := (de_var 0)) (hm := B.type) (hmT := B.int) (hv := by decide +kernel) (hn := by decide) (hd := by decide)) (de_and (de_ge (de_var 0) de_int) (de_one (de_or (de_eq hr.units (de_var 1) de_str) (de_one (de_le (de_var 0) (de_ci C_MOST_BITS))))))))))))), ?_⟩
  rintro ds R X ⟨⟨d, s⟩, rfl, hsm, h⟩
  replace h : R (.bl (valD d s)) := h
  replace hsm : SmV d := hsm
  cases hso : isSort s with
  | false =>
    refine ⟨(· = true), ?_, fun _ => ?_, fun e => (by cases e)⟩
    · ((try dsimp only); refine rd_here rfl ?_; (try dsimp only))
      refine con1_C.mpr ⟨trivial, ?_⟩
      rw [show isSort s = false from hso]
      rfl
    · rw [valD, hso] at h
      exact h
  | true =>
  obtain ⟨z, rfl⟩ : ∃ z, s = .str z := by cases s <;> first | exact ⟨_, rfl⟩ | cases hso
  have hz : z ∈ sorts := of_decide_eq_true hso
  replace h : R (.bl (valB d z)) := by rw [valD, hso] at h; exact h
  try dsimp only
  refine ⟨(· = false), ?_, fun e => (by cases e), fun _ => ?_⟩
  · ((try dsimp only); refine rd_here rfl ?_; (try dsimp only))
    refine con1_C.mpr ⟨trivial, ?_⟩
    rw [show isSort (.str z) = true from decide_eq_true hz]
    rfl
  try dsimp only
  rw [valB] at h
  refine ⟨(· = decide (z = "num")), ?_, fun e => ?_, fun e => ?_⟩
  · ((try dsimp only); refine rd_here rfl ?_; (try dsimp only))
    rw [eqD_str, isB_bl]
  · rw [if_pos (of_decide_eq_true e.symm)] at h
    ((try dsimp only); refine rd_here rfl ?_; (try dsimp only))
    exact con1_C.mpr ⟨trivial, h⟩
  rw [if_neg (of_decide_eq_false e.symm)] at h
  refine ⟨(· = decide (z = "tree")), ?_, fun e => ?_, fun e => ?_⟩
  · ((try dsimp only); refine rd_here rfl ?_; (try dsimp only))
    rw [eqD_str, isB_bl]
  · rw [if_pos (of_decide_eq_true e.symm)] at h
    ((try dsimp only); refine rd_here rfl ?_; (try dsimp only))
    refine conE_use (args := fun x : Dat × Nat × Int => [x.1, Dat.int (x.2.1 : Nat), Dat.int x.2.2]) (d, 40, 600) (show 40 < 41 by decide) ?_
    dsimp only
    cases ht : tszV 40 d 600 with
    | none => rw [ht] at h; exact h
    | some n => rw [ht] at h; exact h
  rw [if_neg (of_decide_eq_false e.symm)] at h
  refine ⟨(· = decide (z = "set")), ?_, fun e => ?_, fun e => ?_⟩
  · ((try dsimp only); refine rd_here rfl ?_; (try dsimp only))
    rw [eqD_str, isB_bl]
  · rw [if_pos (of_decide_eq_true e.symm)] at h
    ((try dsimp only); refine rd_here rfl ?_; (try dsimp only))
    exact con1_C.mpr ⟨hsm, h⟩
  rw [if_neg (of_decide_eq_false e.symm)] at h
  ((try dsimp only); refine rd_here rfl ?_; (try dsimp only))
  cases d with
  | int i =>
    rw [show tyName (.int i) = "int" from rfl, isB_bl, if_pos (by decide)]
    rw [show wholeB (.int i) z = (decide (0 ≤ i) && (decide (z = "thing") || decide (i ≤ 15))) from rfl] at h
    ((try dsimp only); refine rd_here rfl ?_; (try dsimp only))
    rw [int0_int, isB_bl]
    cases h0 : decide (0 ≤ i) with
    | false =>
      rw [h0, Bool.false_and] at h
      rw [if_neg (by decide)]
      exact h
    | true =>
      rw [h0, Bool.true_and] at h
      rw [if_pos rfl]
      ((try dsimp only); refine rd_here rfl ?_; (try dsimp only))
      rw [eqD_str, isB_bl]
      cases h1 : decide (z = "thing") with
      | true =>
        rw [h1, Bool.true_or] at h
        rw [if_pos rfl]
        exact h
      | false =>
        rw [h1, Bool.false_or] at h
        rw [if_neg (by decide)]
        ((try dsimp only); refine rd_here rfl ?_; (try dsimp only))
        rw [int0_int]
        exact h
  | _ =>
    rw [isB_bl, if_neg (by simp [tyName])]
    exact h
end
end K01
namespace K01
open PySem PySem.Spec PyProof.Rows L2 DL
/-! ### fractions in order -/
theorem below_iff {a b c d : Int} : belowB (.tup [.int a, .int b]) (.tup [.int c, .int d]) = decide (a * d < c * b) := rfl
theorem below_trans {x y z : Dat} (hx : fracB x = true) (hy : fracB y = true) (hz : fracB z = true) (h1 : belowB x y = true) (h2 : belowB y z = true) : belowB x z = true := by
  obtain ⟨a, b, rfl, hb, _⟩ := frac_inv hx
  obtain ⟨c, d, rfl, hd, _⟩ := frac_inv hy
  obtain ⟨e, f, rfl, hf, _⟩ := frac_inv hz
  rw [below_iff, decide_eq_true_eq] at h1 h2 ⊢
  have q1 : a * d * f < c * b * f := Int.mul_lt_mul_of_pos_right h1 hf
  have q2 : c * f * b < e * d * b := Int.mul_lt_mul_of_pos_right h2 hb
  have e1 : c * b * f = c * f * b := by rw [Int.mul_assoc, Int.mul_comm b f, ← Int.mul_assoc]
  have q3 : a * d * f < e * d * b := by omega
  have e2 : a * d * f = a * f * d := by rw [Int.mul_assoc, Int.mul_comm d f, ← Int.mul_assoc]
  have e3 : e * d * b = e * b * d := by rw [Int.mul_assoc, Int.mul_comm d b, ← Int.mul_assoc]
  rw [e2, e3] at q3
  exact Int.lt_of_mul_lt_mul_right q3 (by omega)
theorem below_tri {x y : Dat} (hx : fracB x = true) (hy : fracB y = true) (h1 : belowB x y = false) (h2 : belowB y x = false) : x = y := by
  obtain ⟨a, b, rfl, hb, gb⟩ := frac_inv hx
  obtain ⟨c, d, rfl, hd, gd⟩ := frac_inv hy
  rw [below_iff, decide_eq_false_iff_not] at h1 h2
  have e : a * d = c * b := by omega
  have en : a.natAbs * d.natAbs = c.natAbs * b.natAbs := by rw [← Int.natAbs_mul, ← Int.natAbs_mul, e]
  have c1 : Nat.Coprime b.natAbs a.natAbs := by rw [Nat.Coprime, Nat.gcd_comm]; exact gb
  have c2 : Nat.Coprime d.natAbs c.natAbs := by rw [Nat.Coprime, Nat.gcd_comm]; exact gd
  have d1 : b.natAbs ∣ d.natAbs := c1.dvd_of_dvd_mul_left ⟨c.natAbs, by rw [en, Nat.mul_comm]⟩
  have d2 : d.natAbs ∣ b.natAbs := c2.dvd_of_dvd_mul_left ⟨a.natAbs, by rw [← en, Nat.mul_comm]⟩
  have ebd : b = d := by
    have := Nat.dvd_antisymm d1 d2
    omega
  subst ebd
  have : a = c := Int.eq_of_mul_eq_mul_right (by omega) e
  rw [this]
theorem eqv_frac {x y : Dat} (hx : ratB x = true) (hy : ratB y = true) : PyData.eqv (toP x) (toP y) = true ↔ x = y := by
  obtain ⟨a, b, rfl⟩ := rat_inv hx
  obtain ⟨c, d, rfl⟩ := rat_inv hy
  have e : PyData.eqv (toP (.tup [.int a, .int b])) (toP (.tup [.int c, .int d])) = (decide (a = c) && (decide (b = d) && true)) := by
    have ei : ∀ i j : Int, PyData.eqv (toP (.int i)) (toP (.int j)) = decide (i = j) := fun i j => by simp [toP, PyData.eqv]; rfl
    rw [← ei a c, ← ei b d]
    rfl
  rw [e]
  simp
theorem rat_lay {x : Dat} (h : ratB x = true) : Lay x ∧ (toP x).depth ≤ 3 := by
  obtain ⟨a, b, rfl⟩ := rat_inv h
  refine ⟨lay_tup.mpr fun d hd => ?_, ?_⟩
  · simp only [List.mem_cons, List.not_mem_nil, or_false] at hd
    rcases hd with rfl | rfl <;> rfl
  · simp [toP, toPs, PyData.depth, PyData.depthAll]
theorem rats_shapedL {xs : List Dat} (h : ∀ x ∈ xs, ratB x = true) : SeqAt.shaped (toP (.lst xs)) = true := by
  refine shaped_of (lay_lst.mpr fun d hd => (rat_lay (h d hd)).1) ?_
  have q := depths_le (m := 3) fun x hx => (rat_lay (h x hx)).2
  rw [toP, PyData.depth]
  omega
theorem rat_shaped {x : Dat} (h : ratB x = true) : SeqAt.shaped (toP x) = true := shaped_of (rat_lay h).1 (by have := (rat_lay h).2; omega)
/-! ### put in order, each once -/
def hasR (found : List Dat) (p : Dat) : Bool := (toPs found).any fun z => PyData.eqv z (toP p)
def risIns (found : List Dat) (p : Dat) : List Dat := if hasR found p then found else found.take (found.filter (belowB · p)).length ++ [p] ++ found.drop (found.filter (belowB · p)).length
def risF (ds : List Dat) : List Dat := ds.foldl risIns []
def Fr (ds : List Dat) : Prop := ∀ d ∈ ds, fracB d = true
def Pw (ds : List Dat) : Prop := ds.Pairwise fun x y => belowB x y = true
theorem fr_rat {ds : List Dat} (h : Fr ds) : ∀ d ∈ ds, ratB d = true := fun d hd => frac_rat (h d hd)
theorem hasR_iff : ∀ {ds : List Dat} {p : Dat}, Fr ds → fracB p = true → (hasR ds p = true ↔ p ∈ ds)
  | [], _, _, _ => ⟨(fun h => by cases h), fun h => (List.not_mem_nil h).elim⟩
  | d :: ds, p, h, hp => by
    show (PyData.eqv (toP d) (toP p) || hasR ds p) = true ↔ _
    rw [Bool.or_eq_true, eqv_frac (frac_rat (h d List.mem_cons_self)) (frac_rat hp), hasR_iff (fun z hz => h z (List.mem_cons_of_mem _ hz)) hp, List.mem_cons]
    exact ⟨fun h => h.imp (fun e => e.symm) id, fun h => h.imp (fun e => e.symm) id⟩
def insR (p : Dat) : List Dat → List Dat
  | [] => [p]
  | q :: l => if belowB q p then q :: insR p l else p :: q :: l
theorem ins_eq : ∀ {ds : List Dat} {p : Dat}, Fr ds → Pw ds → fracB p = true → ds.take (ds.filter (belowB · p)).length ++ [p] ++ ds.drop (ds.filter (belowB · p)).length = insR p ds
  | [], _, _, _, _ => rfl
  | q :: l, p, hf, hw, hp => by
    have hl : Fr l := fun z hz => hf z (List.mem_cons_of_mem _ hz)
    have hq := hf q List.mem_cons_self
    obtain ⟨w1, w2⟩ := List.pairwise_cons.mp hw
    rw [insR]
    cases hb : belowB q p with
    | true =>
      rw [List.filter_cons_of_pos (by rw [hb]), if_pos rfl, ← ins_eq hl w2 hp]
      rfl
    | false =>
      rw [List.filter_cons_of_neg (by rw [hb]; decide), if_neg (by decide)]
      have e : l.filter (belowB · p) = [] := List.filter_eq_nil_iff.mpr fun z hz c => by
        have := below_trans hq (hl z hz) hp (w1 z hz) c
        rw [hb] at this
        cases this
      rw [e]
      rfl
theorem insR_mem {p : Dat} : ∀ {ds : List Dat} {x : Dat}, x ∈ insR p ds → x = p ∨ x ∈ ds
  | [], x, h => .inl (List.mem_singleton.mp h)
  | q :: l, x, h => by
    rw [insR] at h
    split at h
    · rcases List.mem_cons.mp h with e | e
      · exact .inr (by rw [e]; exact List.mem_cons_self)
      · exact (insR_mem e).imp id (List.mem_cons_of_mem _)
    · exact List.mem_cons.mp h
theorem insR_pw : ∀ {ds : List Dat} {p : Dat}, Fr ds → Pw ds → fracB p = true → ¬ p ∈ ds → Pw (insR p ds)
  | [], p, _, _, _, _ => List.pairwise_singleton _ _
  | q :: l, p, hf, hw, hp, hn => by
    have hl : Fr l := fun z hz => hf z (List.mem_cons_of_mem _ hz)
    have hq := hf q List.mem_cons_self
    obtain ⟨w1, w2⟩ := List.pairwise_cons.mp hw
    rw [insR]
    cases hb : belowB q p with
    | true =>
      rw [if_pos rfl]
      refine List.pairwise_cons.mpr ⟨fun z hz => ?_, insR_pw hl w2 hp fun c => hn (List.mem_cons_of_mem _ c)⟩
      rcases insR_mem hz with rfl | e
      · exact hb
      · exact w1 z e
    | false =>
      rw [if_neg (by decide)]
      have hpq : belowB p q = true := by
        cases c : belowB p q with
        | true => rfl
        | false => exact (hn (by rw [below_tri hp hq c hb]; exact List.mem_cons_self)).elim
      refine List.pairwise_cons.mpr ⟨fun z hz => ?_, hw⟩
      rcases List.mem_cons.mp hz with rfl | e
      · exact hpq
      · exact below_trans hp hq (hl z e) hpq (w1 z e)
theorem risIns_ok {ds : List Dat} {p : Dat} (hf : Fr ds) (hw : Pw ds) (hp : fracB p = true) : Fr (risIns ds p) ∧ Pw (risIns ds p) ∧ ∀ x ∈ risIns ds p, x = p ∨ x ∈ ds := by
  unfold risIns
  cases c : hasR ds p with
  | true => rw [if_pos rfl]; exact ⟨hf, hw, fun x hx => .inr hx⟩
  | false =>
    rw [if_neg (by decide), ins_eq hf hw hp]
    have hn : ¬ p ∈ ds := fun e => by rw [(hasR_iff hf hp).mpr e] at c; cases c
    refine ⟨fun x hx => ?_, insR_pw hf hw hp hn, fun x => insR_mem⟩
    rcases insR_mem hx with rfl | e
    · exact hp
    · exact hf x e
theorem fold_ok : ∀ {ds acc : List Dat}, Fr acc → Pw acc → Fr ds → Fr (ds.foldl risIns acc) ∧ Pw (ds.foldl risIns acc) ∧ ∀ x ∈ ds.foldl risIns acc, x ∈ ds ∨ x ∈ acc
  | [], acc, h1, h2, _ => ⟨h1, h2, fun x hx => .inr hx⟩
  | d :: ds, acc, h1, h2, h3 => by
    obtain ⟨a, b, c⟩ := risIns_ok h1 h2 (h3 d List.mem_cons_self)
    obtain ⟨a2, b2, c2⟩ := fold_ok a b fun x hx => h3 x (List.mem_cons_of_mem _ hx)
    refine ⟨a2, b2, fun x hx => ?_⟩
    rcases c2 x hx with e | e
    · exact .inl (List.mem_cons_of_mem _ e)
    · rcases c x e with rfl | e
      · exact .inl List.mem_cons_self
      · exact .inr e
theorem risF_ok {ds : List Dat} (h : Fr ds) : Fr (risF ds) ∧ Pw (risF ds) ∧ ∀ x ∈ risF ds, x ∈ ds := by
  obtain ⟨a, b, c⟩ := fold_ok (ds := ds) (acc := []) (fun _ h => (List.not_mem_nil h).elim) List.Pairwise.nil h
  exact ⟨a, b, fun x hx => (c x hx).elim id fun e => (List.not_mem_nil e).elim⟩
theorem risIns_len {ds : List Dat} {p : Dat} : (risIns ds p).length ≤ ds.length + 1 := by
  unfold risIns
  split
  · omega
  · simp only [List.length_append, List.length_take, List.length_drop, List.length_singleton]
    omega
theorem fold_len : ∀ {ds acc : List Dat}, (ds.foldl risIns acc).length ≤ acc.length + ds.length
  | [], acc => by simp
  | d :: ds, acc => by
    have a := risIns_len (ds := acc) (p := d)
    have b := fold_len (ds := ds) (acc := risIns acc d)
    rw [List.foldl_cons, List.length_cons]
    omega
theorem risF_len {ds : List Dat} : (risF ds).length ≤ ds.length := by
  have := fold_len (ds := ds) (acc := [])
  simpa [risF] using this
/-! ### the program's way -/
theorem risL_some : ∀ {ds : List Dat} {x : Dat}, fracB x = true → (risL (some x) ds = true ↔ Fr ds ∧ Pw (x :: ds))
  | [], x, _ => ⟨fun _ => ⟨fun _ h => (List.not_mem_nil h).elim, List.pairwise_singleton _ _⟩, fun _ => rfl⟩
  | d :: ds, x, hx => by
    rw [risL_cons, Bool.and_eq_true, Bool.and_eq_true]
    constructor
    · rintro ⟨⟨hd, hb⟩, hr⟩
      obtain ⟨hf, hw⟩ := (risL_some hd).mp hr
      have hfd : Fr (d :: ds) := fun z hz => by
        rcases List.mem_cons.mp hz with rfl | e
        · exact hd
        · exact hf z e
      refine ⟨hfd, List.pairwise_cons.mpr ⟨fun z hz => ?_, hw⟩⟩
      rcases List.mem_cons.mp hz with rfl | e
      · exact hb
      · exact below_trans hx hd (hf z e) hb ((List.pairwise_cons.mp hw).1 z e)
    · rintro ⟨hf, hw⟩
      obtain ⟨w1, w2⟩ := List.pairwise_cons.mp hw
      have hd := hf d List.mem_cons_self
      exact ⟨⟨hd, w1 d List.mem_cons_self⟩, (risL_some hd).mpr ⟨fun z hz => hf z (List.mem_cons_of_mem _ hz), w2⟩⟩
theorem risL_none {ds : List Dat} : risL none ds = true ↔ Fr ds ∧ Pw ds := by
  cases ds with
  | nil => exact ⟨fun _ => ⟨fun _ h => (List.not_mem_nil h).elim, List.Pairwise.nil⟩, fun _ => rfl⟩
  | cons d ds =>
    rw [risL_cons, Bool.and_eq_true, Bool.and_eq_true]
    constructor
    · rintro ⟨⟨hd, _⟩, hr⟩
      obtain ⟨hf, hw⟩ := (risL_some hd).mp hr
      exact ⟨fun z hz => by
        rcases List.mem_cons.mp hz with rfl | e
        · exact hd
        · exact hf z e, hw⟩
    · rintro ⟨hf, hw⟩
      have hd := hf d List.mem_cons_self
      exact ⟨⟨hd, rfl⟩, (risL_some hd).mpr ⟨fun z hz => hf z (List.mem_cons_of_mem _ hz), hw⟩⟩
/-! ### lowest terms -/
def lowF (h l : Int) : Dat := .tup [.int (h / (Nat.gcd h.natAbs l.natAbs : Nat)), .int (l / (Nat.gcd h.natAbs l.natAbs : Nat))]
theorem low_frac {h l : Int} (hl : 0 < l) : fracB (lowF h l) = true := by
  have g0 : 0 < Nat.gcd h.natAbs l.natAbs := Nat.gcd_pos_of_pos_right _ (by omega)
  obtain ⟨a, ea⟩ := Int.natAbs_dvd_natAbs.mp (show ((Nat.gcd h.natAbs l.natAbs : Nat) : Int).natAbs ∣ h.natAbs from Nat.gcd_dvd_left _ _)
  obtain ⟨b, eb⟩ := Int.natAbs_dvd_natAbs.mp (show ((Nat.gcd h.natAbs l.natAbs : Nat) : Int).natAbs ∣ l.natAbs from Nat.gcd_dvd_right _ _)
  generalize hg : Nat.gcd h.natAbs l.natAbs = g at *
  have e1 : h / (g : Int) = a := by rw [ea]; exact Int.mul_ediv_cancel_left _ (by omega)
  have e2 : l / (g : Int) = b := by rw [eb]; exact Int.mul_ediv_cancel_left _ (by omega)
  show fracB (.tup [.int (h / (Nat.gcd h.natAbs l.natAbs : Nat)), .int (l / (Nat.gcd h.natAbs l.natAbs : Nat))]) = true
  rw [hg, e1, e2]
  show (decide (0 < b) && decide (Nat.gcd a.natAbs b.natAbs = 1)) = true
  have hb : 0 < b := by
    by_cases c : 0 < b
    · exact c
    · have := Int.mul_nonpos_of_nonneg_of_nonpos (a := (g : Int)) (b := b) (by omega) (by omega)
      omega
  have hc : Nat.gcd a.natAbs b.natAbs = 1 := by
    have q : Nat.gcd h.natAbs l.natAbs = g * Nat.gcd a.natAbs b.natAbs := by
      conv => lhs; rw [ea, eb, Int.natAbs_mul, Int.natAbs_mul, Int.natAbs_natCast]
      exact Nat.gcd_mul_left _ _ _
    rw [hg] at q
    exact Nat.eq_of_mul_eq_mul_left g0 (by omega)
  rw [decide_eq_true hb, decide_eq_true hc]
  rfl
end K01
namespace K01
open PySem PySem.Spec PyProof.Rows L2 DL
def c_lowest : Con := conE (α := Int × Int) (fun x => [.int x.1, .int x.2]) (fun x => 0 < x.2 ∧ sml x.2) fun x => lowF x.1 x.2
def c_risen : Con := conE (α := Bool × List Dat) (fun x => [if x.1 then .tup x.2 else .lst x.2]) (fun x => (Fr x.2 ∧ ∀ d ∈ x.2, SmV d) ∧ x.2.length ≤ 10000) fun x => .tup (risF x.2)
section
variable {P : Program} {w : World} {K : PySem.W.Frag} {mg : Str → Option Value} {base : Heap} {f f2 : Addr} {fd fd2 : FuncData} {k : Nat}
abbrev s__law_lowest : Stmt := topS 38
theorem sc__law_lowest : FnScope ["high", "low", "a", "b"] ["high", "low"] (defScope s__law_lowest) := ⟨rfl, rfl, rfl, by decide +kernel, rfl, by decide +kernel, by decide +kernel⟩
-- calls [] consts []
theorem ok_law_lowest (F : Fun K "_law_lowest" "_law_lowest" s__law_lowest f fd) : FnOk P w K mg base CX0 (k + 1) f fd ["high", "low"] (spD K c_lowest) := by
  refine fn_pure F sc__law_lowest (fun ds P X ⟨d, e, _⟩ => by rw [e]; rfl) fun cdv A outer s H S hS hr => ?_
  have nd := sc__law_lowest.nd
  refine ⟨_, (db_cons (ds_par 2 3 (da_cons (de_var 0) (da_cons (de_var 1) da_nil)) nd) (db_cons (ds_while PassesOwn.never (dt_ne hr.units (de_var 3) de_int) (db_one (ds_par 2 3 (da_cons (de_var 3) (da_cons (de_mod (de_var 2) (de_var 3)) da_nil)) nd))) (db_one (ds_ret (de_tup (da_cons (de_fdivW (de_var 0) (de_var 2)) (da_cons (de_fdivW (de_var 1) (de_var 2)) da_nil))))))), ?_⟩
  rintro ds R X ⟨⟨h, l⟩, rfl, ⟨hl, hs⟩, q⟩
  replace hl : 0 < l := hl
  replace hs : sml l := hs
  replace q : R (lowF h l) := q
  try dsimp only
  ((try dsimp only); refine rd_here rfl ?_; (try dsimp only))
  ((try dsimp only); refine rd_here rfl ?_; (try dsimp only))
  refine ⟨fun m ρ => ∃ a b : Int, ρ = [.d (.int h), .d (.int l), .d (.int a), .d (.int b)] ∧ 0 ≤ b ∧ m = b.natAbs ∧ (b = 0 → 0 < a) ∧ Int.gcd a b = Int.gcd h l, ⟨l.natAbs, h, l, rfl, by omega, rfl, by omega, rfl⟩, ?_⟩
  rintro m ρ ⟨a, b, rfl, hb, rfl, ha, hg⟩
  refine ⟨fun c => c = !decide (b = 0), ?_, fun e => ?_, fun e => ?_⟩
  · ((try dsimp only); refine rd_here rfl ?_; (try dsimp only))
    rw [neD_int, isB_bl]
  · have hb0 : b = 0 := by simpa using e
    subst hb0
    have hga : a = (Nat.gcd h.natAbs l.natAbs : Nat) := by
      have q1 : Int.gcd a 0 = a.natAbs := by simp
      have q2 := ha rfl
      have q3 : Nat.gcd h.natAbs l.natAbs = Int.gcd h l := rfl
      omega
    have sa : sml a := by
      have q4 : Nat.gcd h.natAbs l.natAbs ≤ l.natAbs := Nat.le_of_dvd (by omega) (Nat.gcd_dvd_right _ _)
      unfold sml at hs ⊢
      omega
    ((try dsimp only); refine rd_here rfl ?_; (try dsimp only))
    ((try dsimp only); refine rd_here rfl ?_; (try dsimp only))
    refine ⟨sml_div (ha rfl) sa, ?_⟩
    ((try dsimp only); refine rd_here rfl ?_; (try dsimp only))
    ((try dsimp only); refine rd_here rfl ?_; (try dsimp only))
    refine ⟨sml_div (ha rfl) sa, show 2 ≤ sizeLine by decide, ?_⟩
    rw [lowF, ← hga] at q
    exact q
  · have hb0 : 0 < b := by
      have : ¬ b = 0 := by simpa using e
      omega
    ((try dsimp only); refine rd_here rfl ?_; (try dsimp only))
    ((try dsimp only); refine rd_here rfl ?_; (try dsimp only))
    ((try dsimp only); refine rd_here rfl ?_; (try dsimp only))
    refine ⟨hb0, ?_⟩
    have m0 := Int.emod_nonneg a (show b ≠ 0 by omega)
    have m1 := Int.emod_lt_of_pos a hb0
    refine ⟨(a % b).natAbs, by omega, b, a % b, rfl, m0, rfl, fun _ => hb0, ?_⟩
    rw [← hg, Int.gcd_comm a b, ← Int.gcd_add_mul_left_right b (a % b) (a / b), Int.emod_add_mul_ediv]
abbrev s__law_below : Stmt := topS 39
theorem sc__law_below : FnScope ["p", "q"] ["p", "q"] (defScope s__law_below) := ⟨rfl, rfl, rfl, by decide +kernel, rfl, by decide +kernel, by decide +kernel⟩
-- calls [] consts []
theorem ok_law_below (F : Fun K "_law_below" "_law_below" s__law_below f fd) : FnOk P w K mg base CX0 (k + 1) f fd ["p", "q"] (spD K c_is_below) := by
  refine fn_pure F sc__law_below (fun ds P X ⟨d, e, _⟩ => by rw [e]; rfl) fun cdv A outer s H S hS hr => ?_
  have nd := sc__law_below.nd
  refine ⟨_, (db_one (ds_ret (de_lt (de_mulW (de_ix (de_var 0) de_int) (de_ix (de_var 1) de_int)) (de_mulW (de_ix (de_var 1) de_int) (de_ix (de_var 0) de_int))))), ?_⟩
  rintro ds R X ⟨⟨p, q⟩, rfl, ⟨⟨hp, hp2⟩, hq, hq2⟩, h⟩
  obtain ⟨a, b, rfl⟩ := rat_inv hp
  obtain ⟨c, d, rfl⟩ := rat_inv hq
  exact ⟨sml_mul hp2.1 hq2.2, sml_mul hq2.1 hp2.2, h⟩
-- calls [] consts []
-- calls ['_law_is_number', '_law_lowest'] consts []
end
end K01
namespace K01
open PySem PySem.Spec PyProof.Rows L2 DL
def shortT (d : Dat) : Prop := match d with
  | .tup ds => ds.length ≤ 10000
  | _ => True
section
variable {P : Program} {w : World} {K : PySem.W.Frag} {mg : Str → Option Value} {base : Heap} {f f2 : Addr} {fd fd2 : FuncData} {k : Nat}
abbrev s__law_risen : Stmt := topS 40
theorem sc__law_risen : FnScope ["some", "found", "p", "spot", "q"] ["some"] (defScope s__law_risen) := ⟨rfl, rfl, rfl, by decide +kernel, rfl, by decide +kernel, by decide +kernel⟩
-- calls ['_law_below'] consts []
theorem ok_law_risen (B : Bt mg) (F__law_below : Callee P w K mg base "_law_below" k ["p", "q"] c_is_below) (F : Fun K "_law_risen" "_law_risen" s__law_risen f fd) : FnOk P w K mg base CX0 (k + 1) f fd ["some"] (spD K c_risen) := by
  refine fn_pure F sc__law_risen (fun ds P X ⟨d, e, _⟩ => by rw [e]; rfl) fun cdv A outer s H S hS hr => ?_
  have nd := sc__law_risen.nd
  refine ⟨_, (db_cons (ds_set 1 (de_lst da_nil) nd) (db_cons (ds_forI PassesOwn.never rfl (di_seq (de_var 0)) (dg_name 2 nd) (db_one (ds_ifc (dt_ninD (hu65 hr) (de_var 2) (de_var 1)) (db_cons (ds_set 3 (de_len B.len (da_cons (de_lc 4 (x := "q") rfl nd (di_seq (de_var 1)) (blkOk_by (own := [("q", 4)]) (N := ["some", "found", "p", "spot", "q"]) (sc := defScope s__law_risen) (by decide +kernel)) (fun _ _ _ _ _ => pg_name (i := 4) nd rfl (Or.inl rfl)) (fun _ _ _ _ _ => (dts_one (dt_val (de_fn F__law_below hr (da_cons (de_var 4) (da_cons (de_var 2) da_nil)) (by omega))))) (fun _ _ _ _ _ => (de_var 4))) da_nil)) nd) (db_one (ds_set 1 (de_add (de_add (de_sl (de_var 1) do_none (do_some (de_var 3))) (de_lst (da_cons (de_var 2) da_nil))) (de_sl (de_var 1) (do_some (de_var 3)) do_none)) nd))) db_nil))) (db_one (ds_ret (de_tuple B.tuple (da_cons (de_var 1) da_nil)))))), ?_⟩
  rintro ds R X ⟨⟨tp, xs⟩, rfl, ⟨⟨hf, hs⟩, hlen⟩, h⟩
  replace h : R (.tup (risF xs)) := h
  replace hf : Fr xs := hf
  replace hs : ∀ d ∈ xs, SmV d := hs
  replace hlen : xs.length ≤ 10000 := hlen
  have big := line_big
  try dsimp only
  refine ⟨show 0 ≤ sizeLine by decide, ?_⟩
  try dsimp only
  refine ⟨fun items ρ => ∃ (found : List Dat) (a b c : DL.Slot), ρ = [.d (if tp = true then .tup xs else .lst xs), .d (.lst found), a, b, c] ∧ risF xs = items.foldl risIns found ∧ Fr items ∧ (∀ d ∈ items, SmV d) ∧ Fr found ∧ Pw found ∧ (∀ d ∈ found, SmV d) ∧ found.length + items.length ≤ 10000, ?_, ?_, ?_⟩
  · ((try dsimp only); refine rd_here rfl ?_; (try dsimp only))
    cases tp
    · exact ⟨[], .un, .un, .un, rfl, rfl, hf, hs, (fun _ h => (List.not_mem_nil h).elim), List.Pairwise.nil, (fun _ h => (List.not_mem_nil h).elim), by simpa using hlen⟩
    · exact ⟨[], .un, .un, .un, rfl, rfl, hf, hs, (fun _ h => (List.not_mem_nil h).elim), List.Pairwise.nil, (fun _ h => (List.not_mem_nil h).elim), by simpa using hlen⟩
  · rintro ρ ⟨found, a, b, c, rfl, e, _⟩
    rw [show risF xs = found from e] at h
    ((try dsimp only); refine rd_here rfl ?_; (try dsimp only))
    exact h
  rintro p items ρ ⟨found, a, b, c, rfl, e, hfi, hsi, hff, hpw, hsf, hl⟩
  rw [List.foldl_cons] at e
  have hp : fracB p = true := hfi p List.mem_cons_self
  have sp := hsi p List.mem_cons_self
  rw [List.length_cons] at hl
  have hfi' : Fr items := fun z hz => hfi z (List.mem_cons_of_mem _ hz)
  have hsi' : ∀ z ∈ items, SmV z := fun z hz => hsi z (List.mem_cons_of_mem _ hz)
  refine ⟨fun b => b = !hasR found p, ?_, fun e2 => ?_, fun e2 => ?_⟩
  · ((try dsimp only); refine rd_here rfl ?_; (try dsimp only))
    ((try dsimp only); refine rd_here rfl ?_; (try dsimp only))
    exact ⟨rat_shaped (frac_rat hp), rats_shapedL (fr_rat hff), rfl⟩
  · have hn : hasR found p = false := by simpa using e2
    obtain ⟨q1, q2, q3⟩ := risIns_ok hff hpw hp
    have q4 : (risIns found p).length ≤ found.length + 1 := risIns_len
    ((try dsimp only); refine rd_here rfl ?_; (try dsimp only))
    rw [seqOf_lst]
    refine compF_filter (p := fun q => belowB q p) (f := fun x => x) (fun x hx Q hQ => ?_) (fun x hx _ Q hQ => ?_) (by simp; omega) ?_
    · ((try dsimp only); refine rd_here rfl ?_; (try dsimp only))
      ((try dsimp only); refine rd_here rfl ?_; (try dsimp only))
      refine conE_use (args := fun x : Dat × Dat => [x.1, x.2]) (x, p) ⟨⟨frac_rat (hff x hx), smR_frac (hsf x hx) (hff x hx)⟩, frac_rat hp, smR_frac sp hp⟩ ?_
      exact hQ
    · exact rd_here rfl hQ
    try dsimp only
    rw [List.nil_append, List.map_id', lenD_lst]
    have hk : (found.filter fun q => belowB q p).length ≤ found.length := List.length_filter_le _ _
    ((try dsimp only); refine rd_here rfl ?_; (try dsimp only))
    ((try dsimp only); refine rd_here rfl ?_; (try dsimp only))
    rw [isI_int, slD_lst, cut_to _ _ hk]
    ((try dsimp only); refine rd_here rfl ?_; (try dsimp only))
    refine ⟨by simp; omega, ?_⟩
    rw [addD_lst]
    refine ⟨by simp only [List.length_take, List.length_singleton]; omega, ?_⟩
    ((try dsimp only); refine rd_here rfl ?_; (try dsimp only))
    ((try dsimp only); refine rd_here rfl ?_; (try dsimp only))
    rw [isI_int, slD_lst, cut_from, addD_lst]
    refine ⟨by simp only [List.length_take, List.length_drop, List.length_append, List.length_singleton]; omega, ?_⟩
    have er : risIns found p = found.take (found.filter (belowB · p)).length ++ [p] ++ found.drop (found.filter (belowB · p)).length := by
      unfold risIns
      rw [hn, if_neg (by decide)]
    refine ⟨risIns found p, _, _, _, by rw [er]; rfl, e, hfi', hsi', q1, q2, fun z hz => ?_, by omega⟩
    rcases q3 z hz with rfl | hz
    · exact sp
    · exact hsf z hz
  · have hn : hasR found p = true := by simpa using e2
    refine ⟨found, _, _, _, rfl, ?_, hfi', hsi', hff, hpw, hsf, by omega⟩
    rw [e]
    unfold risIns
    rw [hn, if_pos rfl]
-- calls ['_law_is_lowest', '_law_parts'] consts []
-- calls ['_law_is_lowest', '_law_parts', '_law_risen', '_law_is_number'] consts []
end
end K01
namespace K01
open PySem PySem.Spec PyProof.Rows L2 DL
/-- numbers not too great, and no great many of them -/
def SmT (d : Dat) : Prop := SmV d ∧ shortT d
/-- a number in lowest terms, of few bits -/
def NumOk (d : Dat) : Prop := fracB d = true ∧ (ratN d).natAbs ≤ 10 ^ 20 ∧ (ratD d).natAbs ≤ 10 ^ 20
theorem num_smR {d : Dat} (h : NumOk d) : smR d := by
  have e : (10 : Nat) ^ 20 < 2 ^ 240 := by decide
  exact ⟨Nat.lt_of_le_of_lt h.2.1 e, Nat.lt_of_le_of_lt h.2.2 e⟩
theorem num_smT {d : Dat} (h : NumOk d) : SmT d := by
  have r := num_smR h
  obtain ⟨a, b, rfl, _⟩ := frac_inv h.1
  refine ⟨smV_tup.mpr fun x hx => ?_, show 2 ≤ 10000 by decide⟩
  simp only [List.mem_cons, List.not_mem_nil, or_false] at hx
  rcases hx with rfl | rfl
  · exact r.1
  · exact r.2
def rk (z : Str) (deep : Nat) : Nat := if z = "tree" then deep else if z = "set" then 1 else 0
def wc (z : Str) (deep : Nat) : Nat := if z = "tree" then 10 * 3 ^ deep else if z = "set" then 10 else 2
def TB : Nat → Dat → Prop
  | 0, _ => False
  | n + 1, d => (∃ x, d = .tup [.str "tip", x] ∧ NumOk x) ∨ ∃ x y, d = .tup [.str "node", x, y] ∧ TB n x ∧ TB n y
def WorthV (z : Str) (deep : Nat) (d : Dat) : Prop := (z = "thing" ∧ ∃ i : Int, d = .int i ∧ 0 ≤ i ∧ i ≤ 10 ^ 30) ∨ (z = "bits" ∧ ∃ i : Int, d = .int i ∧ 0 ≤ i ∧ i ≤ 15) ∨ (z = "num" ∧ NumOk d) ∨ (z = "set" ∧ ∃ xs, d = .tup xs ∧ xs.length ≤ 3 ∧ (∀ x ∈ xs, NumOk x) ∧ risL none xs = true) ∨ (z = "tree" ∧ TB deep d)
def WorthOk (z : Str) (deep : Nat) (d : Dat) : Prop := (SmT d ∧ (z = "num" → NumOk d)) ∧ WorthV z deep d
def conWorth (N : Nat) : ConS Nat := ⟨fun st n sl P => ∃ (v : V) (z : Str) (deep : Nat), IsDraw st v ∧ sl = [.raw v, .d (.str z), .d (.int (deep : Nat))] ∧ z ∈ sorts ∧ 1 ≤ deep ∧ rk z deep < N ∧ n + wc z deep < manyDraws ∧ ∀ (d : Dat) (j : Nat), WorthOk z deep d → j ≤ n + wc z deep → P d j,
  fun _ _ _ _ _ ⟨v, z, deep, h0, e, h1, h2, h3, h4, h⟩ m => ⟨v, z, deep, h0, e, h1, h2, h3, h4, fun x j a b => m _ _ (h x j a b)⟩⟩
theorem ixL_use {ds : List Dat} {x : Int} {P : Dat → Prop} (h0 : 0 ≤ x) (h1 : x < (ds.length : Nat)) (h : ∀ d ∈ ds, P d) : ixD (.lst ds) (.int x) P := by
  have hl : x.toNat < ds.length := by omega
  rw [ixD_lst]
  have e : atI ds ((x.toNat : Nat) : Int) = some ds[x.toNat] := atI_nat (List.getElem?_eq_getElem hl)
  rw [Int.toNat_of_nonneg h0] at e
  rw [e, someD_some]
  exact h _ (List.getElem_mem hl)
theorem sm_small {i : Int} (h : i.natAbs < 2 ^ 200) : SmT (.int i) := ⟨sml_of h, trivial⟩
theorem low_num {h l : Int} (hh : h.natAbs ≤ 10 ^ 20) (hl : 0 < l) (hl2 : l.natAbs ≤ 10 ^ 20) : NumOk (lowF h l) := by
  refine ⟨low_frac hl, ?_, ?_⟩
  · show (h / (Nat.gcd h.natAbs l.natAbs : Nat)).natAbs ≤ 10 ^ 20
    have g0 : 0 < Nat.gcd h.natAbs l.natAbs := Nat.gcd_pos_of_pos_right _ (by omega)
    exact Nat.le_trans (Int.natAbs_ediv_le_natAbs _ _) hh
  · show (l / (Nat.gcd h.natAbs l.natAbs : Nat)).natAbs ≤ 10 ^ 20
    exact Nat.le_trans (Int.natAbs_ediv_le_natAbs _ _) hl2
section
variable {P : Program} {w : World} {K : PySem.W.Frag} {mg : Str → Option Value} {base : Heap} {f f2 : Addr} {fd fd2 : FuncData} {k : Nat}
abbrev s__law_worth : Stmt := topS 41
theorem sc__law_worth : FnScope ["m", "kind", "deep", "k"] ["m", "kind", "deep"] (defScope s__law_worth) := ⟨rfl, rfl, rfl, by decide +kernel, rfl, by decide +kernel, by decide +kernel⟩
-- calls ['_law_draw', '_law_risen', '_law_worth', '_law_lowest'] consts []
theorem ok_law_worth {N : Nat} (B : Bt mg) (F__law_draw : CalleeS P w K mg base "_law_draw" k ["m", "top"] conDraw) (F__law_worth : CalleeS P w K mg base "_law_worth" k ["m", "kind", "deep"] (conWorth N)) (F__law_lowest : Callee P w K mg base "_law_lowest" k ["high", "low"] c_lowest) (F__law_risen : Callee P w K mg base "_law_risen" k ["some"] c_risen) (F : Fun K "_law_worth" "_law_worth" s__law_worth f fd) : FnOk P w K mg base CX0 (k + 1) f fd ["m", "kind", "deep"] (spS K (conWorth (N + 1))) := by
  refine fn_pureS F sc__law_worth (fun st i sl P ⟨v, _, _, _, e, _⟩ => by rw [e]; rfl) fun cdv A outer s H S hS st i0 h0 hf hr sl R hc => ?_
  have nd := sc__law_worth.nd
  have gs := gs_self (P := P) (w := w) (K := K) (mg := mg) (base := base) (N := ["m", "kind", "deep", "k"]) (qual := "_law_worth") (sc := defScope s__law_worth) (f := f) (cdv := cdv) (A := A) (outer := outer) (s := s) (hS := hS) (h0 := h0) hf
  refine ⟨_, (dbr_cons (dsr_if (dtr_of fun i => (dt_eq hr.units (de_var 1) de_str)) (dbr_one (dsr_ret (dr_ix (dr_of fun i => (de_lst (da_cons de_int (da_cons de_int (da_cons de_int (da_cons (de_pow de_int de_int) da_nil)))))) (dr_fnS gs F__law_draw hr (dsl_raw 0 (dsl_d (dr_of fun i => de_int) dsl_nil)) (by omega))))) dbr_nil) (dbr_cons (dsr_if (dtr_of fun i => (dt_eq hr.units (de_var 1) de_str)) (dbr_one (dsr_ret (dr_fnS gs F__law_draw hr (dsl_raw 0 (dsl_d (dr_of fun i => de_int) dsl_nil)) (by omega)))) dbr_nil) (dbr_cons (dsr_if (dtr_of fun i => (dt_eq hr.units (de_var 1) de_str)) (dbr_one (dsr_ret (dr_fnD F__law_risen hr (dar_cons (dr_lc 3 (x := "k") rfl nd (dir_range B.range (dar_cons (dr_fnS gs F__law_draw hr (dsl_raw 0 (dsl_d (dr_of fun i => de_int) dsl_nil)) (by omega)) dar_nil)) (blkOk_by (own := [("k", 3)]) (N := ["m", "kind", "deep", "k"]) (sc := defScope s__law_worth) (by decide +kernel)) (fun _ _ _ _ _ => pg_name (i := 3) nd rfl (Or.inl rfl)) (fun _ _ _ _ _ => (dr_fnS (gs_blk gs) F__law_worth hr (dsl_raw 0 (dsl_d (dr_of fun i => de_str) (dsl_d (dr_of fun i => de_int) dsl_nil))) (by omega)))) dar_nil) (by omega)))) dbr_nil) (dbr_cons (dsr_if (dtr_of fun i => (dt_eq hr.units (de_var 1) de_str)) (dbr_one (dsr_ret (dr_fnD F__law_lowest hr (dar_cons (dr_sub (dr_fnS gs F__law_draw hr (dsl_raw 0 (dsl_d (dr_of fun i => de_int) dsl_nil)) (by omega)) (dr_of fun i => de_int)) (dar_cons (dr_ix (dr_of fun i => (de_lst (da_cons de_int (da_cons de_int (da_cons de_int (da_cons de_int (da_cons de_int (da_cons (de_pow de_int de_int) da_nil)))))))) (dr_fnS gs F__law_draw hr (dsl_raw 0 (dsl_d (dr_of fun i => de_int) dsl_nil)) (by omega))) dar_nil)) (by omega)))) dbr_nil) (dbr_cons (dsr_if (dtr_w (dwr_or (dtr_of fun i => (dt_lt (de_var 2) de_int)) (dwr_or1 (dtr_eq hr.units (dr_fnS gs F__law_draw hr (dsl_raw 0 (dsl_d (dr_of fun i => de_int) dsl_nil)) (by omega)) (dr_of fun i => de_int))))) (dbr_one (dsr_ret (dr_tup (dar_cons (dr_of fun i => de_str) (dar_cons (dr_fnS gs F__law_worth hr (dsl_raw 0 (dsl_d (dr_of fun i => de_str) (dsl_d (dr_of fun i => de_int) dsl_nil))) (by omega)) dar_nil))))) dbr_nil) (dbr_one (dsr_ret (dr_tup (dar_cons (dr_of fun i => de_str) (dar_cons (dr_fnS gs F__law_worth hr (dsl_raw 0 (dsl_d (dr_of fun i => de_str) (dsl_d (dr_of fun i => (de_sub (de_var 2) de_int)) dsl_nil))) (by omega)) (dar_cons (dr_fnS gs F__law_worth hr (dsl_raw 0 (dsl_d (dr_of fun i => de_str) (dsl_d (dr_of fun i => (de_sub (de_var 2) de_int)) dsl_nil))) (by omega)) dar_nil))))))))))), ?_⟩
  obtain ⟨v, z, deep, hd, rfl, hz, hdp, hrk, hn, h⟩ := hc
  refine ⟨fun b j => j = i0 ∧ b = decide (z = "thing"), ?_, fun j hp => ?_, fun j hp => ?_⟩
  · repeat (first | refine rd_here rfl ?_ | refine ownL_here rfl ?_ | rw [isI_int] | rw [addD_int] | rw [int0_int] | rw [someD_some] | refine rdRaw_here rfl ?_ | rw [isB_bl] | rw [eqD_str] | rw [eqD_int] | refine And.intro (show CPow _ _ from ⟨by decide, by decide, by decide⟩) ?_ | refine And.intro (show 2 ≤ sizeLine by decide) ?_ | refine And.intro (show 1 ≤ sizeLine by decide) ?_ | refine And.intro (show 3 ≤ sizeLine by decide) ?_ | refine And.intro (show 4 ≤ sizeLine by decide) ?_ | refine And.intro (show 5 ≤ sizeLine by decide) ?_ | refine And.intro (show 6 ≤ sizeLine by decide) ?_ | dsimp only)
    exact ⟨rfl, rfl⟩
  · obtain ⟨rfl, e0⟩ := hp
    obtain rfl : z = "thing" := of_decide_eq_true e0.symm
    rw [show wc "thing" deep = 2 from rfl] at *
    repeat (first | refine rd_here rfl ?_ | refine ownL_here rfl ?_ | rw [isI_int] | rw [addD_int] | rw [int0_int] | rw [someD_some] | refine rdRaw_here rfl ?_ | rw [isB_bl] | rw [eqD_str] | rw [eqD_int] | refine And.intro (show CPow _ _ from ⟨by decide, by decide, by decide⟩) ?_ | refine And.intro (show 2 ≤ sizeLine by decide) ?_ | refine And.intro (show 1 ≤ sizeLine by decide) ?_ | refine And.intro (show 3 ≤ sizeLine by decide) ?_ | refine And.intro (show 4 ≤ sizeLine by decide) ?_ | refine And.intro (show 5 ≤ sizeLine by decide) ?_ | refine And.intro (show 6 ≤ sizeLine by decide) ?_ | dsimp only)
    refine draw_use hd (by decide) (by decide) (by omega) fun x hx0 hx1 => ?_
    repeat (first | refine rd_here rfl ?_ | refine ownL_here rfl ?_ | rw [isI_int] | rw [addD_int] | rw [int0_int] | rw [someD_some] | refine rdRaw_here rfl ?_ | rw [isB_bl] | rw [eqD_str] | rw [eqD_int] | refine And.intro (show CPow _ _ from ⟨by decide, by decide, by decide⟩) ?_ | refine And.intro (show 2 ≤ sizeLine by decide) ?_ | refine And.intro (show 1 ≤ sizeLine by decide) ?_ | refine And.intro (show 3 ≤ sizeLine by decide) ?_ | refine And.intro (show 4 ≤ sizeLine by decide) ?_ | refine And.intro (show 5 ≤ sizeLine by decide) ?_ | refine And.intro (show 6 ≤ sizeLine by decide) ?_ | dsimp only)
    refine ixL_use hx0 hx1 fun y hy => h y _ ⟨⟨?_, (fun e => nomatch e)⟩, .inl ⟨rfl, ?_⟩⟩ (by omega)
    all_goals simp only [List.mem_cons, List.not_mem_nil, or_false] at hy
    · rcases hy with rfl | rfl | rfl | rfl
      all_goals exact sm_small (by decide)
    · rcases hy with rfl | rfl | rfl | rfl
      all_goals exact ⟨_, rfl, by decide, by decide⟩
  obtain ⟨rfl, e1⟩ := hp
  have n1 : ¬ z = "thing" := of_decide_eq_false e1.symm
  refine ⟨fun b j2 => j2 = j ∧ b = decide (z = "bits"), ?_, fun j2 hp => ?_, fun j2 hp => ?_⟩
  · repeat (first | refine rd_here rfl ?_ | refine ownL_here rfl ?_ | rw [isI_int] | rw [addD_int] | rw [int0_int] | rw [someD_some] | refine rdRaw_here rfl ?_ | rw [isB_bl] | rw [eqD_str] | rw [eqD_int] | refine And.intro (show CPow _ _ from ⟨by decide, by decide, by decide⟩) ?_ | refine And.intro (show 2 ≤ sizeLine by decide) ?_ | refine And.intro (show 1 ≤ sizeLine by decide) ?_ | refine And.intro (show 3 ≤ sizeLine by decide) ?_ | refine And.intro (show 4 ≤ sizeLine by decide) ?_ | refine And.intro (show 5 ≤ sizeLine by decide) ?_ | refine And.intro (show 6 ≤ sizeLine by decide) ?_ | dsimp only)
    exact ⟨rfl, rfl⟩
  · obtain ⟨rfl, e0⟩ := hp
    obtain rfl : z = "bits" := of_decide_eq_true e0.symm
    rw [show wc "bits" deep = 2 from rfl] at *
    repeat (first | refine rd_here rfl ?_ | refine ownL_here rfl ?_ | rw [isI_int] | rw [addD_int] | rw [int0_int] | rw [someD_some] | refine rdRaw_here rfl ?_ | rw [isB_bl] | rw [eqD_str] | rw [eqD_int] | refine And.intro (show CPow _ _ from ⟨by decide, by decide, by decide⟩) ?_ | refine And.intro (show 2 ≤ sizeLine by decide) ?_ | refine And.intro (show 1 ≤ sizeLine by decide) ?_ | refine And.intro (show 3 ≤ sizeLine by decide) ?_ | refine And.intro (show 4 ≤ sizeLine by decide) ?_ | refine And.intro (show 5 ≤ sizeLine by decide) ?_ | refine And.intro (show 6 ≤ sizeLine by decide) ?_ | dsimp only)
    refine draw_use hd (by decide) (by decide) (by omega) fun x hx0 hx1 => ?_
    exact h _ _ ⟨⟨sm_small (Nat.lt_of_lt_of_le (show x.natAbs < 16 by omega) (by decide)), (fun e => nomatch e)⟩, .inr (.inl ⟨rfl, x, rfl, hx0, by omega⟩)⟩ (by omega)
  obtain ⟨rfl, e2⟩ := hp
  have n2 : ¬ z = "bits" := of_decide_eq_false e2.symm
  refine ⟨fun b j3 => j3 = j2 ∧ b = decide (z = "set"), ?_, fun j3 hp => ?_, fun j3 hp => ?_⟩
  · repeat (first | refine rd_here rfl ?_ | refine ownL_here rfl ?_ | rw [isI_int] | rw [addD_int] | rw [int0_int] | rw [someD_some] | refine rdRaw_here rfl ?_ | rw [isB_bl] | rw [eqD_str] | rw [eqD_int] | refine And.intro (show CPow _ _ from ⟨by decide, by decide, by decide⟩) ?_ | refine And.intro (show 2 ≤ sizeLine by decide) ?_ | refine And.intro (show 1 ≤ sizeLine by decide) ?_ | refine And.intro (show 3 ≤ sizeLine by decide) ?_ | refine And.intro (show 4 ≤ sizeLine by decide) ?_ | refine And.intro (show 5 ≤ sizeLine by decide) ?_ | refine And.intro (show 6 ≤ sizeLine by decide) ?_ | dsimp only)
    exact ⟨rfl, rfl⟩
  · obtain ⟨rfl, e3⟩ := hp
    obtain rfl : z = "set" := of_decide_eq_true e3.symm
    rw [show wc "set" deep = 10 from rfl] at *
    rw [show rk "set" deep = 1 from rfl] at hrk
    repeat (first | refine rd_here rfl ?_ | refine ownL_here rfl ?_ | rw [isI_int] | rw [addD_int] | rw [int0_int] | rw [someD_some] | refine rdRaw_here rfl ?_ | rw [isB_bl] | rw [eqD_str] | rw [eqD_int] | refine And.intro (show CPow _ _ from ⟨by decide, by decide, by decide⟩) ?_ | refine And.intro (show 2 ≤ sizeLine by decide) ?_ | refine And.intro (show 1 ≤ sizeLine by decide) ?_ | refine And.intro (show 3 ≤ sizeLine by decide) ?_ | refine And.intro (show 4 ≤ sizeLine by decide) ?_ | refine And.intro (show 5 ≤ sizeLine by decide) ?_ | refine And.intro (show 6 ≤ sizeLine by decide) ?_ | dsimp only)
    refine ⟨fun items acc j => j ≤ j3 + 1 + 2 * acc.length ∧ acc.length + items.length ≤ 3 ∧ ∀ d ∈ acc, NumOk d, ?_, ?_, ?_⟩
    · repeat (first | refine rd_here rfl ?_ | refine ownL_here rfl ?_ | rw [isI_int] | rw [addD_int] | rw [int0_int] | rw [someD_some] | refine rdRaw_here rfl ?_ | rw [isB_bl] | rw [eqD_str] | rw [eqD_int] | refine And.intro (show CPow _ _ from ⟨by decide, by decide, by decide⟩) ?_ | refine And.intro (show 2 ≤ sizeLine by decide) ?_ | refine And.intro (show 1 ≤ sizeLine by decide) ?_ | refine And.intro (show 3 ≤ sizeLine by decide) ?_ | refine And.intro (show 4 ≤ sizeLine by decide) ?_ | refine And.intro (show 5 ≤ sizeLine by decide) ?_ | refine And.intro (show 6 ≤ sizeLine by decide) ?_ | dsimp only)
      refine draw_use hd (by decide) (by decide) (by omega) fun x hx0 hx1 => ?_
      refine ⟨⟨by omega, by omega⟩, by simp, by simp [rints]; omega, fun d hd => (List.not_mem_nil hd).elim⟩
    · rintro acc j ⟨hj, hl, hacc⟩
      simp only [List.length_nil] at hl
      have hf : Fr acc := fun d hd => (hacc d hd).1
      have hs : ∀ d ∈ acc, SmV d := fun d hd => (num_smT (hacc d hd)).1
      refine ⟨(false, acc), rfl, ⟨⟨hf, hs⟩, by show acc.length ≤ 10000; omega⟩, ?_⟩
      have rl := risF_len (ds := acc)
      exact h _ _ ⟨⟨⟨smV_tup.mpr fun d hd => hs d ((risF_ok hf).2.2 d hd), show (risF acc).length ≤ 10000 by omega⟩, (fun e => nomatch e)⟩, .inr (.inr (.inr (.inl ⟨rfl, risF acc, rfl, by omega, fun x hx => hacc x ((risF_ok hf).2.2 x hx), risL_none.mpr ⟨(risF_ok hf).1, (risF_ok hf).2.1⟩⟩)))⟩ (by omega)
    · rintro d ds acc j ⟨hj, hl, hacc⟩
      simp only [List.length_cons] at hl
      repeat (first | refine rd_here rfl ?_ | refine ownL_here rfl ?_ | rw [isI_int] | rw [addD_int] | rw [int0_int] | rw [someD_some] | refine rdRaw_here rfl ?_ | rw [isB_bl] | rw [eqD_str] | rw [eqD_int] | refine And.intro (show CPow _ _ from ⟨by decide, by decide, by decide⟩) ?_ | refine And.intro (show 2 ≤ sizeLine by decide) ?_ | refine And.intro (show 1 ≤ sizeLine by decide) ?_ | refine And.intro (show 3 ≤ sizeLine by decide) ?_ | refine And.intro (show 4 ≤ sizeLine by decide) ?_ | refine And.intro (show 5 ≤ sizeLine by decide) ?_ | refine And.intro (show 6 ≤ sizeLine by decide) ?_ | dsimp only)
      refine ⟨v, "num", 1, hd, rfl, by decide, by omega, show 0 < N by omega, show j + 2 < manyDraws by omega, fun x j2 hx hj2 => ?_⟩
      replace hj2 : j2 ≤ j + 2 := hj2
      refine ⟨by have := line_big; omega, by simp; omega, by simp; omega, fun y hy => ?_⟩
      rcases List.mem_append.mp hy with hy | hy
      · exact hacc y hy
      · rw [List.mem_singleton.mp hy]
        exact hx.1.2 rfl
  obtain ⟨rfl, e3⟩ := hp
  have n3 : ¬ z = "set" := of_decide_eq_false e3.symm
  refine ⟨fun b j4 => j4 = j3 ∧ b = decide (z = "num"), ?_, fun j4 hp => ?_, fun j4 hp => ?_⟩
  · repeat (first | refine rd_here rfl ?_ | refine ownL_here rfl ?_ | rw [isI_int] | rw [addD_int] | rw [int0_int] | rw [someD_some] | refine rdRaw_here rfl ?_ | rw [isB_bl] | rw [eqD_str] | rw [eqD_int] | refine And.intro (show CPow _ _ from ⟨by decide, by decide, by decide⟩) ?_ | refine And.intro (show 2 ≤ sizeLine by decide) ?_ | refine And.intro (show 1 ≤ sizeLine by decide) ?_ | refine And.intro (show 3 ≤ sizeLine by decide) ?_ | refine And.intro (show 4 ≤ sizeLine by decide) ?_ | refine And.intro (show 5 ≤ sizeLine by decide) ?_ | refine And.intro (show 6 ≤ sizeLine by decide) ?_ | dsimp only)
    exact ⟨rfl, rfl⟩
  · obtain ⟨rfl, e4⟩ := hp
    obtain rfl : z = "num" := of_decide_eq_true e4.symm
    rw [show wc "num" deep = 2 from rfl] at *
    repeat (first | refine rd_here rfl ?_ | refine ownL_here rfl ?_ | rw [isI_int] | rw [addD_int] | rw [int0_int] | rw [someD_some] | refine rdRaw_here rfl ?_ | rw [isB_bl] | rw [eqD_str] | rw [eqD_int] | refine And.intro (show CPow _ _ from ⟨by decide, by decide, by decide⟩) ?_ | refine And.intro (show 2 ≤ sizeLine by decide) ?_ | refine And.intro (show 1 ≤ sizeLine by decide) ?_ | refine And.intro (show 3 ≤ sizeLine by decide) ?_ | refine And.intro (show 4 ≤ sizeLine by decide) ?_ | refine And.intro (show 5 ≤ sizeLine by decide) ?_ | refine And.intro (show 6 ≤ sizeLine by decide) ?_ | dsimp only)
    refine draw_use hd (by decide) (by decide) (by omega) fun x hx0 hx1 => ?_
    repeat (first | refine rd_here rfl ?_ | refine ownL_here rfl ?_ | rw [isI_int] | rw [addD_int] | rw [int0_int] | rw [someD_some] | refine rdRaw_here rfl ?_ | rw [isB_bl] | rw [eqD_str] | rw [eqD_int] | refine And.intro (show CPow _ _ from ⟨by decide, by decide, by decide⟩) ?_ | refine And.intro (show 2 ≤ sizeLine by decide) ?_ | refine And.intro (show 1 ≤ sizeLine by decide) ?_ | refine And.intro (show 3 ≤ sizeLine by decide) ?_ | refine And.intro (show 4 ≤ sizeLine by decide) ?_ | refine And.intro (show 5 ≤ sizeLine by decide) ?_ | refine And.intro (show 6 ≤ sizeLine by decide) ?_ | dsimp only)
    refine draw_use hd (by decide) (by decide) (by omega) fun y hy0 hy1 => ?_
    refine ixL_use hy0 hy1 fun u hu => ?_
    obtain ⟨l, rfl, hl, hl2⟩ : ∃ l : Int, u = .int l ∧ 0 < l ∧ l.natAbs ≤ 10 ^ 20 := by
      simp only [List.mem_cons, List.not_mem_nil, or_false] at hu
      rcases hu with rfl | rfl | rfl | rfl | rfl | rfl <;> exact ⟨_, rfl, by decide, by decide⟩
    refine ⟨(x - 4, l), rfl, ⟨hl, Nat.lt_of_le_of_lt hl2 (by decide)⟩, ?_⟩
    have hn := low_num (h := x - 4) (l := l) (Nat.le_trans (show (x - 4).natAbs ≤ 5 by omega) (by decide)) hl hl2
    exact h _ _ ⟨⟨num_smT hn, fun _ => hn⟩, .inr (.inr (.inl ⟨rfl, hn⟩))⟩ (by omega)
  obtain ⟨rfl, e4⟩ := hp
  have n4 : ¬ z = "num" := of_decide_eq_false e4.symm
  obtain rfl : z = "tree" := by
    simp only [sorts, List.mem_cons, List.not_mem_nil, or_false] at hz
    rcases hz with e | e | e | e | e
    · exact (n1 e).elim
    · exact (n4 e).elim
    · exact e
    · exact (n3 e).elim
    · exact (n2 e).elim
  obtain ⟨m, rfl⟩ : ∃ m, deep = m + 1 := ⟨deep - 1, by omega⟩
  have h3 : 1 ≤ 3 ^ m := Nat.pow_pos (by decide)
  rw [show wc "tree" (m + 1) = 10 * (3 ^ m * 3) from rfl] at *
  rw [show rk "tree" (m + 1) = m + 1 from rfl] at hrk
  dsimp only
  refine ⟨fun b j => j ≤ j4 + 1 ∧ (b = false → 1 ≤ m), ?_, fun j hp => ?_, fun j hp => ?_⟩
  · repeat (first | refine rd_here rfl ?_ | refine ownL_here rfl ?_ | rw [isI_int] | rw [addD_int] | rw [int0_int] | rw [someD_some] | refine rdRaw_here rfl ?_ | rw [isB_bl] | rw [eqD_str] | rw [eqD_int] | refine And.intro (show CPow _ _ from ⟨by decide, by decide, by decide⟩) ?_ | refine And.intro (show 2 ≤ sizeLine by decide) ?_ | refine And.intro (show 1 ≤ sizeLine by decide) ?_ | refine And.intro (show 3 ≤ sizeLine by decide) ?_ | refine And.intro (show 4 ≤ sizeLine by decide) ?_ | refine And.intro (show 5 ≤ sizeLine by decide) ?_ | refine And.intro (show 6 ≤ sizeLine by decide) ?_ | dsimp only)
    by_cases c : ((m + 1 : Nat) : Int) < 2
    · rw [if_pos (decide_eq_true c)]
      exact ⟨by omega, fun e => nomatch e⟩
    · rw [if_neg (fun z => c (of_decide_eq_true z))]
      repeat (first | refine rd_here rfl ?_ | refine ownL_here rfl ?_ | rw [isI_int] | rw [addD_int] | rw [int0_int] | rw [someD_some] | refine rdRaw_here rfl ?_ | rw [isB_bl] | rw [eqD_str] | rw [eqD_int] | refine And.intro (show CPow _ _ from ⟨by decide, by decide, by decide⟩) ?_ | refine And.intro (show 2 ≤ sizeLine by decide) ?_ | refine And.intro (show 1 ≤ sizeLine by decide) ?_ | refine And.intro (show 3 ≤ sizeLine by decide) ?_ | refine And.intro (show 4 ≤ sizeLine by decide) ?_ | refine And.intro (show 5 ≤ sizeLine by decide) ?_ | refine And.intro (show 6 ≤ sizeLine by decide) ?_ | dsimp only)
      refine draw_use hd (by decide) (by decide) (by omega) fun x hx0 hx1 => ?_
      repeat (first | refine rd_here rfl ?_ | refine ownL_here rfl ?_ | rw [isI_int] | rw [addD_int] | rw [int0_int] | rw [someD_some] | refine rdRaw_here rfl ?_ | rw [isB_bl] | rw [eqD_str] | rw [eqD_int] | refine And.intro (show CPow _ _ from ⟨by decide, by decide, by decide⟩) ?_ | refine And.intro (show 2 ≤ sizeLine by decide) ?_ | refine And.intro (show 1 ≤ sizeLine by decide) ?_ | refine And.intro (show 3 ≤ sizeLine by decide) ?_ | refine And.intro (show 4 ≤ sizeLine by decide) ?_ | refine And.intro (show 5 ≤ sizeLine by decide) ?_ | refine And.intro (show 6 ≤ sizeLine by decide) ?_ | dsimp only)
      exact ⟨by omega, fun _ => by omega⟩
  · have hj := hp.1
    repeat (first | refine rd_here rfl ?_ | refine ownL_here rfl ?_ | rw [isI_int] | rw [addD_int] | rw [int0_int] | rw [someD_some] | refine rdRaw_here rfl ?_ | rw [isB_bl] | rw [eqD_str] | rw [eqD_int] | refine And.intro (show CPow _ _ from ⟨by decide, by decide, by decide⟩) ?_ | refine And.intro (show 2 ≤ sizeLine by decide) ?_ | refine And.intro (show 1 ≤ sizeLine by decide) ?_ | refine And.intro (show 3 ≤ sizeLine by decide) ?_ | refine And.intro (show 4 ≤ sizeLine by decide) ?_ | refine And.intro (show 5 ≤ sizeLine by decide) ?_ | refine And.intro (show 6 ≤ sizeLine by decide) ?_ | dsimp only)
    refine ⟨v, "num", 1, hd, rfl, by decide, by omega, show 0 < N by omega, show j + 2 < manyDraws by omega, fun x j2 hx hj2 => ?_⟩
    replace hj2 : j2 ≤ j + 2 := hj2
    repeat (first | refine rd_here rfl ?_ | refine ownL_here rfl ?_ | rw [isI_int] | rw [addD_int] | rw [int0_int] | rw [someD_some] | refine rdRaw_here rfl ?_ | rw [isB_bl] | rw [eqD_str] | rw [eqD_int] | refine And.intro (show CPow _ _ from ⟨by decide, by decide, by decide⟩) ?_ | refine And.intro (show 2 ≤ sizeLine by decide) ?_ | refine And.intro (show 1 ≤ sizeLine by decide) ?_ | refine And.intro (show 3 ≤ sizeLine by decide) ?_ | refine And.intro (show 4 ≤ sizeLine by decide) ?_ | refine And.intro (show 5 ≤ sizeLine by decide) ?_ | refine And.intro (show 6 ≤ sizeLine by decide) ?_ | dsimp only)
    refine h _ _ ⟨⟨⟨smV_tup.mpr fun y hy => ?_, show 2 ≤ 10000 by decide⟩, (fun e => nomatch e)⟩, .inr (.inr (.inr (.inr ⟨rfl, .inl ⟨x, rfl, hx.1.2 rfl⟩⟩)))⟩ (by omega)
    simp only [List.mem_cons, List.not_mem_nil, or_false] at hy
    rcases hy with rfl | rfl
    · trivial
    · exact hx.1.1.1
  · have hj := hp.1
    have hm := hp.2 rfl
    repeat (first | refine rd_here rfl ?_ | refine ownL_here rfl ?_ | rw [isI_int] | rw [addD_int] | rw [int0_int] | rw [someD_some] | refine rdRaw_here rfl ?_ | rw [isB_bl] | rw [eqD_str] | rw [eqD_int] | refine And.intro (show CPow _ _ from ⟨by decide, by decide, by decide⟩) ?_ | refine And.intro (show 2 ≤ sizeLine by decide) ?_ | refine And.intro (show 1 ≤ sizeLine by decide) ?_ | refine And.intro (show 3 ≤ sizeLine by decide) ?_ | refine And.intro (show 4 ≤ sizeLine by decide) ?_ | refine And.intro (show 5 ≤ sizeLine by decide) ?_ | refine And.intro (show 6 ≤ sizeLine by decide) ?_ | dsimp only)
    have hs : (((m + 1 : Nat) : Int) - 1) = ((m : Nat) : Int) := by omega
    refine ⟨v, "tree", m, hd, by rw [hs], by decide, hm, show m < N by omega, show j + 10 * 3 ^ m < manyDraws by omega, fun x j2 hx hj2 => ?_⟩
    replace hj2 : j2 ≤ j + 10 * 3 ^ m := hj2
    repeat (first | refine rd_here rfl ?_ | refine ownL_here rfl ?_ | rw [isI_int] | rw [addD_int] | rw [int0_int] | rw [someD_some] | refine rdRaw_here rfl ?_ | rw [isB_bl] | rw [eqD_str] | rw [eqD_int] | refine And.intro (show CPow _ _ from ⟨by decide, by decide, by decide⟩) ?_ | refine And.intro (show 2 ≤ sizeLine by decide) ?_ | refine And.intro (show 1 ≤ sizeLine by decide) ?_ | refine And.intro (show 3 ≤ sizeLine by decide) ?_ | refine And.intro (show 4 ≤ sizeLine by decide) ?_ | refine And.intro (show 5 ≤ sizeLine by decide) ?_ | refine And.intro (show 6 ≤ sizeLine by decide) ?_ | dsimp only)
    refine ⟨v, "tree", m, hd, by rw [hs], by decide, hm, show m < N by omega, show j2 + 10 * 3 ^ m < manyDraws by omega, fun y j3 hy hj3 => ?_⟩
    replace hj3 : j3 ≤ j2 + 10 * 3 ^ m := hj3
    repeat (first | refine rd_here rfl ?_ | refine ownL_here rfl ?_ | rw [isI_int] | rw [addD_int] | rw [int0_int] | rw [someD_some] | refine rdRaw_here rfl ?_ | rw [isB_bl] | rw [eqD_str] | rw [eqD_int] | refine And.intro (show CPow _ _ from ⟨by decide, by decide, by decide⟩) ?_ | refine And.intro (show 2 ≤ sizeLine by decide) ?_ | refine And.intro (show 1 ≤ sizeLine by decide) ?_ | refine And.intro (show 3 ≤ sizeLine by decide) ?_ | refine And.intro (show 4 ≤ sizeLine by decide) ?_ | refine And.intro (show 5 ≤ sizeLine by decide) ?_ | refine And.intro (show 6 ≤ sizeLine by decide) ?_ | dsimp only)
    have tx : TB m x := by
      rcases hx.2 with ⟨e, _⟩ | ⟨e, _⟩ | ⟨e, _⟩ | ⟨e, _⟩ | ⟨_, e⟩
      all_goals first | exact e | exact absurd e (by decide)
    have ty : TB m y := by
      rcases hy.2 with ⟨e, _⟩ | ⟨e, _⟩ | ⟨e, _⟩ | ⟨e, _⟩ | ⟨_, e⟩
      all_goals first | exact e | exact absurd e (by decide)
    refine h _ _ ⟨⟨⟨smV_tup.mpr fun u hu => ?_, show 3 ≤ 10000 by decide⟩, (fun e => nomatch e)⟩, .inr (.inr (.inr (.inr ⟨rfl, .inr ⟨x, y, rfl, tx, ty⟩⟩)))⟩ (by omega)
    simp only [List.mem_cons, List.not_mem_nil, or_false] at hu
    rcases hu with rfl | rfl | rfl
    · trivial
    · exact hx.1.1.1
    · exact hy.1.1.1
end
end K01
/-! ### < of tuples where only what decides need be told apart -/
namespace DL
open PySem PySem.Spec PyProof.Rows PySem.SeqAt
open AutoSeq1 (wpAny_loadPart')
open MeetsSeq MeetsSeq2 MeetsSeq3 SeqRoads2
theorem tup_ltF (p q : Addr) (xs ys : Array Value) (n m : Nat) (dp dq : Option Addr) (sp sq : Array (Option Value)) (e r : Nat → Bool) :
    Meets (Builtin.«tuple.__lt__» ⟨[.ref p, .ref q], []⟩) (fun A R s =>
      s.heap.get? p = some { cls := .type "tuple", dict := dp, data := .seq xs n, slots := sp } ∧
      s.heap.get? q = some { cls := .type "tuple", dict := dq, data := .seq ys m, slots := sq } ∧
      (∀ j (a1 : j < xs.size) (a2 : j < ys.size), EqAt A.in1 s xs[j] ys[j] (e j)) ∧
      (∀ j (a1 : j < xs.size) (a2 : j < ys.size), (∀ i, i < j → e i = true) → e j = false → RcLt A.in1 s xs[j] ys[j] (r j)) ∧
      R (.ok (.ret (.bool (firstLt e r (decide (xs.size < ys.size)) (List.range (min xs.size ys.size)))))) s) :=
  .of_wp fun prog w A R s z => by
    obtain ⟨hp, gg, dd, tk, os⟩ := s
    obtain ⟨gp, gq, he, hr, z⟩ := z
    have sub := AutoSeq1.sub_tuple_tuple
    have zl : (xs.toList.zip ys.toList).length = min xs.size ys.size := by simp
    wp_walk using wpAny_loadPart' gp, wpAny_loadPart' gq, wpAny_forIn_list _ (fun rest c t => c.1 = none ∧ t = ⟨hp, gg, dd, tk, os⟩ ∧ ∃ i, rest = (xs.toList.zip ys.toList).drop i ∧ (∀ k, k < i → e k = true) ∧
      R (.ok (.ret (.bool (firstLt e r (decide (xs.size < ys.size)) ((List.range (min xs.size ys.size)).drop i))))) ⟨hp, gg, dd, tk, os⟩) _
    case turn =>
      rintro ⟨u, v⟩ rest c t ⟨hc, rfl, i, hz, hk, hR⟩
      have il : i < (xs.toList.zip ys.toList).length := by
        rcases Nat.lt_or_ge i (xs.toList.zip ys.toList).length with o | o
        · exact o
        · rw [List.drop_of_length_le o] at hz; cases hz
      have im : i < min xs.size ys.size := zl ▸ il
      have i1 : i < xs.size := Nat.lt_of_lt_of_le im (Nat.min_le_left _ _)
      have i2 : i < ys.size := Nat.lt_of_lt_of_le im (Nat.min_le_right _ _)
      rw [List.drop_eq_getElem_cons il] at hz
      injection hz with huv hrest
      obtain rfl : u = xs[i] := by have o := congrArg Prod.fst huv; simpa using o
      obtain rfl : v = ys[i] := by have o := congrArg Prod.snd huv; simpa using o
      have ed : (List.range (min xs.size ys.size)).drop i = i :: (List.range (min xs.size ys.size)).drop (i + 1) := by
        simp [List.drop_eq_getElem_cons, im]
      rw [ed] at hR
      refine wpAny_bind (he i i1 i2 prog w _ _ ?_)
      cases ei : e i with
      | true =>
        rw [firstLt_yes ei] at hR
        wp_walk
        refine ⟨rfl, rfl, i + 1, hrest, fun k hk2 => ?_, hR⟩
        by_cases o : k = i
        · rw [o]; exact ei
        · exact hk k (by omega)
      | false =>
        rw [firstLt_no ei] at hR
        have hr' := hr i i1 i2 hk ei prog w
        generalize PySem.richCompare CmpOp.Lt xs[i] ys[i] = rc at hr' ⊢
        wp_walk
        refine hr' _ _ ?_
        wp_walk
        exact ⟨_, rfl, hR⟩
    case fin =>
      rintro ⟨c1, c2⟩ t ⟨hc, rfl, i, hz, hk, hR⟩
      simp only at hc
      subst hc
      have ge : min xs.size ys.size ≤ i := by
        rcases Nat.lt_or_ge i (xs.toList.zip ys.toList).length with o | o
        · rw [List.drop_eq_getElem_cons o] at hz; cases hz
        · exact zl ▸ o
      rw [List.drop_of_length_le (by simpa using ge)] at hR
      wp_walk
      exact ⟨_, rfl, by simpa [Builtin.Tuple.tupleCompareSizes, firstLt] using hR⟩
    case h =>
      exact ⟨rfl, rfl, 0, rfl, fun k hk => absurd hk (Nat.not_lt_zero _), by simpa using z⟩
theorem rcLtF {A : Around} {s : Shared} {p q : Addr} {xs ys : Array Value} {e r : Nat → Bool} (hp : s.heap.IsTuple p xs) (hq : s.heap.IsTuple q ys) (hu : A.units < cLine)
    (he : ∀ j (a1 : j < xs.size) (a2 : j < ys.size), EqAt A.in1 s xs[j] ys[j] (e j)) (hr : ∀ j (a1 : j < xs.size) (a2 : j < ys.size), (∀ i, i < j → e i = true) → e j = false → RcLt A.in1 s xs[j] ys[j] (r j)) :
    RcLt A s (.ref p) (.ref q) (firstLt e r (decide (xs.size < ys.size)) (List.range (min xs.size ys.size))) := fun prog w E Q z => by
  obtain ⟨⟨c1, d1, t1, s1⟩, g1, k1, n1, b1⟩ := id hp
  obtain ⟨⟨c2, d2, t2, s2⟩, g2, k2, n2, b2⟩ := id hq
  simp only at k1 b1 k2 b2
  subst k1 b1 k2 b2
  refine richCompare_meets_room (op := .Lt) ⟨_, g1, rfl⟩ ⟨_, g2, rfl⟩ F.slot_tuple_lt F.entry_tuple_lt (F.args_tuple_lt_2 _ _) (tup_ltF p q xs ys n1 n2 d1 d2 s1 s2 e r) ⟨g1, g2, he, hr, ?_⟩ hu
  exact ⟨fun x => (nomatch x), z⟩
/-! ### the order of data -/
mutual
def ltO : PyData → PyData → Option Bool
  | .int a, .int b => some (decide (a < b))
  | .str a, .str b => some (decide (a.cps.toList < b.cps.toList))
  | .bool a, .bool b => some (!a && b)
  | .tuple xs, .tuple ys => ltOs xs ys
  | _, _ => none
def ltOs : List PyData → List PyData → Option Bool
  | [], [] => some false
  | [], _ :: _ => some true
  | _ :: _, [] => some false
  | x :: xs, y :: ys => if PyData.eqv x y = true then ltOs xs ys else ltO x y
end
theorem firstLt_map (e r : Nat → Bool) (fin : Bool) : ∀ l : List Nat, firstLt e r fin (l.map (· + 1)) = firstLt (fun j => e (j + 1)) (fun j => r (j + 1)) fin l
  | [] => rfl
  | j :: l => by
    rw [List.map_cons]
    by_cases h : e (j + 1) = true
    · rw [firstLt_yes h, firstLt_yes (e := fun j => e (j + 1)) h]
      exact firstLt_map e r fin l
    · have h' : e (j + 1) = false := by simpa using h
      rw [firstLt_no h', firstLt_no (e := fun j => e (j + 1)) h']
/-- the order at a place -/
def ltAt (xs ys : List PyData) (j : Nat) : Bool := (ltO (xs.getD j .none) (ys.getD j .none)).getD false
theorem firstLt_ltOs : ∀ (xs ys : List PyData) (k : Bool), ltOs xs ys = some k → firstLt (pairEq xs ys) (ltAt xs ys) (decide (xs.length < ys.length)) (List.range (min xs.length ys.length)) = k
  | [], [], k, h => by cases h; rfl
  | [], y :: ys, k, h => by cases h; simp [firstLt]
  | x :: xs, [], k, h => by cases h; simp [firstLt]
  | x :: xs, y :: ys, k, h => by
    have e1 : min (x :: xs).length (y :: ys).length = min xs.length ys.length + 1 := by simp only [List.length_cons]; omega
    rw [e1, List.range_succ_eq_map]
    rw [ltOs] at h
    by_cases hx : PyData.eqv x y = true
    · rw [if_pos hx] at h
      rw [firstLt_yes (show pairEq (x :: xs) (y :: ys) 0 = true from hx), show List.map Nat.succ (List.range (min xs.length ys.length)) = (List.range (min xs.length ys.length)).map (· + 1) from rfl, firstLt_map]
      have ih := firstLt_ltOs xs ys k h
      have e2 : decide ((x :: xs).length < (y :: ys).length) = decide (xs.length < ys.length) := by simp
      rw [e2]
      exact ih
    · rw [if_neg hx] at h
      have hx' : PyData.eqv x y = false := by simpa using hx
      rw [firstLt_no (show pairEq (x :: xs) (y :: ys) 0 = false from hx')]
      show (ltO x y).getD false = k
      rw [h]; rfl
/-- where the order tells, it tells at the first place that differs -/
theorem ltOs_first : ∀ (xs ys : List PyData) (k : Bool), ltOs xs ys = some k → ∀ j, j < xs.length → j < ys.length → (∀ i, i < j → pairEq xs ys i = true) → pairEq xs ys j = false → ∃ b, ltO (xs.getD j .none) (ys.getD j .none) = some b
  | [], _, _, _, j, h1, _, _, _ => absurd h1 (Nat.not_lt_zero _)
  | _ :: _, [], _, _, j, _, h2, _, _ => absurd h2 (Nat.not_lt_zero _)
  | x :: xs, y :: ys, k, h, j, h1, h2, ha, hb => by
    rw [ltOs] at h
    cases j with
    | zero =>
      have hx : PyData.eqv x y = false := hb
      rw [if_neg (by rw [hx]; simp)] at h
      exact ⟨k, h⟩
    | succ j =>
      have hx : PyData.eqv x y = true := ha 0 (Nat.succ_pos _)
      rw [if_pos hx] at h
      exact ltOs_first xs ys k h j (by simpa using h1) (by simpa using h2) (fun i hi => ha (i + 1) (by omega)) hb
mutual
theorem rcLt_reads : ∀ (x y : PyData) (A : Around) (s : Shared) (u v : Value) (as bs : List Addr) (k : Bool), Reads s.heap u x as → Reads s.heap v y bs → x.canLay0 = true → y.canLay0 = true → A.units + min x.depth y.depth < cLine → ltO x y = some k → RcLt A s u v k
  | .int a, y, A, s, u, v, as, bs, k, ra, rb, _, _, _, h => by
    cases y with
    | int b =>
      cases ra; cases rb; cases h
      exact fun prog w E Q z => PyProof.Rows.lt_int z
    | _ => cases h
  | .str a, y, A, s, u, v, as, bs, k, ra, rb, _, _, _, h => by
    cases y with
    | str b =>
      cases ra; cases rb; cases h
      exact fun prog w E Q z => PyProof.Rows.lt_str z
    | _ => cases h
  | .bool a, y, A, s, u, v, as, bs, k, ra, rb, _, _, _, h => by
    cases y with
    | bool b =>
      cases ra; cases rb; cases h
      refine fun prog w E Q z => PyProof.Rows.lt_bool ?_
      cases a <;> cases b <;> exact z
    | _ => cases h
  | .tuple xs, y, A, s, u, v, as, bs, k, ra, rb, ca, cb, hu, h => by
    cases y with
    | tuple ys =>
      rw [ltO] at h
      cases ra with
      | tuple h1 h2 h3 h4 =>
        cases rb with
        | tuple k1 k2 k3 k4 =>
          rename_i p o vs n q o' ws n'
          have ca' : PyData.canLayAll0 xs = true := by rw [PyData.canLay0] at ca; exact ca
          have cb' : PyData.canLayAll0 ys = true := by rw [PyData.canLay0] at cb; exact cb
          have l1 := ReadsAll.length _ _ _ h4
          have l2 := ReadsAll.length _ _ _ k4
          rw [Array.length_toList] at l1 l2
          have hu' : A.units + (min (PyData.depthAll xs) (PyData.depthAll ys) + 1) < cLine := by
            simp only [PyData.depth] at hu
            have : min (PyData.depthAll xs + 1) (PyData.depthAll ys + 1) = min (PyData.depthAll xs) (PyData.depthAll ys) + 1 := by omega
            rw [this] at hu
            exact hu
          have hu1 : A.in1.units + min (PyData.depthAll xs) (PyData.depthAll ys) < cLine := by rw [Around.in1_units]; omega
          have hfin := firstLt_ltOs xs ys k h
          rw [← l1, ← l2] at hfin
          rw [← hfin]
          refine rcLtF (e := pairEq xs ys) (r := ltAt xs ys) ⟨_, h1, h2, _, h3⟩ ⟨_, k1, k2, _, k3⟩ (by omega) (fun j a1 a2 => ?_) (fun j a1 a2 hf hn => ?_)
          · have z := eqAt_readsAll xs ys A.in1 s vs.toList ws.toList _ _ h4 k4 ca' cb' hu1 j (by simpa using a1) (by simpa using a2)
            simpa using z
          · obtain ⟨b, hb⟩ := ltOs_first xs ys k h j (by omega) (by omega) hf hn
            have z := rcLt_all xs ys A.in1 s vs.toList ws.toList _ _ h4 k4 ca' cb' hu1 j b (by simpa using a1) (by simpa using a2) hb
            have e : ltAt xs ys j = b := by unfold ltAt; rw [hb]; rfl
            rw [e]
            simpa using z
    | _ => cases h
  | .none, y, _, _, _, _, _, _, k, _, _, _, _, _, h => by cases y <;> cases h
  | .list _, y, _, _, _, _, _, _, k, _, _, _, _, _, h => by cases y <;> cases h
  | .dict _, y, _, _, _, _, _, _, k, _, _, _, _, _, h => by cases y <;> cases h
theorem rcLt_all : ∀ (xs ys : List PyData) (A : Around) (s : Shared) (us vs : List Value) (as bs : List Addr), ReadsAll s.heap us xs as → ReadsAll s.heap vs ys bs → PyData.canLayAll0 xs = true → PyData.canLayAll0 ys = true → A.units + min (PyData.depthAll xs) (PyData.depthAll ys) < cLine →
    ∀ (j : Nat) (b : Bool) (h1 : j < us.length) (h2 : j < vs.length), ltO (xs.getD j .none) (ys.getD j .none) = some b → RcLt A s us[j] vs[j] b
  | [], _, _, _, _, _, _, _, ra, _, _, _, _, j, _, h1, _, _ => by cases ra; exact absurd h1 (Nat.not_lt_zero _)
  | _ :: _, [], _, _, _, _, _, _, _, rb, _, _, _, j, _, _, h2, _ => by cases rb; exact absurd h2 (Nat.not_lt_zero _)
  | x :: xs, y :: ys, A, s, _, _, _, _, ra, rb, ca, cb, hu, j, b, h1, h2, h => by
    have ca' : x.canLay0 = true ∧ PyData.canLayAll0 xs = true := by simpa [PyData.canLayAll0] using ca
    have cb' : y.canLay0 = true ∧ PyData.canLayAll0 ys = true := by simpa [PyData.canLayAll0] using cb
    cases ra with
    | cons r rs =>
      cases rb with
      | cons r' rs' =>
        simp only [PyData.depthAll] at hu
        cases j with
        | zero => exact rcLt_reads x y A s _ _ _ _ b r r' ca'.1 cb'.1 (by omega) h
        | succ j => exact rcLt_all xs ys A s _ _ _ _ rs rs' ca'.2 cb'.2 (by omega) j b (by simpa using h1) (by simpa using h2) h
end
end DL
namespace DL
open PySem PySem.Spec PyProof.Rows L2 SrtO Srt PySem.SeqAt
/-! ### data as rows of numbers, in the order of data -/
mutual
def enc : PyData → List Int
  | .none => [0]
  | .bool b => [1, if b = true then 1 else 0]
  | .int i => [1, i]
  | .str x => 2 :: (x.cps.toList.map (fun c : Nat => (c : Int) + 1) ++ [0])
  | .tuple xs => 3 :: encs xs
  | .list xs => 4 :: encs xs
  | .dict _ => [5]
def encs : List PyData → List Int
  | [] => [0]
  | x :: xs => 1 :: (enc x ++ encs xs)
end
/-- two rows differ at a place: which is the less -/
def Dif (l m : List Int) (k : Bool) : Prop := ∃ p a b u v, l = p ++ a :: u ∧ m = p ++ b :: v ∧ a ≠ b ∧ k = decide (a < b)
theorem Dif.app {l m : List Int} {k : Bool} (h : Dif l m k) (r r' : List Int) : Dif (l ++ r) (m ++ r') k := by
  obtain ⟨p, a, b, u, v, rfl, rfl, hn, hk⟩ := h
  exact ⟨p, a, b, u ++ r, v ++ r', by simp, by simp, hn, hk⟩
theorem Dif.pre {l m : List Int} {k : Bool} (h : Dif l m k) (q : List Int) : Dif (q ++ l) (q ++ m) k := by
  obtain ⟨p, a, b, u, v, rfl, rfl, hn, hk⟩ := h
  exact ⟨q ++ p, a, b, u, v, by simp, by simp, hn, hk⟩
theorem Dif.con {l m : List Int} {k : Bool} (h : Dif l m k) (q : Int) : Dif (q :: l) (q :: m) k := h.pre [q]
theorem Dif.now {a b : Int} (u v : List Int) (h : a ≠ b) : Dif (a :: u) (b :: v) (decide (a < b)) := ⟨[], a, b, u, v, rfl, rfl, h, rfl⟩
theorem Dif.lt {l m : List Int} {k : Bool} (h : Dif l m k) : decide (l < m) = k := by
  obtain ⟨p, a, b, u, v, rfl, rfl, hn, rfl⟩ := h
  induction p with
  | nil =>
    refine decide_eq_decide.mpr ?_
    rw [List.nil_append, List.nil_append, List.cons_lt_cons_iff]
    exact ⟨fun z => z.elim id fun z => absurd z.1 hn, .inl⟩
  | cons c p ih =>
    rw [← ih]
    refine decide_eq_decide.mpr ?_
    rw [List.cons_append, List.cons_append, List.cons_lt_cons_iff]
    exact ⟨fun z => z.elim (fun z => absurd z (Int.lt_irrefl _)) fun z => z.2, fun z => .inr ⟨rfl, z⟩⟩
theorem dif_cps : ∀ l m : List Nat, l ≠ m → Dif (l.map (fun c : Nat => (c : Int) + 1) ++ [0]) (m.map (fun c : Nat => (c : Int) + 1) ++ [0]) (decide (l < m))
  | [], [], h => absurd rfl h
  | [], c :: m, _ => by
    have e : decide (([] : List Nat) < c :: m) = decide ((0 : Int) < (c : Int) + 1) := by
      rw [decide_eq_true (by omega : (0 : Int) < (c : Int) + 1)]; simp
    rw [e]
    exact Dif.now (a := 0) (b := (c : Int) + 1) _ _ (by omega)
  | c :: l, [], _ => by
    have e : decide (c :: l < ([] : List Nat)) = decide ((c : Int) + 1 < 0) := by
      rw [decide_eq_false (by omega : ¬ (c : Int) + 1 < 0)]; simp
    rw [e]
    exact Dif.now (a := (c : Int) + 1) (b := 0) _ _ (by omega)
  | c :: l, d :: m, h => by
    by_cases hc : c = d
    · subst hc
      have e : decide (c :: l < c :: m) = decide (l < m) := decide_eq_decide.mpr (by rw [List.cons_lt_cons_iff]; exact ⟨fun z => z.elim (fun z => absurd z (Nat.lt_irrefl _)) fun z => z.2, fun z => .inr ⟨rfl, z⟩⟩)
      rw [e]
      exact (dif_cps l m (fun z => h (by rw [z]))).con _
    · have e : decide (c :: l < d :: m) = decide ((c : Int) + 1 < (d : Int) + 1) := decide_eq_decide.mpr (by
        rw [List.cons_lt_cons_iff]
        exact ⟨fun z => z.elim (fun z => by omega) fun z => absurd z.1 hc, fun z => .inl (by omega)⟩)
      rw [e]
      exact Dif.now (a := (c : Int) + 1) (b := (d : Int) + 1) _ _ (by omega)
mutual
theorem enc_ord : ∀ x y : PyData, x.canLay0 = true → y.canLay0 = true → (PyData.eqv x y = true → enc x = enc y) ∧ (PyData.eqv x y = false → ∀ k, ltO x y = some k → Dif (enc x) (enc y) k)
  | .none, y, _, _ => by cases y <;> simp [PyData.eqv, enc, ltO]
  | .bool a, y, _, _ => by
    cases y with
    | bool b => cases a <;> cases b <;> simp [PyData.eqv, enc, ltO] <;> exact ⟨[1], _, _, [], [], rfl, rfl, by decide, by decide⟩
    | int j => simp [PyData.eqv, enc, ltO]
    | _ => simp [PyData.eqv, enc, ltO]
  | .int i, y, _, _ => by
    cases y with
    | bool b => simp [PyData.eqv, enc, ltO]
    | int j =>
      refine ⟨fun h => by simp [PyData.eqv] at h; rw [h], fun h k hk => ?_⟩
      simp [PyData.eqv] at h
      cases hk
      exact ⟨[1], i, j, [], [], rfl, rfl, h, rfl⟩
    | _ => simp [PyData.eqv, enc, ltO]
  | .str z, y, _, _ => by
    cases y with
    | str w =>
      refine ⟨fun h => by simp [PyData.eqv] at h; rw [h], fun h k hk => ?_⟩
      simp [PyData.eqv] at h
      cases hk
      exact (dif_cps z.cps.toList w.cps.toList fun e => h (by
        obtain ⟨⟨c⟩⟩ := z; obtain ⟨⟨d⟩⟩ := w
        cases (show c = d from e); rfl)).con 2
    | _ => simp [PyData.eqv, enc, ltO]
  | .tuple xs, y, ca, cb => by
    cases y with
    | tuple ys =>
      have := encs_ord xs ys (by rw [PyData.canLay0] at ca; exact ca) (by rw [PyData.canLay0] at cb; exact cb)
      simp only [PyData.eqv, enc, ltO]
      exact ⟨fun h => by rw [this.1 h], fun h k hk => (this.2 h k hk).con 3⟩
    | _ => simp [PyData.eqv, enc, ltO]
  | .list xs, y, ca, cb => by
    cases y with
    | list ys =>
      have := encs_ord xs ys (by rw [PyData.canLay0] at ca; exact ca) (by rw [PyData.canLay0] at cb; exact cb)
      refine ⟨fun h => ?_, fun h k hk => by simp [ltO] at hk⟩
      simp only [PyData.eqv] at h
      simp only [enc]
      rw [this.1 h]
    | _ => simp [PyData.eqv, enc, ltO]
  | .dict _, y, _, _ => by cases y <;> simp [PyData.eqv, enc, ltO]
theorem encs_ord : ∀ xs ys : List PyData, PyData.canLayAll0 xs = true → PyData.canLayAll0 ys = true → (PyData.eqvAll xs ys = true → encs xs = encs ys) ∧ (PyData.eqvAll xs ys = false → ∀ k, ltOs xs ys = some k → Dif (encs xs) (encs ys) k)
  | [], [], _, _ => ⟨fun _ => rfl, fun h _ _ => by simp [PyData.eqvAll] at h⟩
  | [], y :: ys, _, _ => ⟨fun h => by simp [PyData.eqvAll] at h, fun _ k hk => by cases hk; exact Dif.now (a := 0) (b := 1) _ _ (by decide)⟩
  | x :: xs, [], _, _ => ⟨fun h => by simp [PyData.eqvAll] at h, fun _ k hk => by cases hk; exact Dif.now (a := 1) (b := 0) _ _ (by decide)⟩
  | x :: xs, y :: ys, ca, cb => by
    have ca' : x.canLay0 = true ∧ PyData.canLayAll0 xs = true := by simpa [PyData.canLayAll0] using ca
    have cb' : y.canLay0 = true ∧ PyData.canLayAll0 ys = true := by simpa [PyData.canLayAll0] using cb
    have h1 := enc_ord x y ca'.1 cb'.1
    have h2 := encs_ord xs ys ca'.2 cb'.2
    simp only [PyData.eqvAll, ltOs, encs]
    cases hx : PyData.eqv x y with
    | true =>
      rw [if_pos rfl, h1.1 hx]
      simp only [Bool.true_and]
      exact ⟨fun h => by rw [h2.1 h], fun h k hk => ((h2.2 h k hk).pre _).con 1⟩
    | false =>
      rw [if_neg (by simp)]
      simp only [Bool.false_and]
      exact ⟨(fun h => nomatch h), fun _ k hk => ((h1.2 hx k hk).app _ _).con 1⟩
end
theorem ltO_enc {x y : PyData} {k : Bool} (ca : x.canLay0 = true) (cb : y.canLay0 = true) (h : ltO x y = some k) (hn : PyData.eqv x y = false) : decide (enc x < enc y) = k := ((enc_ord x y ca cb).2 hn k h).lt
mutual
theorem ltO_self : ∀ x : PyData, ∀ y k, ltO x y = some k → PyData.eqv x y = true → k = false
  | .int a, y, k, h, e => by cases y <;> simp [ltO, PyData.eqv] at h e; rw [← h, e]; simp
  | .str a, y, k, h, e => by
    cases y <;> simp [ltO, PyData.eqv] at h e
    rw [← h, e]
    simp
  | .bool a, y, k, h, e => by cases y <;> simp [ltO, PyData.eqv] at h e; rw [← h, e]; simp
  | .tuple xs, y, k, h, e => by
    cases y with
    | tuple ys => rw [ltO] at h; rw [PyData.eqv] at e; exact ltOs_self xs ys k h e
    | _ => cases h
  | .none, y, k, h, e => by cases y <;> cases h
  | .list _, y, k, h, e => by cases y <;> cases h
  | .dict _, y, k, h, e => by cases y <;> cases h
theorem ltOs_self : ∀ xs ys : List PyData, ∀ k, ltOs xs ys = some k → PyData.eqvAll xs ys = true → k = false
  | [], [], k, h, e => by cases h; rfl
  | [], _ :: _, k, h, e => by simp [PyData.eqvAll] at e
  | _ :: _, [], k, h, e => by simp [PyData.eqvAll] at e
  | x :: xs, y :: ys, k, h, e => by
    simp [PyData.eqvAll] at e
    rw [ltOs, if_pos e.1] at h
    exact ltOs_self xs ys k h e.2
end
/-- what < tells, by the rows of numbers -/
theorem ltO_dec {x y : PyData} {k : Bool} (ca : x.canLay0 = true) (cb : y.canLay0 = true) (h : ltO x y = some k) : decide (enc x < enc y) = k := by
  cases hn : PyData.eqv x y with
  | false => exact ltO_enc ca cb h hn
  | true =>
    rw [ltO_self x y k h hn, (enc_ord x y ca cb).1 hn]
    exact decide_eq_false (List.lt_irrefl _)
section
variable {prog : Program} {w : World} {A : Around} {E : Value → Shared → Prop} {s : Shared}
noncomputable def ltR (h : Heap) (v u : Value) : Bool := decide (enc (readOf h v) < enc (readOf h u))
theorem swo_R (h : Heap) : Swo (ltR h) := by
  refine ⟨fun x y h => ?_, fun x y z h1 h2 => ?_⟩
  · have a := of_decide_eq_true h
    exact decide_eq_false fun b => absurd (List.lt_trans a b) (List.lt_irrefl _)
  · have a := of_decide_eq_false h1
    have b := of_decide_eq_false h2
    refine decide_eq_false ?_
    rw [List.not_lt] at a b ⊢
    exact List.le_trans a b
/-- two items whose kinds are known at once -/
def both (x y : PyData) : Prop := (∃ a b, x = .str a ∧ y = .str b) ∨ ∃ a b, x = .int a ∧ y = .int b
theorem oneLt_known {x y : PyData} {u v : Value} {as bs : List Addr} {k : Bool} {Q : Bool → Shared → Prop} (c : both x y) (ra : Reads s.heap u x as) (rb : Reads s.heap v y bs) (h : ltO x y = some k) (q : Q k s) : wpAny (model prog w) A (oneLt' true u v) Q E s := by
  rcases c with ⟨a, b, rfl, rfl⟩ | ⟨a, b, rfl, rfl⟩
  · cases ra; cases rb; cases h; exact oneLt_str q
  · cases ra; cases rb; cases h; exact oneLt_int q
theorem lex_data {b fin : Bool} {Q : Bool → Shared → Prop} : ∀ (xs ys : List PyData) (us vs : List Value) (as bs : List Addr) (i : Nat) (k : Bool), ReadsAll s.heap us xs as → ReadsAll s.heap vs ys bs → PyData.canLayAll0 xs = true → PyData.canLayAll0 ys = true → A.units + 1 + min (PyData.depthAll xs) (PyData.depthAll ys) < cLine →
    ltOs xs ys = some k → fin = decide (xs.length < ys.length) → (b = true → i = 0 → ∀ x r y r', xs = x :: r → ys = y :: r' → both x y) → Q k s → PySem.W.KatLex prog w A b fin Q (us.zip vs) i s
  | [], ys, us, vs, as, bs, i, k, ra, rb, _, _, _, h, hf, _, q => by
    cases ra
    have e : fin = k := by
      cases ys <;> cases h <;> rw [hf] <;> simp
    rw [List.zip_nil_left]
    exact PySem.W.kat_nil (by rw [e]; exact q)
  | x :: xs, [], us, vs, as, bs, i, k, ra, rb, _, _, _, h, hf, _, q => by
    cases rb
    cases h
    rw [List.zip_nil_right]
    exact PySem.W.kat_nil (by rw [hf]; simpa using q)
  | x :: xs, y :: ys, us, vs, as, bs, i, k, ra, rb, ca, cb, hu, h, hf, hb, q => by
    have ca' : x.canLay0 = true ∧ PyData.canLayAll0 xs = true := by simpa [PyData.canLayAll0] using ca
    have cb' : y.canLay0 = true ∧ PyData.canLayAll0 ys = true := by simpa [PyData.canLayAll0] using cb
    simp only [PyData.depthAll] at hu
    cases ra with
    | cons r rs =>
      cases rb with
      | cons r' rs' =>
        rw [List.zip_cons_cons]
        refine PySem.W.kat_cons (eqAt_reads x y A s _ _ _ _ r r' ca'.1 cb'.1 (by omega) prog w _ _ ?_)
        rw [ltOs] at h
        refine PySem.W.kat_go (fun e1 => ?_) (fun e1 => ?_)
        · rw [if_pos e1] at h
          refine PySem.W.kat_yes ?_
          refine lex_data xs ys _ _ _ _ (i + 1) k rs rs' ca'.2 cb'.2 (by omega) h ?_ (fun _ z => absurd z (Nat.succ_ne_zero i)) q
          rw [hf]; simp
        · rw [if_neg (by rw [e1]; simp)] at h
          refine PySem.W.kat_no ?_
          have gen : b = false ∨ i ≠ 0 → wpAny (model prog w) A (oneLt' false _ _) Q (fun _ _ => False) s := fun _ =>
            PySem.W.kat_one _ _ (rcLt_reads x y A s _ _ _ _ k r r' ca'.1 cb'.1 (by omega) h prog w _ _ q)
          cases b with
          | false => exact gen (.inl rfl)
          | true =>
            cases i with
            | zero => exact oneLt_known (hb rfl rfl x xs y ys rfl rfl) r r' h q
            | succ i => exact gen (.inr (Nat.succ_ne_zero i))
end
end DL
namespace DL
open PySem PySem.Spec PyProof.Rows L2 SrtO Srt PySem.SeqAt
/-! ### sorted over data -/
def SortP (ds : List PyData) : Prop := (∀ d ∈ ds, SeqAt.shaped d = true) ∧
  ((∀ d ∈ ds, ∃ z, d = .str z) ∨ (∀ d ∈ ds, ∃ z r, d = .tuple (.str z :: r)) ∨ (∀ d ∈ ds, ∃ i r, d = .tuple (.int i :: r))) ∧ ∀ x ∈ ds, ∀ y ∈ ds, ∃ k, ltO x y = some k
theorem layAll_of : ∀ {ds : List PyData}, (∀ d ∈ ds, SeqAt.shaped d = true) → PyData.canLayAll0 ds = true
  | [], _ => by simp [PyData.canLayAll0]
  | d :: ds, h => by
    simp only [PyData.canLayAll0, Bool.and_eq_true]
    exact ⟨canLay_of_shaped (h d List.mem_cons_self), layAll_of fun x hx => h x (List.mem_cons_of_mem _ hx)⟩
section
variable {prog : Program} {w : World} {A : Around} {s : Shared}
/-- what the items read as, each -/
theorem reads_each {h : Heap} {ds : List PyData} {us : List Value} {as : List Addr} (hs : ∀ d ∈ ds, SeqAt.shaped d = true) (r : ReadsAll h us ds as) : ∀ v ∈ us, ∃ bs, Reads h v (readOf h v) bs ∧ readOf h v ∈ ds := fun v hv => by
  have hl := layAll_of hs
  obtain ⟨d, bs, rd, cd, _⟩ := readsAll_mem ds us as hl r v hv
  have e := readOf_eq cd rd
  have hm := readsAll_map ds us as hl r
  refine ⟨bs, by rw [e]; exact rd, ?_⟩
  rw [← hm]
  exact List.mem_map.mpr ⟨v, hv, rfl⟩
theorem strs_of {h : Heap} : ∀ {us : List Value}, (∀ v ∈ us, ∃ z t, v = Value.str z t) → ∃ ss, StrsAre us ss
  | [], _ => ⟨[], .nil⟩
  | v :: us, q => by
    obtain ⟨z, t, rfl⟩ := q v List.mem_cons_self
    obtain ⟨ss, e⟩ := strs_of (h := h) fun u hu => q u (List.mem_cons_of_mem _ hu)
    exact ⟨z :: ss, .cons z t e⟩
theorem firsts_of' {h : Heap} {F : Value → Prop} : ∀ {us : List Value}, (∀ v ∈ us, ∃ a o xs n f, v = Value.ref a ∧ h.get? a = some o ∧ o.cls = .type "tuple" ∧ o.data = .seq xs n ∧ xs[0]? = some f ∧ F f) → ∃ fs, PySem.W.KatTups h us fs ∧ fs.length = us.length ∧ ∀ f ∈ fs, F f
  | [], _ => ⟨[], .nil, rfl, fun f hf => by simp at hf⟩
  | v :: us, q => by
    obtain ⟨a, o, xs, n, f, rfl, h1, h2, h3, h4, h5⟩ := q v List.mem_cons_self
    obtain ⟨fs, k1, k2, k3⟩ := firsts_of' fun u hu => q u (List.mem_cons_of_mem _ hu)
    refine ⟨f :: fs, .cons h1 h2 h3 h4 k1, by simp [k2], fun g hg => ?_⟩
    rcases List.mem_cons.mp hg with e | hg
    · rw [e]; exact h5
    · exact k3 g hg
theorem data_sortable {h0 : Heap} {a : Addr} {us : List Value} {ds : List PyData} {as : List Addr} (hS : SortP ds) (r : ReadsAll h0 us ds as) (hu : A.units + 66 < cLine) (h2 : 2 ≤ us.length) (hk : ∀ b o, h0.get? b = some o → b ≠ a ∧ s.heap.get? b = some o) : SortableO prog w A s a us (ltR h0) := by
  intro h' keep
  obtain ⟨hsh, kind, cmp⟩ := hS
  have kp : ∀ b o, h0.get? b = some o → h'.get? b = some o := fun b o e => keep b o (hk b o e).1 (hk b o e).2
  have each := reads_each hsh r
  have each' : ∀ v ∈ us, ∃ bs, Reads h' v (readOf h0 v) bs ∧ readOf h0 v ∈ ds := fun v hv => by
    obtain ⟨bs, r1, m1⟩ := each v hv
    exact ⟨bs, PyProof.Rows.Reads.keeps kp r1, m1⟩
  have tups : (∀ d ∈ ds, ∃ x y, d = PyData.tuple (x :: y)) → (∀ x ∈ ds, ∀ y ∈ ds, ∀ x1 r1 y1 r2, x = .tuple (x1 :: r1) → y = .tuple (y1 :: r2) → both x1 y1) → Cmp prog w A { s with heap := h' } (tuples' true) (fun p => p.1 ∈ us) (lt2 (ltR h0)) := by
    intro ht hb p q hp hq
    obtain ⟨b1, r1, m1⟩ := each' _ hp
    obtain ⟨b2, r2, m2⟩ := each' _ hq
    show wpAny (model prog w) A (keyLt' (tuples' true) p.1 q.1) (fun r s' => s' = { s with heap := h' } ∧ r = ltR h0 p.1 q.1) (fun _ _ => False) { s with heap := h' }
    obtain ⟨k, hk2⟩ := cmp _ m1 _ m2
    obtain ⟨x1, y1, e1⟩ := ht _ m1
    obtain ⟨x2, y2, e2⟩ := ht _ m2
    have c1 := canLay_of_shaped (hsh _ m1)
    have c2 := canLay_of_shaped (hsh _ m2)
    have fin : ltR h0 p.1 q.1 = k := ltO_dec c1 c2 hk2
    have hb' := hb _ m1 _ m2 x1 y1 x2 y2 e1 e2
    have d1 := depth_of_shaped (hsh _ m1)
    rw [fin]
    rw [e1] at r1 c1 hk2 d1
    rw [e2] at r2 c2 hk2
    generalize p.1 = u at r1
    generalize q.1 = v at r2
    cases r1 with
    | tuple g1 g2 g3 g4 =>
      cases r2 with
      | tuple k1 k2 k3 k4 =>
        refine PySem.W.kat_lt g1 g3 k1 k3 ?_
        have l1 := ReadsAll.length _ _ _ g4
        have l2 := ReadsAll.length _ _ _ k4
        rw [Array.length_toList] at l1 l2
        rw [ltO] at hk2
        rw [PyData.canLay0] at c1 c2
        simp only [PyData.depth] at d1
        refine lex_data (x1 :: y1) (x2 :: y2) _ _ _ _ 0 k g4 k4 c1 c2 (by omega) hk2 (by rw [l1, l2]) (fun _ _ x r y r' ex ey => ?_) ⟨rfl, rfl⟩
        cases ex; cases ey
        exact hb'
  rcases kind with kd | kd | kd
  · have hstr : ∀ v ∈ us, ∃ z t, v = Value.str z t := fun v hv => by
      obtain ⟨bs, r1, m1⟩ := each v hv
      obtain ⟨z, e⟩ := kd _ m1
      rw [e] at r1
      cases r1
      exact ⟨_, _, rfl⟩
    refine ⟨oneType', fun Q E hq => ?_, fun p q hp hq => ?_⟩
    · obtain ⟨ss, hss⟩ := strs_of (h := h') hstr
      match us, hss, h2 with
      | v1 :: v2 :: rest, hss, _ =>
        rw [keyKind_strs hss]
        exact wpAny_pure hq
      | [], _, h => exact absurd h (by decide)
      | [v], _, h => exact absurd h (by simp)
    · obtain ⟨b1, r1, m1⟩ := each _ hp
      obtain ⟨b2, r2, m2⟩ := each _ hq
      show wpAny (model prog w) A (keyLt' oneType' p.1 q.1) (fun r s' => s' = { s with heap := h' } ∧ r = ltR h0 p.1 q.1) (fun _ _ => False) { s with heap := h' }
      obtain ⟨k, hk2⟩ := cmp _ m1 _ m2
      have fin : ltR h0 p.1 q.1 = k := ltO_dec (canLay_of_shaped (hsh _ m1)) (canLay_of_shaped (hsh _ m2)) hk2
      rw [fin]
      obtain ⟨z1, e1⟩ := kd _ m1
      obtain ⟨z2, e2⟩ := kd _ m2
      rw [e1] at r1 hk2
      rw [e2] at r2 hk2
      generalize p.1 = u at r1
      generalize q.1 = v at r2
      cases r1; cases r2; cases hk2
      rw [keyLt'_oneType]
      exact oneLt_str ⟨rfl, rfl⟩
  · refine ⟨tuples' true, fun Q E hq => ?_, tups (fun d hd => by obtain ⟨z, r, e⟩ := kd d hd; exact ⟨_, _, e⟩) fun x hx y hy x1 r1 y1 r2 ex ey => ?_⟩
    · obtain ⟨fs, t1, t2, t3⟩ := firsts_of' (h := h') (F := fun f => ∃ z t, f = Value.str z t) (us := us) fun v hv => by
        obtain ⟨bs, r1, m1⟩ := each' v hv
        obtain ⟨z, r, e⟩ := kd _ m1
        rw [e] at r1
        cases r1 with
        | tuple g1 g2 g3 g4 =>
          rename_i a o vs n
          cases hvs : vs.toList with
          | nil => rw [hvs] at g4; cases g4
          | cons f rest =>
            rw [hvs] at g4
            cases g4 with
            | cons rf _ =>
              obtain ⟨t, rfl⟩ : ∃ t, f = Value.str z t := by cases rf; exact ⟨_, rfl⟩
              refine ⟨a, o, vs, n, .str z t, rfl, g1, g2, g3, ?_, z, t, rfl⟩
              have := congrArg (fun l : List Value => l[0]?) hvs
              simpa using this
      refine PySem.W.kat_kind (T := .type "str") t1 (by omega) (fun f hf => ?_) (by rfl) ?_
      · obtain ⟨z, t, rfl⟩ := t3 f hf
        exact PySem.W.Looks.now
      · have e : (Value.type "str" != Value.type "tuple") = true := by first | decide +kernel | rfl | decide
        rw [e]
        exact hq
    · obtain ⟨z, r, e⟩ := kd x hx
      obtain ⟨z', r', e'⟩ := kd y hy
      rw [e] at ex; rw [e'] at ey
      cases ex; cases ey
      exact .inl ⟨_, _, rfl, rfl⟩
  · refine ⟨tuples' true, fun Q E hq => ?_, tups (fun d hd => by obtain ⟨z, r, e⟩ := kd d hd; exact ⟨_, _, e⟩) fun x hx y hy x1 r1 y1 r2 ex ey => ?_⟩
    · obtain ⟨fs, t1, t2, t3⟩ := firsts_of' (h := h') (F := fun f => ∃ z t, f = Value.int z t) (us := us) fun v hv => by
        obtain ⟨bs, r1, m1⟩ := each' v hv
        obtain ⟨z, r, e⟩ := kd _ m1
        rw [e] at r1
        cases r1 with
        | tuple g1 g2 g3 g4 =>
          rename_i a o vs n
          cases hvs : vs.toList with
          | nil => rw [hvs] at g4; cases g4
          | cons f rest =>
            rw [hvs] at g4
            cases g4 with
            | cons rf _ =>
              obtain ⟨t, rfl⟩ : ∃ t, f = Value.int z t := by cases rf; exact ⟨_, rfl⟩
              refine ⟨a, o, vs, n, .int z t, rfl, g1, g2, g3, ?_, z, t, rfl⟩
              have := congrArg (fun l : List Value => l[0]?) hvs
              simpa using this
      refine PySem.W.kat_kind (T := .type "int") t1 (by omega) (fun f hf => ?_) (by rfl) ?_
      · obtain ⟨z, t, rfl⟩ := t3 f hf
        exact PySem.W.Looks.now
      · have e : (Value.type "int" != Value.type "tuple") = true := by first | decide +kernel | rfl | decide
        rw [e]
        exact hq
    · obtain ⟨z, r, e⟩ := kd x hx
      obtain ⟨z', r', e'⟩ := kd y hy
      rw [e] at ex; rw [e'] at ey
      cases ex; cases ey
      exact .inr ⟨_, _, rfl, rfl⟩
end
/-! ### the rule -/
theorem perm_lift {α β : Type} {f : α → β} : ∀ {out : List β} {l : List α}, out.Perm (l.map f) → ∃ l' : List α, l'.Perm l ∧ l'.map f = out
  | [], l, h => by
    have e : l.map f = [] := (List.Perm.nil_eq h).symm
    have e2 : l = [] := by cases l <;> simp_all
    exact ⟨[], by rw [e2], rfl⟩
  | b :: out, l, h => by
    have hm : b ∈ l.map f := h.mem_iff.mp List.mem_cons_self
    obtain ⟨x, hx, rfl⟩ := List.mem_map.mp hm
    obtain ⟨l1, l2, rfl⟩ := List.append_of_mem hx
    have h2 : (f x :: out).Perm (f x :: (l1 ++ l2).map f) := by
      refine h.trans ?_
      rw [List.map_append, List.map_cons, List.map_append]
      exact List.perm_middle
    obtain ⟨l', p, e⟩ := perm_lift h2.cons_inv
    exact ⟨x :: l', (p.cons x).trans List.perm_middle.symm, by rw [List.map_cons, e]⟩
theorem zip3 {α β γ : Type} : ∀ (l : List α) (m : List β) (n : List γ), m.length ≤ n.length → (l.zip (m.zip n)).map (fun t => (t.1, t.2.1)) = l.zip m
  | [], _, _, _ => by simp
  | _ :: _, [], _, _ => by simp
  | a :: l, b :: m, [], h => by simp at h
  | a :: l, b :: m, c :: n, h => by
    have ih := zip3 l m n (by simpa using h)
    simp only [List.zip_cons_cons, List.map_cons, ih]
theorem rel3_of {f : Value → PyData} : ∀ {vs : List V} {ds : List PyData} {its : List Value}, Vals vs its → its.map f = ds → ∀ t ∈ vs.zip (ds.zip its), RelV t.1 t.2.2 ∧ f t.2.2 = t.2.1
  | _, _, _, .nil, _, t, ht => by simp at ht
  | v :: vs, _, u :: its, .cons r rs, e, t, ht => by
    subst e
    rw [List.map_cons, List.zip_cons_cons, List.zip_cons_cons] at ht
    rcases List.mem_cons.mp ht with z | ht
    · rw [z]; exact ⟨r, rfl⟩
    · exact rel3_of rs rfl t ht
def srtP (ds : List PyData) : Prop := ds.Pairwise fun x y => ¬ enc y < enc x
section
variable {X : Cx}
def rSortD (K : PySem.W.Frag) : List V → Hp → VK → Prop := fun xs H Q => ∃ (p : Addr) (vs : List V) (ds : List PyData), xs = [.ref p] ∧ (SqL K H p vs ∨ SqT K H p vs) ∧ DpAll K H vs ds ∧ SortP ds ∧
  ∀ (l : List (V × PyData)) (p' : Addr), l.Perm (vs.zip ds) → srtP (l.map (·.2)) → H p' = none → Q (.ref p') (upd H p' (.lst (l.map (·.1))))
theorem cr_sortD (hu : X.A.units + 70 < cLine) : CallR X (.builtin "sorted") (rSortD X.K) := by
  intro pins s σ H xs us Q I r q
  obtain ⟨p, vs, ds, rfl, hsq, hdp, hS, q⟩ := q
  obtain ⟨u, rfl, ru⟩ := vals1 r
  obtain rfl : u = Value.ref p := ru
  obtain ⟨its, o, rv, T, hT, ho, hc, n, hd, hz⟩ : ∃ (its : List Value) (o : Obj), Vals vs its ∧ ∃ T, (T = "list" ∨ T = "tuple") ∧ s.heap.get? p = some o ∧ o.cls = .type T ∧ ∃ n, o.data = .seq its.toArray n ∧ its.length ≤ sizeLine := by
    rcases hsq with hl | ht
    · obtain ⟨its, rv, hl, hz⟩ := I.list hl
      obtain ⟨o, ho, hc, n, hd⟩ := hl.isList
      exact ⟨its, o, rv, "list", .inl rfl, ho, hc, n, hd, by rw [← rv.length]; exact hz⟩
    · obtain ⟨its, rv, hl, hz⟩ := I.tuple ht
      obtain ⟨o, ho, hc, n, hd⟩ := hl
      exact ⟨its, o, rv, "tuple", .inr rfl, ho, hc, n, hd, by rw [← rv.length]; exact hz⟩
  obtain ⟨as, hr⟩ := Dp.readsAll I ds vs its hdp rv
  have ldi : its.length = ds.length := ReadsAll.length _ _ _ hr
  refine Calls.call_function_entry PyProof.Rows.kind_sorted PyProof.Rows.plain_sorted PyProof.Rows.entry_sorted (PyProof.Rows.args_sorted1 _) ?_
  unfold Builtin.«sorted»
  refine wpAny_bind (m := checkCount "sorted" 1 1 _) (wpAny_pure ?_)
  refine wpAny_bind (wpAny_collect_seq p hT ho hc hd (fun h' hk => ?_) (by simpa using hz))
  have e0 : its.toArray.toList = its := by simp
  rw [e0]
  have I1 : Inv X pins σ H { s with heap := h', toks := s.toks } := I.kept hk
  refine wpAny_bind (wpAny_newList ?_ hz)
  have hoL : (h'.push (seqObj "list" its.toArray 0)).get? h'.objs.size = some (seqObj "list" its.toArray 0) := Heap.get?_push_size _ rfl
  show wpAny _ _ _ _ _ { s with heap := h'.push (seqObj "list" its.toArray 0), toks := s.toks }
  have hkk : ∀ b o, s.heap.get? b = some o → b ≠ h'.objs.size ∧ (h'.push (seqObj "list" its.toArray 0)).get? b = some o := fun b o e =>
    ⟨Nat.ne_of_lt (Heap.lt_size (hk b o e)), Heap.get?_push_of_some _ (hk b o e)⟩
  have hu1 : X.A.in1.in1.units + 66 < cLine := by rw [Around.in1_units, Around.in1_units]; omega
  refine wpAny_bind (wpAny_holding (wpAny_call_entry PyProof.Rows.slot_list_sort ⟨_, hoL, rfl⟩ PyProof.Rows.entry_list_sort
    (list_sort_ord (swo_R s.heap) (s := { s with heap := h'.push (seqObj "list" its.toArray 0), toks := s.toks }) hoL hz (fun h2 => data_sortable hS hr hu1 h2 hkk) fun out hs hb => ⟨_, rfl, ?_⟩)
    (PyProof.Rows.args_list_sort _)))
  obtain ⟨e', he'⟩ := PyProof.Rows.sortedHeap_at (vs := its) (out := out.toArray) hoL
  -- the values' order, lifted
  have hmap : its.map (readOf s.heap) = ds := readsAll_map ds its as (layAll_of hS.1) hr
  have hlen : vs.length = ds.length := by rw [rv.length, ldi]
  have hz3 : (vs.zip (ds.zip its)).map (fun t => t.2.2) = its := by
    have e1 : (vs.zip (ds.zip its)).map (fun t => t.2.2) = ((vs.zip (ds.zip its)).map Prod.snd).map Prod.snd := by rw [List.map_map]; rfl
    rw [e1, List.map_snd_zip (by rw [List.length_zip]; omega), List.map_snd_zip (by omega)]
  obtain ⟨l3, p3, m3⟩ := perm_lift (f := fun t : V × PyData × Value => t.2.2) (out := out) (l := vs.zip (ds.zip its)) (by rw [hz3]; exact hb.perm)
  have rel3 := rel3_of rv hmap
  have vals3 : ∀ l : List (V × PyData × Value), (∀ t ∈ l, RelV t.1 t.2.2) → Vals (l.map (·.1)) (l.map fun t => t.2.2) := by
    intro l
    induction l with
    | nil => intro _; exact .nil
    | cons t l ih => intro h; exact .cons (h t List.mem_cons_self) (ih fun u hu => h u (List.mem_cons_of_mem _ hu))
  have v3 := vals3 l3 fun t ht => (rel3 t (p3.mem_iff.mp ht)).1
  rw [m3] at v3
  have hperm : (l3.map fun t => (t.1, t.2.1)).Perm (vs.zip ds) := by
    have := p3.map fun t : V × PyData × Value => (t.1, t.2.1)
    have e : (vs.zip (ds.zip its)).map (fun t => (t.1, t.2.1)) = vs.zip ds := by
      exact zip3 vs ds its (by omega)
    rw [e] at this
    exact this
  have hsrt : srtP ((l3.map fun t => (t.1, t.2.1)).map (·.2)) := by
    have e : (l3.map fun t => (t.1, t.2.1)).map (·.2) = out.map (readOf s.heap) := by
      rw [← m3, List.map_map, List.map_map]
      exact List.map_congr_left fun t ht => ((rel3 t (p3.mem_iff.mp ht)).2).symm
    rw [e]
    exact List.pairwise_map.mpr (hs.imp fun {x y} h => of_decide_eq_false h)
  have hlen : (l3.map (·.1)).length ≤ sizeLine := by
    rw [List.length_map, p3.length_eq, List.length_zip, List.length_zip]; omega
  refine wpAny_pure ⟨_, rfl, .ref h'.objs.size, upd H h'.objs.size (.lst (l3.map (·.1))), I1.laid (t' := s.toks) (fun b u e => ?_) (Nat.le_refl _)
    (show ObjOk X.prog X.w _ _ _ (.lst (l3.map (·.1))) from ⟨hlen, out, e', v3, he'⟩), rfl, ?_⟩
  · have hb : b < h'.objs.size := Heap.lt_size e
    rw [PyProof.Rows.sortedHeap_old (Nat.ne_of_lt hb) (by rw [size_push']; exact Nat.lt_succ_of_lt hb)]
    exact Heap.get?_push_of_some _ e
  · have := q (l3.map fun t => (t.1, t.2.1)) h'.objs.size hperm hsrt (I1.hok.fresh (Nat.le_refl _))
    rw [List.map_map] at this
    exact this
end
end DL
namespace DL
open PySem PySem.Spec PyProof.Rows L2
theorem toPs_map : ∀ ds : List Dat, toPs ds = ds.map toP
  | [] => rfl
  | d :: ds => by rw [toPs, toPs_map ds]; rfl
def sortedL : RCD
  | [.lst ds], P => SortP (toPs ds) ∧ ∀ es : List Dat, es.Perm ds → srtP (toPs es) → P (.lst es)
  | [.tup ds], P => SortP (toPs ds) ∧ ∀ es : List Dat, es.Perm ds → srtP (toPs es) → P (.lst es)
  | _, _ => False
theorem dvl_zip {K : PySem.W.Frag} {S : Addr → Prop} {H : Hp} : ∀ {ds : List Dat} {vs : List V}, DvL K S H ds vs → ∀ t ∈ vs.zip ds, Dv K S H t.2 t.1
  | [], _, e, t, ht => by cases (e : _ = []); simp at ht
  | d :: ds, vs, e, t, ht => by
    obtain ⟨v, r, rfl, h1, h2⟩ := (e : ∃ v r, vs = v :: r ∧ Dv K S H d v ∧ DvL K S H ds r)
    rw [List.zip_cons_cons] at ht
    rcases List.mem_cons.mp ht with z | ht
    · rw [z]; exact h1
    · exact dvl_zip h2 t ht
theorem zip_dvl {K : PySem.W.Frag} {S : Addr → Prop} {H : Hp} : ∀ {l : List (V × Dat)}, (∀ t ∈ l, Dv K S H t.2 t.1) → DvL K S H (l.map (·.2)) (l.map (·.1))
  | [], _ => rfl
  | t :: l, h => ⟨t.1, l.map (·.1), rfl, h t List.mem_cons_self, zip_dvl fun u hu => h u (List.mem_cons_of_mem _ hu)⟩
theorem map_zip_r {α β γ : Type} (f : β → γ) : ∀ (l : List α) (m : List β), (l.zip m).map (fun t => (t.1, f t.2)) = l.zip (m.map f)
  | [], _ => by simp
  | _ :: _, [] => by simp
  | a :: l, b :: m => by simp only [List.zip_cons_cons, List.map_cons, map_zip_r f l m]
section
variable {G : Ctx} {S : Addr → Prop} {H : Hp} {pos : Pos} {a : Expr}
theorem serves_sortD : ServesC G (rSortD G.X.K) sortedL := by
  intro S σ ρ H vs ds P Q g hv h q
  have main : ∀ (p : Addr) (us : List V) (es : List Dat), (SqL G.X.K H p us ∨ SqT G.X.K H p us) → DvL G.X.K S H es us → SortP (toPs es) → (∀ fs : List Dat, fs.Perm es → srtP (toPs fs) → P (.lst fs)) → rSortD G.X.K [.ref p] H Q := by
    intro p us es hs hl hS hp
    refine ⟨p, us, toPs es, rfl, hs, dps_of es us hl (layAll_of hS.1), hS, fun l p' hperm hsrt np => ?_⟩
    have hz : (us.zip es).map (fun t => (t.1, toP t.2)) = us.zip (toPs es) := by rw [toPs_map]; exact map_zip_r toP us es
    rw [← hz] at hperm
    obtain ⟨l', p2, e2⟩ := perm_lift hperm
    have hd : DvL G.X.K S H (l'.map (·.2)) (l'.map (·.1)) := zip_dvl fun t ht => dvl_zip hl t (p2.mem_iff.mp ht)
    have e3 : l.map (·.1) = l'.map (·.1) := by rw [← e2, List.map_map]; rfl
    have e4 : toPs (l'.map (·.2)) = l.map (·.2) := by rw [toPs_map, ← e2, List.map_map, List.map_map]; rfl
    have p3 : (l'.map (·.2)).Perm es := by
      have := p2.map (fun t : V × Dat => t.2)
      rw [List.map_snd_zip (by rw [hl.len]; exact Nat.le_refl _)] at this
      exact this
    rw [e3]
    exact new_lst g hd (hp _ p3 (by rw [e4]; exact hsrt)) q p' np
  unfold sortedL at h
  split at h
  · obtain ⟨v, rfl, h1⟩ := dvl1 hv
    obtain ⟨p, xs, rfl, n, e1, hl⟩ := dv_lst h1
    exact main p xs _ (.inl (.inl (.inl e1))) hl h.1 h.2
  · obtain ⟨v, rfl, h1⟩ := dvl1 hv
    obtain ⟨p, xs, rfl, e1, hl⟩ := dv_tup h1
    exact main p xs _ (.inr (sqT_of e1)) hl h.1 h.2
  · exact h.elim
theorem hu100 {A : Around} {k : Nat} (hr : Room k A) : A.units + 100 < cLine := by have := hr.un; omega
theorem de_sortedL {p : Pos} {Fs : FA} (hu : G.X.A.units + 100 < cLine) (hm : G.X.mg "sorted" = none) (ha : DA G [a] Fs) (hg : Gl G.X "sorted" := by rfl) (he : starEach [a] G.X.env = (false, eval a G.X.env) :: starEach [] G.X.env := by rfl) : DE G (.Call (.Name "sorted" p) [a] [] pos) (fun ρ P => Fs ρ fun ds => sortedL ds P) :=
  de_cb (cr_sortD (by omega)) serves_sortD hm (by decide +kernel) ha hg (he := he)
end
section
variable {ι : Type} {G : Fam ι} {pos : Pos} {a : Expr}
/-! ### < of data -/
end
section
variable {G : Ctx} {pos : Pos} {a b : Expr} {Fa Fb : FE}
end
end DL
namespace K01
open PySem PySem.Spec PyProof.Rows L2 DL
/-! ### rows of names, of calls -/
def OkD (d : Dat) : Prop := Fine d ∧ SmV d
theorem okD_tup {xs : List Dat} : OkD (.tup xs) ↔ ∀ d ∈ xs, OkD d := by
  unfold OkD
  constructor
  · rintro ⟨h1, h2⟩ d hd
    exact ⟨Fines.mem h1 hd, smV_tup.mp h2 d hd⟩
  · intro h
    refine ⟨?_, smV_tup.mpr fun d hd => (h d hd).2⟩
    have : ∀ ys : List Dat, (∀ d ∈ ys, Fine d) → Fines ys := by
      intro ys
      induction ys with
      | nil => intro _; trivial
      | cons y ys ih => intro q; exact ⟨q y List.mem_cons_self, ih fun d hd => q d (List.mem_cons_of_mem _ hd)⟩
    exact this xs fun d hd => (h d hd).1
theorem okD_lst {xs : List Dat} : OkD (.lst xs) ↔ ∀ d ∈ xs, OkD d := by
  have e : OkD (.lst xs) ↔ OkD (.tup xs) := by
    unfold OkD
    rw [smV_lst, smV_tup]
    exact Iff.rfl
  rw [e, okD_tup]
def rowN : Dat → Bool
  | .tup [n, s, v] => isName n && valD v s
  | _ => false
def pairC : Dat → Bool
  | .tup [s, v] => valD v s
  | _ => false
def rowC : Dat → Bool
  | .tup [n, .tup ps, s, v] => isName n && valD v s && decide (1 ≤ ps.length) && decide (ps.length ≤ 3) && ps.all pairC
  | _ => false
def rowsB (r : Dat → Bool) : Dat → Bool
  | .lst xs => xs.all r
  | .tup xs => xs.all r
  | _ => false
def adjB : List Dat → Bool
  | x :: y :: r => PyData.eqv (toP y) (toP x) || adjB (y :: r)
  | _ => false
def c_rowN : Con := con1 OkD fun d => .bl (rowN d)
def c_pairC : Con := con1 OkD fun d => .bl (pairC d)
def c_rowC : Con := con1 OkD fun d => .bl (rowC d)
def c_twice : Con := conE (α := List Dat) (fun xs => [.lst xs]) (fun xs => xs.length ≤ 100000 ∧ ∀ x ∈ xs, SeqAt.shaped (toP x) = true) fun xs => .bl (adjB xs)
end K01
namespace K01
open PySem PySem.Spec PyProof.Rows L2 DL
theorem rints_len {lo : Int} {n : Nat} : (rints lo n).length = n := by simp [rints]
theorem rints_cons {lo : Int} {n : Nat} : rints lo (n + 1) = .int lo :: rints (lo + 1) n := by
  unfold rints
  rw [List.range_succ_eq_map, List.map_cons, List.map_map]
  congr 1
  · simp
  · refine List.map_congr_left fun i _ => ?_
    show Dat.int (lo + ((i + 1 : Nat) : Int)) = .int (lo + 1 + (i : Int))
    congr 1
    omega
theorem eqD_all {x y : Dat} {P : Dat → Prop} (h1 : SeqAt.shaped (toP x) = true) (h2 : SeqAt.shaped (toP y) = true) (h : P (.bl (PyData.eqv (toP x) (toP y)))) : eqD x y P := by
  unfold eqD
  split
  · rename_i a b
    have e : PyData.eqv (toP (.str a)) (toP (.str b)) = decide (a = b) := by simp [toP, PyData.eqv]; by_cases c : a = b <;> simp [c]
    rw [e] at h; exact h
  · rename_i a b
    have e : PyData.eqv (toP (.int a)) (toP (.int b)) = decide (a = b) := by simp [toP, PyData.eqv]; by_cases c : a = b <;> simp [c]
    rw [e] at h; exact h
  · exact h
  · exact h
  · exact h
  · exact ⟨h1, h2, h⟩
theorem dec_len {xs : List Dat} {n : Nat} : decide (((xs.length : Nat) : Int) = (n : Int)) = decide (xs.length = n) := decide_eq_decide.mpr (by omega)
section
variable {P : Program} {w : World} {K : PySem.W.Frag} {mg : Str → Option Value} {base : Heap} {f f2 : Addr} {fd fd2 : FuncData} {k : Nat}
abbrev s_is_row_of_names : Stmt := topS 21
theorem sc_is_row_of_names : FnScope ["thing"] ["thing"] (defScope s_is_row_of_names) := ⟨rfl, rfl, rfl, by decide +kernel, rfl, by decide +kernel, by decide +kernel⟩
-- calls ['is_value', 'is_name'] consts []
theorem ok_is_row_of_names (B : Bt mg) (F_is_name : Callee P w K mg base "is_name" k ["thing"] c_is_name) (F_is_value : Callee P w K mg base "is_value" k ["thing", "sort"] c_is_valueD) (F : Fun K "is_row_of_names" "is_row_of_names" s_is_row_of_names f fd) : FnOk P w K mg base CX0 (k + 1) f fd ["thing"] (spD K c_rowN) := by
  refine fn_pure F sc_is_row_of_names (fun ds P X ⟨d, e, _⟩ => by rw [e]; rfl) fun cdv A outer s H S hS hr => ?_
  have nd := sc_is_row_of_names.nd
  refine ⟨_, (db_one (ds_ret (de_and (de_type (TT := "tuple") (he := (de_var 0)) (hm := B.type) (hmT := B.tuple) (hv := by decide +kernel) (hn := by decide) (hd := by decide)) (de_and (de_eq hr.units (de_len B.len (da_cons (de_var 0) da_nil)) de_int) (de_and (de_fn F_is_name hr (da_cons (de_ix (de_var 0) de_int) da_nil) (by omega)) (de_one (de_fn F_is_value hr (da_cons (de_ix (de_var 0) de_int) (da_cons (de_ix (de_var 0) de_int) da_nil)) (by omega)))))))), ?_⟩
  rintro ds R X ⟨d, rfl, hok, h⟩
  replace h : R (.bl (rowN d)) := h
  cases d with
  | tup xs =>
    ((try dsimp only); refine rd_here rfl ?_; (try dsimp only))
    rw [isB_bl, if_pos (by simp [tyName])]
    ((try dsimp only); refine rd_here rfl ?_; (try dsimp only))
    rw [lenD_tup, eqD_int, isB_bl, show (3 : Int) = ((3 : Nat) : Int) from rfl, dec_len]
    match xs, hok, h with
    | [], _, h => exact h
    | [_], _, h => exact h
    | [_, _], _, h => exact h
    | _ :: _ :: _ :: _ :: _, _, h => rw [if_neg (by simp)]; exact h
    | [n, s, v], hok, h =>
      have ok := okD_tup.mp hok
      rw [if_pos (by simp)]
      ((try dsimp only); refine rd_here rfl ?_; (try dsimp only))
      rw [ixD_tup, at0, someD_some]
      refine con1_C.mpr ⟨(ok n (by simp)).1, ?_⟩
      rw [isB_bl]
      rw [show rowN (.tup [n, s, v]) = (isName n && valD v s) from rfl] at h
      cases hn : isName n with
      | false => rw [hn] at h; rw [if_neg (by decide)]; exact h
      | true =>
        rw [hn, Bool.true_and] at h
        rw [if_pos rfl]
        ((try dsimp only); refine rd_here rfl ?_; (try dsimp only))
        rw [ixD_tup, at2, someD_some]
        ((try dsimp only); refine rd_here rfl ?_; (try dsimp only))
        rw [ixD_tup, at1, someD_some]
        exact conE_use (args := fun x : Dat × Dat => [x.1, x.2]) (v, s) (ok v (by simp)).2 h
  | _ => exact h
abbrev s_is_pair_of_call : Stmt := topS 22
theorem sc_is_pair_of_call : FnScope ["thing"] ["thing"] (defScope s_is_pair_of_call) := ⟨rfl, rfl, rfl, by decide +kernel, rfl, by decide +kernel, by decide +kernel⟩
-- calls ['is_value'] consts []
theorem ok_is_pair_of_call (B : Bt mg) (F_is_value : Callee P w K mg base "is_value" k ["thing", "sort"] c_is_valueD) (F : Fun K "is_pair_of_call" "is_pair_of_call" s_is_pair_of_call f fd) : FnOk P w K mg base CX0 (k + 1) f fd ["thing"] (spD K c_pairC) := by
  refine fn_pure F sc_is_pair_of_call (fun ds P X ⟨d, e, _⟩ => by rw [e]; rfl) fun cdv A outer s H S hS hr => ?_
  have nd := sc_is_pair_of_call.nd
  refine ⟨_, (db_one (ds_ret (de_and (de_type (TT := "tuple") (he := (de_var 0)) (hm := B.type) (hmT := B.tuple) (hv := by decide +kernel) (hn := by decide) (hd := by decide)) (de_and (de_eq hr.units (de_len B.len (da_cons (de_var 0) da_nil)) de_int) (de_one (de_fn F_is_value hr (da_cons (de_ix (de_var 0) de_int) (da_cons (de_ix (de_var 0) de_int) da_nil)) (by omega))))))), ?_⟩
  rintro ds R X ⟨d, rfl, hok, h⟩
  replace h : R (.bl (pairC d)) := h
  cases d with
  | tup xs =>
    ((try dsimp only); refine rd_here rfl ?_; (try dsimp only))
    rw [isB_bl, if_pos (by simp [tyName])]
    ((try dsimp only); refine rd_here rfl ?_; (try dsimp only))
    rw [lenD_tup, eqD_int, isB_bl, show (2 : Int) = ((2 : Nat) : Int) from rfl, dec_len]
    match xs, hok, h with
    | [], _, h => exact h
    | [_], _, h => exact h
    | _ :: _ :: _ :: _, _, h => rw [if_neg (by simp)]; exact h
    | [s, v], hok, h =>
      have ok := okD_tup.mp hok
      rw [if_pos (by simp)]
      ((try dsimp only); refine rd_here rfl ?_; (try dsimp only))
      rw [ixD_tup, at1, someD_some]
      ((try dsimp only); refine rd_here rfl ?_; (try dsimp only))
      rw [ixD_tup, at0, someD_some]
      exact conE_use (args := fun x : Dat × Dat => [x.1, x.2]) (v, s) (ok v (by simp)).2 h
  | _ => exact h
abbrev s_has_twice : Stmt := topS 25
theorem sc_has_twice : FnScope ["things", "at"] ["things"] (defScope s_has_twice) := ⟨rfl, rfl, rfl, by decide +kernel, rfl, by decide +kernel, by decide +kernel⟩
-- calls [] consts []
theorem ok_has_twice (B : Bt mg) (F : Fun K "has_twice" "has_twice" s_has_twice f fd) : FnOk P w K mg base CX0 (k + 1) f fd ["things"] (spD K c_twice) := by
  refine fn_pure F sc_has_twice (fun ds P X ⟨d, e, _⟩ => by rw [e]; rfl) fun cdv A outer s H S hS hr => ?_
  have nd := sc_has_twice.nd
  refine ⟨_, (db_cons (ds_forI PassesOwn.never rfl (di_range2 B.range (da_cons de_int (da_cons (de_len B.len (da_cons (de_var 0) da_nil)) da_nil))) (dg_name 1 nd) (db_one (ds_ifc (dt_eq hr.units (de_ix (de_var 0) (de_var 1)) (de_ix (de_var 0) (de_sub (de_var 1) de_int))) (db_one (ds_ret de_bl)) db_nil))) (db_one (ds_ret de_bl))), ?_⟩
  rintro ds R X ⟨xs, rfl, ⟨hlen, hsh⟩, h⟩
  replace h : R (.bl (adjB xs)) := h
  replace hsh : ∀ x ∈ xs, SeqAt.shaped (toP x) = true := hsh
  replace hlen : xs.length ≤ 100000 := hlen
  try dsimp only
  refine ⟨fun items ρ => ∃ (n : Nat) (a : DL.Slot), ρ = [.d (.lst xs), a] ∧ items = rints ((n : Int) + 1) (xs.length - (n + 1)) ∧ adjB xs = adjB (xs.drop n), ?_, ?_, ?_⟩
  · ((try dsimp only); refine rd_here rfl ?_; (try dsimp only))
    rw [lenD_lst]
    refine ⟨⟨by omega, by omega, by omega, by omega⟩, 0, .un, rfl, ?_, rfl⟩
    congr 1
    omega
  · rintro ρ ⟨n, a, rfl, e1, e2⟩
    have e3 : xs.length ≤ n + 1 := by
      have := congrArg List.length e1
      rw [rints_len] at this
      simp at this
      omega
    have e4 : adjB (xs.drop n) = false := by
      have : (xs.drop n).length ≤ 1 := by rw [List.length_drop]; omega
      match xs.drop n, this with
      | [], _ => rfl
      | [_], _ => rfl
      | _ :: _ :: _, z => simp at z
    rw [e2, e4] at h
    exact h
  rintro d ds ρ ⟨n, a, rfl, e1, e2⟩
  obtain ⟨m, hm⟩ : ∃ m, xs.length - (n + 1) = m + 1 := by
    cases z : xs.length - (n + 1) with
    | zero => rw [z] at e1; cases e1
    | succ m => exact ⟨m, rfl⟩
  rw [hm, rints_cons] at e1
  injection e1 with e1 e3
  subst e1
  have l1 : n + 1 < xs.length := by omega
  have dr : xs.drop n = xs[n] :: xs[n + 1] :: xs.drop (n + 1 + 1) := by
    rw [List.drop_eq_getElem_cons (by omega : n < xs.length), List.drop_eq_getElem_cons l1]
  have dr1 : xs.drop (n + 1) = xs[n + 1] :: xs.drop (n + 1 + 1) := List.drop_eq_getElem_cons l1
  have ad : adjB (xs.drop n) = (PyData.eqv (toP xs[n + 1]) (toP xs[n]) || adjB (xs.drop (n + 1))) := by rw [dr, dr1]; rfl
  refine ⟨fun b => b = PyData.eqv (toP xs[n + 1]) (toP xs[n]), ?_, fun e => ?_, fun e => ?_⟩
  · ((try dsimp only); refine rd_here rfl ?_; (try dsimp only))
    ((try dsimp only); refine rd_here rfl ?_; (try dsimp only))
    rw [show ((n : Int) + 1) = ((n + 1 : Nat) : Int) by omega, ixD_lst, atI_nat (List.getElem?_eq_getElem l1), someD_some]
    ((try dsimp only); refine rd_here rfl ?_; (try dsimp only))
    ((try dsimp only); refine rd_here rfl ?_; (try dsimp only))
    rw [int0_int, show (((n + 1 : Nat) : Int) - 1) = ((n : Nat) : Int) by omega, ixD_lst, atI_nat (List.getElem?_eq_getElem (by omega : n < xs.length)), someD_some]
    exact eqD_all (hsh _ (List.getElem_mem _)) (hsh _ (List.getElem_mem _)) rfl
  · rw [e2, ad, ← e] at h
    exact h
  · refine ⟨n + 1, .d (.int ((n : Int) + 1)), rfl, ?_, ?_⟩
    · rw [e3, show xs.length - (n + 1 + 1) = m by omega, show ((n : Int) + 1 + 1) = (((n + 1 : Nat) : Int) + 1) by omega]
    · rw [e2, ad, ← e, Bool.false_or]
abbrev s_is_row_of_calls : Stmt := topS 23
theorem sc_is_row_of_calls : FnScope ["thing", "pair"] ["thing"] (defScope s_is_row_of_calls) := ⟨rfl, rfl, rfl, by decide +kernel, rfl, by decide +kernel, by decide +kernel⟩
-- calls ['is_value', 'is_name', 'is_pair_of_call'] consts ['MOST_TERMS']
theorem ok_is_row_of_calls (B : Bt mg) (C_MOST_TERMS : CI mg "MOST_TERMS" 3) (F_is_name : Callee P w K mg base "is_name" k ["thing"] c_is_name) (F_is_value : Callee P w K mg base "is_value" k ["thing", "sort"] c_is_valueD) (F_is_pair_of_call : Callee P w K mg base "is_pair_of_call" k ["thing"] c_pairC) (F : Fun K "is_row_of_calls" "is_row_of_calls" s_is_row_of_calls f fd) : FnOk P w K mg base CX0 (k + 1) f fd ["thing"] (spD K c_rowC) := by
  refine fn_pure F sc_is_row_of_calls (fun ds P X ⟨d, e, _⟩ => by rw [e]; rfl) fun cdv A outer s H S hS hr => ?_
  have nd := sc_is_row_of_calls.nd
  refine ⟨_, (db_cons (ds_ifc (dt_w (dw_or (dt_ntype (TT := "tuple") (he := (de_var 0)) (hm := B.type) (hmT := B.tuple) (hv := by decide +kernel) (hn := by decide) (hd := by decide)) (dw_or (dt_ne hr.units (de_len B.len (da_cons (de_var 0) da_nil)) de_int) (dw_or (dt_not (dt_val (de_fn F_is_name hr (da_cons (de_ix (de_var 0) de_int) da_nil) (by omega)))) (dw_or1 (dt_not (dt_val (de_fn F_is_value hr (da_cons (de_ix (de_var 0) de_int) (da_cons (de_ix (de_var 0) de_int) da_nil)) (by omega))))))))) (db_one (ds_ret de_bl)) db_nil) (db_cons (ds_ifc (dt_w (dw_or (dt_ntype (TT := "tuple") (he := (de_ix (de_var 0) de_int)) (hm := B.type) (hmT := B.tuple) (hv := by decide +kernel) (hn := by decide) (hd := by decide)) (dw_or (dt_lt (de_len B.len (da_cons (de_ix (de_var 0) de_int) da_nil)) de_int) (dw_or1 (dt_gt (de_len B.len (da_cons (de_ix (de_var 0) de_int) da_nil)) (de_ci C_MOST_TERMS)))))) (db_one (ds_ret de_bl)) db_nil) (db_cons (ds_forI PassesOwn.never rfl (di_seq (de_ix (de_var 0) de_int)) (dg_name 1 nd) (db_one (ds_ifc (dt_not (dt_val (de_fn F_is_pair_of_call hr (da_cons (de_var 1) da_nil) (by omega)))) (db_one (ds_ret de_bl)) db_nil))) (db_one (ds_ret de_bl))))), ?_⟩
  rintro ds R X ⟨d, rfl, hok, h⟩
  replace h : R (.bl (rowC d)) := h
  refine ⟨fun b => (b = true → rowC d = false) ∧ (b = false → ∃ n p s v, d = .tup [n, p, s, v] ∧ isName n = true ∧ valD v s = true), ?_, fun e => ?_, fun e => ?_⟩
  · ((try dsimp only); refine rd_here rfl ?_; (try dsimp only))
    cases d with
    | tup xs =>
      rw [if_neg (by simp [tyName])]
      ((try dsimp only); refine rd_here rfl ?_; (try dsimp only))
      rw [lenD_tup, neD_int, isB_bl, show (4 : Int) = ((4 : Nat) : Int) from rfl, dec_len]
      match xs, hok, h with
      | [], _, h => exact ⟨fun _ => rfl, fun z => nomatch z⟩
      | [_], _, h => exact ⟨fun _ => rfl, fun z => nomatch z⟩
      | [_, _], _, h => exact ⟨(fun _ => by unfold rowC; split <;> simp_all), fun z => nomatch z⟩
      | [_, _, _], _, h => exact ⟨(fun _ => by unfold rowC; split <;> simp_all), fun z => nomatch z⟩
      | a :: b :: c :: d :: e :: r, _, h =>
        rw [if_pos (by simp)]
        exact ⟨fun _ => by unfold rowC; split <;> simp_all, fun z => nomatch z⟩
      | [n, p, s, v], hok, h =>
        have ok := okD_tup.mp hok
        rw [if_neg (by simp)]
        ((try dsimp only); refine rd_here rfl ?_; (try dsimp only))
        rw [ixD_tup, at0, someD_some]
        refine con1_C.mpr ⟨(ok n (by simp)).1, ?_⟩
        rw [isB_bl]
        have e1 : isName n = false → rowC (.tup [n, p, s, v]) = false := fun z => by
          unfold rowC
          split
          · rename_i e; cases e; rw [z]; rfl
          · rfl
        have e2 : valD v s = false → rowC (.tup [n, p, s, v]) = false := fun z => by
          unfold rowC
          split
          · rename_i e; cases e; rw [z]; simp
          · rfl
        cases hn : isName n with
        | false => exact ⟨fun _ => e1 hn, fun z => nomatch z⟩
        | true =>
          rw [if_neg (by simp)]
          ((try dsimp only); refine rd_here rfl ?_; (try dsimp only))
          rw [ixD_tup, at3, someD_some]
          ((try dsimp only); refine rd_here rfl ?_; (try dsimp only))
          rw [ixD_tup, at2, someD_some]
          refine conE_use (args := fun x : Dat × Dat => [x.1, x.2]) (v, s) (ok v (by simp)).2 ?_
          rw [isB_bl]
          cases hv : valD v s with
          | false => exact ⟨fun _ => e2 hv, fun z => nomatch z⟩
          | true => exact ⟨(fun z => nomatch z), fun _ => ⟨n, p, s, v, rfl, hn, hv⟩⟩
    | _ => exact ⟨fun _ => rfl, fun z => nomatch z⟩
  · rw [e.1 rfl] at h
    exact h
  obtain ⟨n, p, s, v, rfl, hn, hv⟩ := e.2 rfl
  have ok := okD_tup.mp hok
  refine ⟨fun b => (b = true → rowC (.tup [n, p, s, v]) = false) ∧ (b = false → ∃ ps, p = .tup ps ∧ 1 ≤ ps.length ∧ ps.length ≤ 3), ?_, fun e => ?_, fun e => ?_⟩
  · ((try dsimp only); refine rd_here rfl ?_; (try dsimp only))
    rw [ixD_tup, at1, someD_some]
    have no : (∀ ps, p = .tup ps → ps.length < 1 ∨ 3 < ps.length) → rowC (.tup [n, p, s, v]) = false := fun z => by
      cases p with
      | tup ps =>
        show (isName n && valD v s && decide (1 ≤ ps.length) && decide (ps.length ≤ 3) && ps.all pairC) = false
        rcases z ps rfl with z | z
        · rw [decide_eq_false (show ¬ 1 ≤ ps.length by omega)]; simp
        · rw [decide_eq_false (show ¬ ps.length ≤ 3 by omega)]; simp
      | _ => rfl
    cases p with
    | tup ps =>
      rw [if_neg (by simp [tyName])]
      ((try dsimp only); refine rd_here rfl ?_; (try dsimp only))
      rw [ixD_tup, at1, someD_some, lenD_tup, int0_int, isB_bl]
      by_cases h1 : ps.length < 1
      · rw [if_pos (decide_eq_true (show ((ps.length : Nat) : Int) < 1 by omega))]
        exact ⟨(fun _ => no fun qs e => by cases e; exact .inl h1), fun z => nomatch z⟩
      · rw [if_neg (by simp; omega)]
        ((try dsimp only); refine rd_here rfl ?_; (try dsimp only))
        rw [ixD_tup, at1, someD_some, lenD_tup, int0_int, isB_bl]
        by_cases h3 : 3 < ps.length
        · rw [decide_eq_true (show (3 : Int) < ((ps.length : Nat) : Int) by omega)]
          exact ⟨(fun _ => no fun qs e => by cases e; exact .inr h3), fun z => nomatch z⟩
        · rw [decide_eq_false (show ¬ (3 : Int) < ((ps.length : Nat) : Int) by omega)]
          exact ⟨(fun z => nomatch z), fun _ => ⟨ps, rfl, by omega, by omega⟩⟩
    | _ => exact ⟨(fun _ => no fun qs e => nomatch e), fun z => nomatch z⟩
  · rw [e.1 rfl] at h
    exact h
  obtain ⟨ps, rfl, h1, h3⟩ := e.2 rfl
  have hrow : rowC (.tup [n, .tup ps, s, v]) = ps.all pairC := by
    show (isName n && valD v s && decide (1 ≤ ps.length) && decide (ps.length ≤ 3) && ps.all pairC) = _
    rw [hn, hv, decide_eq_true h1, decide_eq_true h3]; simp
  have okp := okD_tup.mp (ok (.tup ps) (by simp))
  refine ⟨fun items ρ => ∃ a : DL.Slot, ρ = [.d (.tup [n, .tup ps, s, v]), a] ∧ ps.all pairC = items.all pairC ∧ ∀ y ∈ items, OkD y, ?_, ?_, ?_⟩
  · ((try dsimp only); refine rd_here rfl ?_; (try dsimp only))
    rw [ixD_tup, at1, someD_some, seqOf_tup]
    exact ⟨.un, rfl, rfl, okp⟩
  · rintro ρ ⟨a, rfl, e1, _⟩
    rw [hrow, e1] at h
    exact h
  rintro y ys ρ ⟨a, rfl, e1, hy⟩
  rw [List.all_cons] at e1
  refine ⟨fun b => b = !pairC y, ?_, fun e => ?_, fun e => ?_⟩
  · ((try dsimp only); refine rd_here rfl ?_; (try dsimp only))
    refine con1_C.mpr ⟨hy y List.mem_cons_self, ?_⟩
    rw [isB_bl]
  · have : pairC y = false := by simpa using e.symm
    rw [hrow, e1, this] at h
    exact h
  · have : pairC y = true := by simpa using e
    rw [this, Bool.true_and] at e1
    exact ⟨_, rfl, e1, fun z hz => hy z (List.mem_cons_of_mem _ hz)⟩
end
end K01
namespace DL
open PySem PySem.Spec PyProof.Rows L2
/-! ### instances of own classes: their fields are data -/
def objX (C : Addr) (px : Option Addr) (ns : List Str) (ds : List Dat) : SlotX where
  ok := fun b K S H0 H v => ∃ a dx fs, v = .ref a ∧ H a = some (.ins C dx fs) ∧ fs.map (·.1) = ns ∧ DvL K S H ds (fs.map (·.2)) ∧ (b = true → S a ∧ H0 a = none) ∧ (b = false → ¬ S a) ∧ ∀ x, px = some x → a = x
  mv := fun {b K S S' H0 H0' H H' v} ⟨a, dx, fs, e1, e2, e3, e4, e5, e6, e7⟩ fr own => by
    cases b with
    | true =>
      obtain ⟨o1, o2, o3⟩ := own rfl a e1
      exact ⟨a, dx, fs, e1, o3 _ e2, e3, DvL.move fr _ _ e4, fun _ => ⟨o1 (e5 rfl).1, o2 (e5 rfl).2⟩, (fun z => nomatch z), e7⟩
    | false => exact ⟨a, dx, fs, e1, (fr a _ (e6 rfl) e2).2, e3, DvL.move fr _ _ e4, (fun z => nomatch z), fun _ => (fr a _ (e6 rfl) e2).1, e7⟩
  ad := fun {K S H0 H v} ⟨a, dx, fs, e1, e2, e3, e4, e5, e6, e7⟩ => ⟨a, _, e1, (e5 rfl).1, e2, (e5 rfl).2, fun φ z => nomatch z⟩
  fz := fun {K S S' H0 H v} ⟨a, dx, fs, e1, e2, e3, e4, e5, e6, e7⟩ fr n => ⟨a, dx, fs, e1, e2, e3, DvL.move fr _ _ e4, (fun z => nomatch z), fun _ => n a e1, e7⟩
def fldD (ns : List Str) (ds : List Dat) (f : Str) : Option Dat := (ns.zip ds).lookup f
theorem fld_at {K : PySem.W.Frag} {S : Addr → Prop} {H : Hp} {f : Str} {d : Dat} : ∀ {ds : List Dat} {fs : List (Str × V)}, DvL K S H ds (fs.map (·.2)) → fldD (fs.map (·.1)) ds f = some d → ∃ v, fs.lookup f = some v ∧ Dv K S H d v
  | [], fs, _, h => by unfold fldD at h; rw [List.zip_nil_right] at h; cases h
  | e :: ds, [], h, _ => by obtain ⟨v, r, z, _⟩ := (h : ∃ v r, ([] : List V) = v :: r ∧ Dv K S H e v ∧ DvL K S H ds r); cases z
  | e :: ds, (g, u) :: fs, h, q => by
    obtain ⟨v, r, z, h1, h2⟩ := (h : ∃ v r, (((g, u) :: fs).map (·.2)) = v :: r ∧ Dv K S H e v ∧ DvL K S H ds r)
    rw [List.map_cons] at z
    injection z with z1 z2
    subst z1; subst z2
    have q' : List.lookup f ((g, e) :: (fs.map (·.1)).zip ds) = some d := q
    by_cases c : f = g
    · subst c
      rw [List.lookup_cons_self] at q'
      cases q'
      exact ⟨u, List.lookup_cons_self, h1⟩
    · have cb : (f == g) = false := beq_eq_false_iff_ne.mpr c
      rw [List.lookup_cons, cb] at q'
      obtain ⟨w, w1, w2⟩ := fld_at h2 q'
      exact ⟨w, by rw [List.lookup_cons, cb]; exact w1, w2⟩
theorem putF_new {f : Str} {v : V} : ∀ {fs : List (Str × V)}, f ∉ fs.map (·.1) → putF f v fs = fs ++ [(f, v)]
  | [], _ => rfl
  | (g, x) :: r, h => by
    rw [List.map_cons, List.mem_cons, not_or] at h
    show (if g = f then (g, v) :: r else (g, x) :: putF f v r) = _
    rw [if_neg (fun z => h.1 z.symm), putF_new h.2]
    rfl
theorem lookup_no {f : Str} : ∀ {fs : List (Str × V)}, f ∉ fs.map (·.1) → fs.lookup f = none
  | [], _ => rfl
  | (g, x) :: r, h => by
    rw [List.map_cons, List.mem_cons, not_or] at h
    have cb : (f == g) = false := beq_eq_false_iff_ne.mpr h.1
    rw [List.lookup_cons, cb]
    exact lookup_no h.2
theorem Gd.slot_cus {G : Ctx} {S : Addr → Prop} {σ : L2.St} {H : Hp} {ρ : List Slot} (g : Gd G S σ H ρ) {i : Nat} {b : Bool} {c : SlotX} (h : ρ[i]? = some (.cus b c)) : ∃ v, σ[i]? = some (some v) ∧ c.ok b G.X.K S G.H0 H v := by
  have q := g.slots i _ h
  cases e : σ[i]? with
  | none => rw [e] at q; exact q.elim
  | some o =>
    cases o with
    | none => rw [e] at q; exact q.elim
    | some v => rw [e] at q; exact ⟨v, rfl, q⟩
section
variable {G : Ctx} {S : Addr → Prop} {σ : L2.St} {H H' : Hp} {ρ : List Slot} {pos : Pos} {C : Addr}
/-- name.f -/
theorem de_fld {x f : Str} {np : Pos} (i : Nat) (hc : Cls G.X.K C) (hn : NoAttr G.X.K C f) (hi : G.X.N[i]? = some x := by rfl) (hv : Vis G.X.env.scope x := by first | exact Or.inl rfl | exact Or.inr (Or.inl rfl) | exact Or.inr (Or.inr rfl)) (hd : (x == ("__debug__" : Str)) = false := by decide)
    (hcd : (x == ("__classdict__" : Str)) = false := by decide) (hb : attributeBase (.Name x np) f G.X.env (eval (.Name x np) G.X.env) = eval (.Name x np) G.X.env := by rfl) :
    DE G (.Attribute (.Name x np) f pos) (fun ρ P => ∃ b px ns ds d, ρ[i]? = some (.cus b (objX C px ns ds)) ∧ fldD ns ds f = some d ∧ P d) := by
  refine ⟨⟨_, pe_fld (pe_var hi hv hd hcd) hb, fun S σ H ρ P Q g h q => ?_⟩⟩
  obtain ⟨b, px, ns, ds, d, es, ed, hp⟩ := h
  obtain ⟨v, e1, a, dx, fs, rfl, e2, rfl, e4, _⟩ := g.slot_cus es
  obtain ⟨u, l1, l2⟩ := fld_at e4 ed
  exact ⟨.ref a, e1, a, C, dx, fs, u, rfl, e2, hc, hn, l1, q u d H (Stp.refl g.wld) l2 hp⟩
/-- self.f = e, f not there so far -/
theorem ds_fldNew {x f : Str} {np ap : Pos} {e : Expr} {F : FE} (i : Nat) (hc : Cls G.X.K C) (hn : NoAttr G.X.K C f) (he : DE G e F) (hi : G.X.N[i]? = some x := by rfl) (hv : Vis G.X.env.scope x := by first | exact Or.inl rfl | exact Or.inr (Or.inl rfl) | exact Or.inr (Or.inr rfl)) (hd : (x == ("__debug__" : Str)) = false := by decide)
    (hcd : (x == ("__classdict__" : Str)) = false := by decide) (hs : swapsWith e (some (.Attribute (.Name x np) f ap)) pos.line G.X.env = pure false := by rfl) :
    DS G (.Assign [.Attribute (.Name x np) f ap] e pos) (fun D ρ => F ρ fun d => ∃ px ns ds, ρ[i]? = some (.cus true (objX C px ns ds)) ∧ f ∉ ns ∧ ns.length < 1000 ∧ D.nx (ρ.set i (.cus true (objX C px (ns ++ [f]) (ds ++ [d]))))) := by
  obtain ⟨t, h, l⟩ := he.ex
  refine ⟨⟨_, ps_fld (pe_var hi hv hd hcd) h hs, fun S σ H ρ D Dh g h q => ?_⟩⟩
  refine l S σ H ρ _ _ g h fun v d H1 st hdv ⟨px, ns, ds, es, hf, hl, hp⟩ => ?_
  have g1 := g.step st
  obtain ⟨w, e1, a, dx, fs, rfl, e2, e3, e4, e5, e6, e7⟩ := g1.slot_cus es
  subst e3
  refine ⟨.ref a, e1, a, C, dx, fs, rfl, e2, hc, hn, by rw [List.length_map] at hl; exact hl, ?_⟩
  have hl2 : fs.length = ds.length := by have := e4.len; rw [List.length_map] at this; exact this
  rw [putF_new hf]
  have frp : Fr S H1 S (upd H1 a (.ins C dx (fs ++ [(f, v)]))) := fun c u n e => ⟨n, by rw [upd_ne (fun z => n (by rw [z]; exact (e5 rfl).1))]; exact e⟩
  have d1 := DvL.move frp _ _ e4
  have d2 := Dv.move frp _ _ hdv
  obtain ⟨g2, fr⟩ := g1.write (s' := .cus true (objX C px (fs.map (·.1) ++ [f]) (ds ++ [d]))) es e1 rfl rfl ⟨a, dx, fs ++ [(f, v)], rfl, upd_same, by simp, by rw [List.map_append]; exact d1.append ⟨v, [], rfl, d2, rfl⟩, e5, e6, e7⟩
  exact q.nx _ _ _ _ g2 (Fr.trans (st.fr g) fr) hp
/-! ### a class's __init__ -/
structure ConI where
  C : List Dat → (List Str → List Dat → Prop) → (Exc → Prop) → Prop
  mono : ∀ ds P P' X X', C ds P X → (∀ ns es, P ns es → P' ns es) → (∀ x, X x → X' x) → C ds P' X'
def spNew (K : PySem.W.Frag) (C : Addr) (CI : ConI) : Sp := fun vs H Q E => ∃ (S : Addr → Prop) (x dx : Addr) (rest : List V) (ds : List Dat), vs = .ref x :: rest ∧ (∀ a, S a → ∃ o, H a = some o) ∧ ¬ S x ∧ H x = some (.ins C dx []) ∧ DvL K (fun a => S a ∨ a = x) H ds rest ∧
  CI.C ds (fun ns es => ∀ dx' fs H', (∀ a o, a ≠ x → H a = some o → H' a = some o) → H' x = some (.ins C dx' fs) → fs.map (·.1) = ns → DvL K S H' es (fs.map (·.2)) → Q .non H')
    (fun ex => ∀ fs d H', (∀ a o, a ≠ x → H a = some o → H' a = some o) → (d = x ∨ H d = none) → H' d = some (.xd fs) → fs.map (·.1) = ex.2.map (·.1) → DvL K S H' (ex.2.map (·.2)) (fs.map (·.2)) → E (.ref ex.1) (some d) H')
/-- the context of an __init__'s body, which may raise -/
abbrev ctxI (P : Program) (w : World) (K : PySem.W.Frag) (mg : Str → Option Value) (base : Heap) (N : List Str) (qual : Str) (sc : Scope) (f : Addr) (cdv : Value) (A : Around) (outer : List Env) (s : Shared) (H : Hp) (S : Addr → Prop) (x : Addr) (hS : ∀ a, S a → ∃ o, (if a = x then none else H a) = some o) (E : XK) (EX : Exc → Prop)
    (el : ∀ (C d : Addr) (fs : List (Str × V)) (ds : List (Str × Dat)) (H' : Hp), EX (C, ds) → (∀ a o, (if a = x then none else H a) = some o → H' a = some o) → H' d = some (.xd fs) → fs.map (·.1) = ds.map (·.1) → DvL K S H' (ds.map (·.2)) (fs.map (·.2)) → (if d = x then none else H d) = none → E (.ref C) (some d) H') : Ctx where
  X := cxOf (L2.CX P w) P w K mg base N qual sc f cdv A outer s H E
  H0 := fun a => if a = x then none else H a
  S0 := S
  W := fun H' => ∀ a o, (if a = x then none else H a) = some o → H' a = some o
  clo := fun H1 H2 h k _ a o e => k a o o e (h a o e)
  top := fun H1 h a o e => ⟨o, h a o e⟩
  s0 := hS
  E := E
  EX := EX
  elink := el
theorem gd_startI {G : Ctx} {N : List Str} {rest : List V} {ds : List Dat} {x dx C : Addr} {H : Hp} (hw : G.W H) (ha : ∀ a, G.S0 a → ∃ o, H a = some o) (hx : H x = some (.ins C dx [])) (h0 : G.H0 x = none) (hv : DvL G.X.K (fun a => G.S0 a ∨ a = x) H ds rest) (hl : ds.length + 1 ≤ N.length) :
    Gd G (fun a => G.S0 a ∨ a = x) (L2.start N (.ref x :: rest)) H (Slot.cus true (objX C (some x) [] []) :: start (N.length - 1) ds) := by
  have hvl := hv.len
  have hlen : (L2.start N (V.ref x :: rest)).length = N.length := by unfold L2.start; simp [hvl]; omega
  refine ⟨hw, fun a h => ?_, fun a h => .inl h, ?_, fun i s hs => ?_, fun i j si sj v h1 h2 o1 o2 _ _ => ?_⟩
  · rcases h with h | rfl
    · exact ha a h
    · exact ⟨_, hx⟩
  · rw [hlen]; unfold start; simp; omega
  · cases i with
    | zero =>
      cases hs
      have : (L2.start N (V.ref x :: rest))[0]? = some (some (V.ref x)) := by unfold L2.start; rfl
      rw [this]
      exact ⟨x, dx, [], rfl, hx, rfl, rfl, fun _ => ⟨.inr rfl, h0⟩, (fun z => nomatch z), fun y e => (Option.some.inj e)⟩
    | succ i =>
      have hs' : (start (N.length - 1) ds)[i]? = some s := by simpa using hs
      have e0 : (L2.start N (V.ref x :: rest))[i + 1]? = (rest.map some ++ List.replicate (N.length - (rest.length + 1)) none)[i]? := by unfold L2.start; simp
      rw [e0]
      unfold start at hs'
      by_cases hi : i < ds.length
      · rw [List.getElem?_append_left (by simpa using hi), List.getElem?_map] at hs'
        cases e : ds[i]? with
        | none => rw [e] at hs'; cases hs'
        | some d =>
          rw [e] at hs'
          cases hs'
          obtain ⟨v, e1, e2⟩ := hv.get e
          rw [List.getElem?_append_left (by rw [List.length_map]; omega), List.getElem?_map, e1]
          exact e2
      · rw [List.getElem?_append_right (by simpa using hi), List.getElem?_replicate] at hs'
        split at hs'
        · cases hs'; exact trivial
        · cases hs'
  · have one : ∀ (i : Nat) (s : Slot), (Slot.cus true (objX C (some x) [] []) :: start (N.length - 1) ds)[i]? = some s → s.isOwn = true → i = 0 := fun i s e o => by
      cases i with
      | zero => rfl
      | succ i =>
        have e' : (start (N.length - 1) ds)[i]? = some s := by simpa using e
        unfold start at e'
        by_cases hi : i < ds.length
        · rw [List.getElem?_append_left (by simpa using hi), List.getElem?_map] at e'
          cases e2 : ds[i]? with
          | none => rw [e2] at e'; cases e'
          | some d => rw [e2] at e'; cases e'; cases o
        · rw [List.getElem?_append_right (by simpa using hi), List.getElem?_replicate] at e'
          split at e'
          · cases e'; cases o
          · cases e'
    rw [one i si h1 o1, one j sj h2 o2]
theorem fn_init {P : Program} {w : World} {K : PySem.W.Frag} {mg : Str → Option Value} {base : Heap} {x0 qual : Str} {params : Arguments} {body : List Stmt} {scope : Scope} {dvs : List V} {kws : List (Str × V)} {f C : Addr} {fd : FuncData} {N ps : List Str} {k : Nat} {CI : ConI} (F : FunD K x0 qual params body scope dvs kws f fd) (Sc : FnScope N ps scope) (len : ∀ ds P X, CI.C ds P X → ds.length + 1 = ps.length)
    (hbody : ∀ (cdv : Value) (A : Around) (outer : List Env) (s : Shared) (H : Hp) (S : Addr → Prop) (x : Addr) (hS) (E : XK) (EX : Exc → Prop) (el), Room k (A.deeper (envOfC qual scope s.heap.objs.size f cdv)) →
      ∃ T, DB (ctxI P w K mg base N qual scope f cdv A outer s H S x hS E EX el) body T ∧ ∀ ds R, CI.C ds R EX → T { nx := fun ρ => ∃ ns es, ρ[0]? = some (.cus true (objX C (some x) ns es)) ∧ R ns es, rt := fun _ => False } (Slot.cus true (objX C (some x) [] []) :: start (N.length - 1) ds)) : FnOk P w K mg base (L2.CX P w) (k + 1) f fd ps (spNew K C CI) := by
  have hpl : ps.length ≤ N.length := by have := congrArg List.length Sc.pre; rw [List.length_take] at this; omega
  refine F.ok Sc (fun vs H Q E ⟨S, x, dx, rest, ds, e, _, _, _, hv, hc⟩ => by rw [e, List.length_cons, hv.len]; exact len _ _ _ hc) fun cdv A outer s H vs Q E hr h => ?_
  obtain ⟨S, x, dx, rest, ds, rfl, hS, nx, hx, hv, hc⟩ := h
  have hS' : ∀ a, S a → ∃ o, (if a = x then none else H a) = some o := fun a ha => by
    rw [if_neg (fun z => nx (by rw [← z]; exact ha))]
    exact hS a ha
  obtain ⟨T, ⟨t, hp, l⟩, hT⟩ := hbody cdv A outer s H S x hS' E (fun ex => ∀ fs d H', (∀ a o, a ≠ x → H a = some o → H' a = some o) → (d = x ∨ H d = none) → H' d = some (.xd fs) → fs.map (·.1) = ex.2.map (·.1) → DvL K S H' (ex.2.map (·.2)) (fs.map (·.2)) → E (.ref ex.1) (some d) H')
    (fun C d fs ds H' q e h1 h2 h3 h4 => q fs d H' (fun a o n z => e a o (by rw [if_neg n]; exact z)) (by
      by_cases z : d = x
      · exact .inl z
      · rw [if_neg z] at h4; exact .inr h4) h1 h2 h3) hr
  refine ⟨t, hp, ?_⟩
  refine l _ _ H _ _ _ (gd_startI (G := ctxI P w K mg base N qual scope f cdv A outer s H S x hS' E _ _) (dx := dx) (C := C) (fun a o e => ?_) hS hx (if_pos rfl) hv (by rw [len _ _ _ hc]; exact hpl)) (hT ds _ hc) ?_
  · by_cases z : a = x
    · rw [if_pos z] at e; cases e
    · rw [if_neg z] at e; exact e
  · refine ⟨fun S' σ' H' ρ' g fr ⟨ns, es, er, q⟩ => ?_, fun v d H' hw hv q => q.elim, fun _ _ _ _ _ _ z => z.elim, fun _ _ _ _ _ _ z => z.elim⟩
    obtain ⟨v, e1, a, dx', fs, rfl, e2, e3, e4, e5, e6, e7⟩ := g.slot_cus er
    have ea := e7 x rfl
    subst ea
    exact q dx' fs H' (fun b o n e => g.wld b o (by rw [if_neg n]; exact e)) e2 e3 (DvL.move (fun b o n e => ⟨fun z => n (g.sub b z), e⟩) _ _ e4)
end
end DL
namespace DL
open PySem PySem.Spec PyProof.Rows L2
/-! ### calls by instances: methods, which may raise -/
structure ConM where
  C : List Slot → (Dat → Prop) → (Exc → Prop) → Prop
  mono : ∀ sl P P' X X', C sl P X → (∀ d, P d → P' d) → (∀ x, X x → X' x) → C sl P' X'
def spM (K : PySem.W.Frag) (C : ConM) : Sp := fun vs H Q E => ∃ (S : Addr → Prop) (sl : List Slot), (∀ a, S a → ∃ o, H a = some o) ∧ SlL K S H sl vs ∧
  C.C sl (fun d => ∀ v H', Evl.Ex H H' → Dv K S H' d v → Q v H')
    (fun x => ∀ fs d H', Evl.Ex H H' → H d = none → H' d = some (.xd fs) → fs.map (·.1) = x.2.map (·.1) → DvL K S H' (x.2.map (·.2)) (fs.map (·.2)) → E (.ref x.1) (some d) H')
/-- THE RULE for a def whose arguments are instances, too, and that may raise -/
theorem fn_pureM {P : Program} {w : World} {K : PySem.W.Frag} {mg : Str → Option Value} {base : Heap} {x qual : Str} {st : Stmt} {f : Addr} {fd : FuncData} {N ps : List Str} {k : Nat} {C : ConM} (F : Fun K x qual st f fd) (Sc : FnScope N ps (defScope st)) (len : ∀ sl P X, C.C sl P X → sl.length = ps.length)
    (hbody : ∀ (cdv : Value) (A : Around) (outer : List Env) (s : Shared) (H : Hp) (S : Addr → Prop) (hS : ∀ a, S a → ∃ o, H a = some o) (E : XK) (EX : Exc → Prop) (el), Room k (A.deeper (envOfC qual (defScope st) s.heap.objs.size f cdv)) →
      ∃ T, DB (ctxX P w K mg base N qual (defScope st) f cdv A outer s H S hS E EX el) (defBody st) T ∧ ∀ sl R, C.C sl R EX → T { nx := fun _ => R .non, rt := R } (startS N.length sl)) : FnOk P w K mg base (L2.CX P w) (k + 1) f fd ps (spM K C) := by
  have hpl : ps.length ≤ N.length := by have := congrArg List.length Sc.pre; rw [List.length_take] at this; omega
  refine F.okX Sc (fun vs H Q E ⟨S, sl, _, hv, hc⟩ => by rw [hv.len]; exact len _ _ _ hc) fun cdv A outer s H vs Q E hr h => ?_
  obtain ⟨S, sl, hS, hv, hc⟩ := h
  obtain ⟨T, ⟨t, hp, l⟩, hT⟩ := hbody cdv A outer s H S hS E (fun x => ∀ fs d H', Evl.Ex H H' → H d = none → H' d = some (.xd fs) → fs.map (·.1) = x.2.map (·.1) → DvL K S H' (x.2.map (·.2)) (fs.map (·.2)) → E (.ref x.1) (some d) H')
    (fun C d fs ds H' q e h1 h2 h3 h4 => q fs d H' e h4 h1 h2 h3) hr
  refine ⟨t, hp, ?_⟩
  refine l S _ H (startS N.length sl) _ _ (gd_startS (G := ctxX P w K mg base N qual (defScope st) f cdv A outer s H S hS E _ _) (fun _ _ e => e) hS hv (by rw [len _ _ _ hc]; exact hpl)) (hT sl _ hc) ?_
  exact ⟨fun S' σ' H' ρ' g fr q => q .non H' g.wld rfl, fun v d H' hw hv q => q v H' hw hv, fun _ _ _ _ _ _ z => z.elim, fun _ _ _ _ _ _ z => z.elim⟩
structure CalleeM (P : Program) (w : World) (K : PySem.W.Frag) (mg : Str → Option Value) (base : Heap) (C : Addr) (m : Str) (k : Nat) (ps : List Str) (con : ConM) : Prop where
  ex : ∃ f fd, FnOk P w K mg base (L2.CX P w) k f fd ps (spM K con) ∧ Meth K C m f ∧ Binds K fd ps []
section
variable {G : Ctx} {S : Addr → Prop} {σ : L2.St} {H H' : Hp} {ρ : List Slot} {pos : Pos} {C : Addr} {e : Expr} {es : List Expr}
theorem spM_use0 {con : ConM} {vs : List V} {sl : List Slot} {P : Dat → Prop} {Q : VK} {E : XK} (g : Gd G S σ H ρ) (hv : SlL G.X.K S H sl vs) (h : con.C sl P (fun _ => False)) (q : ∀ v d H', Stp G H H' → Dv G.X.K S H' d v → P d → Q v H') : spM G.X.K con vs H Q E :=
  ⟨S, sl, g.all, hv, con.mono sl _ _ _ _ h (fun d hp v H' e hd => q v d H' (Stp.ex g.wld e) hd hp) fun x hx => hx.elim⟩
theorem obj_arg {px : Option Addr} {ns : List Str} {ds : List Dat} {v : V} (h : (objX C px ns ds).ok false G.X.K S G.H0 H v) : ArgOk G.X.K S H (.cus false (objX C px ns ds)) v :=
  (objX C px ns ds).mv h (fun _ _ n e => ⟨n, e⟩) fun z => nomatch z
/-- name.m(), which doesn't raise -/
theorem de_meth0 {x m : Str} {k mm : Nat} {ps : List Str} {con : ConM} {np apos : Pos} (i : Nat) (h : CalleeM G.X.prog G.X.w G.X.K G.X.mg G.X.base C m k ps con) (hc : Cls G.X.K C) (hr : Room mm G.X.A) (hk : k ≤ mm := by decide) (hi : G.X.N[i]? = some x := by rfl) (hv : Vis G.X.env.scope x := by first | exact Or.inl rfl | exact Or.inr (Or.inl rfl) | exact Or.inr (Or.inr rfl)) (hd : (x == ("__debug__" : Str)) = false := by decide)
    (hcd : (x == ("__classdict__" : Str)) = false := by decide) {pl : Sem Bool}
    (ht : eval (.Call (.Attribute (.Name x np) m apos) [] [] pos) G.X.env = (do
      let ov ← eval (.Name x np) G.X.env
      standAt apos.atName
      let (f, first) ← holding [ov] (getMethod ov m pl)
      callWith pos f first (backTo pos (starEach [] G.X.env)) (backToKw pos (keywordEach [] G.X.env))) := by rfl) :
    DE G (.Call (.Attribute (.Name x np) m apos) [] [] pos) (fun ρ P => ∃ px ns fs, ρ[i]? = some (.cus false (objX C px ns fs)) ∧ m ∉ ns ∧ con.C [.cus false (objX C px ns fs)] P (fun _ => False)) := by
  obtain ⟨f, fd, F, hm, hb⟩ := h.ex
  refine ⟨⟨_, pe_meth0 (pe_var hi hv hd hcd) hc hm F (hr.mono hk) hb .nil passL ht, fun S σ H ρ P Q g h q => ?_⟩⟩
  obtain ⟨px, ns, fs, es, hn, h⟩ := h
  obtain ⟨v, e1, ok⟩ := g.slot_cus es
  obtain ⟨a, dx, fvs, rfl, e2, e3, e4, e5, e6, e7⟩ := id ok
  refine ⟨.ref a, e1, a, dx, fvs, rfl, e2, lookup_no (by rw [e3]; exact hn), ?_⟩
  exact spM_use0 (sl := [.cus false (objX C px ns fs)]) g ⟨.ref a, [], rfl, obj_arg ok, rfl⟩ h q
end
/-! ### instances made -/
/-- a class, called with n arguments by place and these by name: gD puts them in the parameters' order, what lacks filled up -/
structure MkC (P : Program) (w : World) (K : PySem.W.Frag) (mg : Str → Option Value) (base : Heap) (x : Str) (k : Nat) (C : Addr) (CI : ConI) (n : Nat) (ks : List Str) (gD : List Dat → List Dat → List Dat) : Prop where
  ex : ∃ f fd ps, Mk K C f ∧ mg x = some (.ref C) ∧ FnOk P w K mg base (L2.CX P w) k f fd ps (spNew K C CI) ∧ ∃ (g : List Value → List Value → List Value) (gV gW : List V → List V → List V), KBn K fd ps (n + 1) ks g gV ∧ (∀ x vs zs, vs.length = n → zs.length = ks.length → gV (x :: vs) zs = x :: gW vs zs) ∧
    ∀ S H ds es vs zs, DvL K S H ds vs → DvL K S H es zs → vs.length = n → zs.length = ks.length → DvL K S H (gD ds es) (gW vs zs)
structure DK (G : Ctx) (kws : List Keyword) (F : FA) : Prop where
  ex : ∃ t, PK G.X kws t ∧ LiftA G t F
theorem dk_nil {G : Ctx} : DK G [] (fun _ P => P []) := ⟨⟨_, pk_nil, fun _ _ H _ _ _ g h q => q [] [] H (Stp.refl g.wld) rfl h⟩⟩
theorem dk_cons {G : Ctx} {e : Expr} {kws : List Keyword} {nm : Option Str} {kpos : Pos} {F : FE} {Fs : FA} (ha : DE G e F) (hr : DK G kws Fs) : DK G (⟨nm, e, kpos⟩ :: kws) (fun ρ P => F ρ fun x => Fs ρ fun xs => P (x :: xs)) := by
  obtain ⟨t, h1, l1⟩ := ha.ex
  obtain ⟨u, h2, l2⟩ := hr.ex
  refine ⟨⟨_, pk_cons h1 h2, fun S σ H ρ P Q g h q => ?_⟩⟩
  refine l1 S σ H ρ _ _ g h fun v d H1 st hv h' => ?_
  refine l2 S σ H1 ρ _ _ (g.step st) h' fun vs ds H2 st2 hvs hp => ?_
  exact q _ (d :: ds) H2 (st.trans st2) ⟨v, vs, rfl, st2.dv (g.step st) hv, hvs⟩ hp
section
variable {G : Ctx} {S : Addr → Prop} {σ : L2.St} {H H' : Hp} {ρ : List Slot} {pos : Pos} {C : Addr} {e : Expr} {es : List Expr} {kws : List Keyword}
/-- what making one comes to -/
theorem new_use {CI : ConI} {gW : List V → List V → List V} {gD : List Dat → List Dat → List Dat} {us zs : List V} {ds ks : List Dat} {W : List Str → List Dat → Prop} {Q : VK} {E : XK} {EX : Exc → Prop} (g : Gd G S σ H ρ) (hd : DvL G.X.K S H (gD ds ks) (gW us zs)) (h : CI.C (gD ds ks) W EX)
    (hE : ∀ ex, EX ex → ∀ fs d H', Evl.Ex H H' → H d = none → H' d = some (.xd fs) → fs.map (·.1) = ex.2.map (·.1) → DvL G.X.K S H' (ex.2.map (·.2)) (fs.map (·.2)) → E (.ref ex.1) (some d) H')
    (q : ∀ v ns fs H', Stp G H H' → ArgOk G.X.K S H' (.cus false (objX C none ns fs)) v → W ns fs → Q v H') :
    ∀ x dx, H x = none → H dx = none → dx ≠ x → spNew G.X.K C CI (.ref x :: gW us zs) (upd (upd H dx (.own x)) x (.ins C dx [])) (fun v H3 => v = .non ∧ Q (.ref x) H3) E := by
  intro x dx nx ndx ne
  have exn : ∀ {H' : Hp}, (∀ a o, a ≠ x → upd (upd H dx (.own x)) x (.ins C dx []) a = some o → H' a = some o) → Evl.Ex H H' := fun {H'} k a o e => by
    have h1 : a ≠ x := ne_of_none e nx
    have h2 : a ≠ dx := ne_of_none e ndx
    exact k a o h1 (by rw [upd_ne h1, upd_ne h2]; exact e)
  refine ⟨S, x, dx, gW us zs, gD ds ks, rfl, fun a ha => ?_, g.fresh nx, upd_same, DvL.move (fun a o n e => ⟨fun z => z.elim n (ne_of_none e nx), ?_⟩) _ _ hd, CI.mono _ _ _ _ _ h (fun ns fs hw dx' fvs H' k e1 e2 e3 => ⟨rfl, q (.ref x) ns fs H' (Stp.ex g.wld (exn k)) ⟨x, dx', fvs, rfl, e1, e2, e3, (fun z => nomatch z), fun _ => g.fresh nx, fun y z => nomatch z⟩ hw⟩)
    fun ex hx fs d H' k hd2 e1 e2 e3 => hE ex hx fs d H' (exn k) ?_ e1 e2 e3⟩
  · obtain ⟨o, e⟩ := g.all a ha
    exact ⟨o, by rw [upd_ne (ne_of_none e nx), upd_ne (ne_of_none e ndx)]; exact e⟩
  · rw [upd_ne (ne_of_none e nx), upd_ne (ne_of_none e ndx)]; exact e
  · rcases hd2 with rfl | hd2
    · exact nx
    · cases z : H d with
      | none => rfl
      | some o =>
        rw [upd_ne (ne_of_none z nx), upd_ne (ne_of_none z ndx), z] at hd2
        cases hd2
end
/-! ### expressions that tell instances, over a state -/
structure DXR {ι : Type} (G : Fam ι) (e : Expr) (F : List Slot → ι → (Slot → ι → Prop) → Prop) : Prop where
  ex : ∃ t, PE G.X e t ∧ ∀ S σ H ρ i P (Q : VK), Gd (G.at i) S σ H ρ → F ρ i P → (∀ v s H' j, StpI G j H H' → ArgOk G.X.K S H' s v → P s j → Q v H') → t σ H Q
section
variable {ι : Type} {G : Fam ι} {S S' : Addr → Prop} {σ : L2.St} {H H' : Hp} {ρ : List Slot} {pos : Pos} {C : Addr} {e : Expr} {es : List Expr} {kws : List Keyword}
/-- C(e, .., k = v, ..), made -/
theorem dxr_make {x : Str} {k mm n : Nat} {ks : List Str} {CI : ConI} {gD : List Dat → List Dat → List Dat} {p : Pos} {Fs Fk : ι → FA} (M : MkC G.X.prog G.X.w G.X.K G.X.mg G.X.base x k C CI n ks gD) (hr : Room mm G.X.A) (ha : ∀ i, DA (G.at i) (e :: es) (Fs i)) (hkw : ∀ i, DK (G.at i) kws (Fk i)) (hk : k + 1 ≤ mm := by decide) (hg : Gl G.X x := by rfl)
    (hall : (backToKw pos (keywordEach kws G.X.env)).all (·.1.isSome) = true := by rfl) (hks : (backToKw pos (keywordEach kws G.X.env)).filterMap (·.1) = ks := by rfl) (hdb : (x == ("__debug__" : Str)) = false := by decide)
    (he : starEach (e :: es) G.X.env = (false, eval e G.X.env) :: starEach es G.X.env := by rfl) (hpl : ((backTo pos (starEach (e :: es) G.X.env)).any (·.1) || (backToKw pos (keywordEach kws G.X.env)).any (·.1.isNone)) = false := by rfl) :
    DXR G (.Call (.Name x p) (e :: es) kws pos) (fun ρ i P => Fs i ρ fun us => Fk i ρ fun zs => us.length = n ∧ zs.length = ks.length ∧ CI.C (gD us zs) (fun ns fs => P (.cus false (objX C none ns fs)) i) (fun _ => False)) := by
  obtain ⟨f, fd, ps, M1, hm, F, gg, gV, gW, hb, h1, h2⟩ := M.ex
  have ha' : ∀ i, ∃ t, PA G.X (e :: es) t ∧ LiftA (G.at i) t (Fs i) := fun i => (ha i).ex
  have hk' : ∀ i, ∃ t, PK G.X kws t ∧ LiftA (G.at i) t (Fk i) := fun i => (hkw i).ex
  refine ⟨⟨fun σ H Q => ∃ t u, PA G.X (e :: es) t ∧ PK G.X kws u ∧ tMakeK C n ks.length (spNew G.X.K C CI) gV E0 t u σ H Q, ⟨fun pins s σ H Q I ⟨t, u, pt, pu, hq⟩ => (pe_makeK M1 F (hr.mono hk) hg hm hb passL pt pu hall hks hdb he hpl).run pins s σ H Q I hq⟩, fun S σ H ρ i P Q g hF q => ?_⟩⟩
  obtain ⟨t, pt, l⟩ := ha' i
  obtain ⟨u, pu, l'⟩ := hk' i
  refine ⟨t, u, pt, pu, ?_⟩
  refine l S σ H ρ _ _ g hF fun vs ds H1 st hv hp => ?_
  refine l' S σ H1 ρ _ _ (g.step st) hp fun zs es H2 st2 hz ⟨l1, l2, hp⟩ => ?_
  have g2 := (g.step st).step st2
  have lv : vs.length = n := by rw [hv.len]; exact l1
  have lz : zs.length = ks.length := by rw [hz.len]; exact l2
  refine ⟨lv, lz, fun x dx nx ndx ne => ?_⟩
  rw [h1 _ _ _ lv lz]
  exact new_use (gD := gD) g2 (h2 _ _ _ _ _ _ (st2.dvl (g.step st) hv) hz lv lz) hp (fun ex hx => hx.elim) (fun v ns fs H' st3 ok hw => q v _ H' i (.of ((st.trans st2).trans st3)) ok hw) x dx nx ndx ne
/-! ### names set to instances -/
theorem Gd.setArg {G : Ctx} {S : Addr → Prop} {σ : L2.St} {H : Hp} {ρ : List Slot} (g : Gd G S σ H ρ) {i : Nat} {s : Slot} {v : V} (h : ArgOk G.X.K S H s v) : Gd G S (σ.set i (some v)) H (ρ.set i s) := by
  obtain ⟨hs, ho⟩ := argOk_slot (H0 := G.H0) h
  refine ⟨g.wld, g.all, g.sub, by simp [g.len], fun j t ht => ?_, fun j k sj sk w h1 h2 o1 o2 e1 e2 => ?_⟩
  · rw [getset] at ht
    rw [getset]
    have hl := g.len
    by_cases hj : j = i
    · rw [if_pos hj] at ht ⊢
      split at ht
      · cases ht
        rw [if_pos (by omega)]
        exact hs
      · cases ht
    · rw [if_neg hj] at ht ⊢
      exact g.slots j t ht
  · rw [getset] at h1 h2
    rw [getset] at e1 e2
    by_cases hj : j = i
    · rw [if_pos hj] at h1
      split at h1
      · cases h1; rw [ho] at o1; cases o1
      · cases h1
    · by_cases hk : k = i
      · rw [if_pos hk] at h2
        split at h2
        · cases h2; rw [ho] at o2; cases o2
        · cases h2
      · rw [if_neg hj] at h1 e1
        rw [if_neg hk] at h2 e2
        exact g.apart j k sj sk w h1 h2 o1 o2 e1 e2
theorem dsr_setX {x : Str} {pos' : Pos} {F : List Slot → ι → (Slot → ι → Prop) → Prop} (n : Nat) (he : DXR G e F) (hN : G.X.N.Nodup) (hi : G.X.N[n]? = some x := by rfl) (hx : Loc G.X.env.scope x := by first | exact Or.inl rfl | exact Or.inr rfl) (hs : swapsWith e (some (.Name x pos')) pos.line G.X.env = pure false := by rfl)
    (hf : G.X.fn x = true ∨ G.X.env.scope.names.lookup x = some .local := by first | exact .inl rfl | exact .inr rfl) : DSR G (.Assign [.Name x pos'] e pos) (fun D ρ i => F ρ i fun s j => D.nx (ρ.set n s) j) := by
  obtain ⟨t, h, l⟩ := he.ex
  refine ⟨⟨_, ps_set (i := n) hN hi hx h hs hf, fun S σ H ρ i D Dh g h q => ?_⟩⟩
  exact l S σ H ρ i _ _ g h fun v s H1 j st hv hp => q.nx S _ H1 _ j ((g.stepI st).setArg hv) (st.fr g) hp
theorem dsl_x {F : List Slot → ι → (Slot → ι → Prop) → Prop} {Fs : FSR' ι} (ha : DXR G e F) (hr : DSl G es Fs) (hs : starEach (e :: es) G.X.env = (false, eval e G.X.env) :: starEach es G.X.env := by rfl) :
    DSl G (e :: es) (fun ρ i P => F ρ i fun x j => Fs ρ j fun xs k => P (x :: xs) k) := by
  obtain ⟨t, h1, l1⟩ := ha.ex
  obtain ⟨u, h2, l2⟩ := hr.ex
  refine ⟨⟨_, pa_cons h1 h2 hs, fun S σ H ρ i P Q g h q => ?_⟩⟩
  refine l1 S σ H ρ i _ _ g h fun v s H1 j st hv h' => ?_
  refine l2 S σ H1 ρ j _ _ (g.stepI st) h' fun vs sl H2 k st2 hvs hp => ?_
  exact q _ (s :: sl) H2 k (st.trans st2) ⟨v, vs, rfl, ArgOk.move (st2.fr (g.stepI st)) hv, hvs⟩ hp
end
/-! ### a tuple of names, set to a tuple of what may be instances -/
section
variable {ι : Type} {G : Fam ι} {pos : Pos} {es ts : List Expr}
end
end DL
namespace DL
open PySem PySem.Spec PyProof.Rows L2
section
variable {G : Ctx} {S : Addr → Prop} {σ : L2.St} {H H' : Hp} {ρ : List Slot} {pos : Pos} {a e : Expr} {es : List Expr} {Fa : FE} {Fs : FA}
/-- name(e, ..), the name holds a def -/
theorem de_callR {x : Str} {p : Pos} {k m : Nat} (con : Con) (i : Nat) (hr : Room m G.X.A) (ha : DA G (e :: es) Fs) (hk : k ≤ m := by decide) (hi : G.X.N[i]? = some x := by rfl) (hv : Vis G.X.env.scope x := by first | exact Or.inl rfl | exact Or.inr (Or.inl rfl) | exact Or.inr (Or.inr rfl)) (hdb : (x == ("__debug__" : Str)) = false := by decide)
    (hcd : (x == ("__classdict__" : Str)) = false := by decide) (he : starEach (e :: es) G.X.env = (false, eval e G.X.env) :: starEach es G.X.env := by rfl) (hpl : (backTo pos (starEach es G.X.env)).any (·.1) = false := by rfl) :
    DE G (.Call (.Name x p) (e :: es) [] pos) (fun ρ P => ∃ f, ρ[i]? = some (.raw (.ref f)) ∧ Held G.X.prog G.X.w G.X.K G.X.mg G.X.base k f (spD G.X.K con) ∧ Fs ρ fun ds => con.C ds P (fun _ => False)) := by
  obtain ⟨t, h, l⟩ := ha.ex
  refine ⟨⟨fun σ H Q => ∃ f, σ[i]? = some (some (.ref f)) ∧ Held G.X.prog G.X.w G.X.K G.X.mg G.X.base k f (spD G.X.K con) ∧ t σ H fun vs H1 => spD G.X.K con (vs ++ []) H1 Q E0, ⟨fun pins s σ H Q I ⟨f, hs, hh, ht⟩ => ?_⟩, fun S σ H ρ P Q g h q => ?_⟩⟩
  · obtain ⟨fd, ps, F, hkp, hb⟩ := hh.ex
    exact (pe_callL (i := i) (f := f) (sp := spD G.X.K con) (dvs := []) (E := E0) F (hr.mono hk) hi hv hkp hb .nil (fun _ _ _ _ _ _ _ z => z.elim) h hdb hcd he hpl).run pins s σ H Q I ⟨hs, ht⟩
  · obtain ⟨f, er, hh, h⟩ := h
    refine ⟨f, g.slot_raw er, hh, l S σ H ρ _ _ g h fun vs ds H1 st hdv hp => ?_⟩
    rw [List.append_nil]
    exact spD_use (g.step st) hdv hp fun v d H2 st2 => q v d H2 (st.trans st2)
/-- a def that is handed a def, by its name -/
structure CalleeMf (P : Program) (w : World) (K : PySem.W.Frag) (mg : Str → Option Value) (base : Heap) (x : Str) (k : Nat) (ps : List Str) (con : ConM) : Prop where
  ex : ∃ f fd, FnOk P w K mg base (L2.CX P w) k f fd ps (spM K con) ∧ mg x = some (.ref f) ∧ PySem.W.keepIn K (.ref f) = true ∧ Binds K fd ps []
/-- x(e, y), y the name of a def -/
theorem de_fnMf {x y : Str} {p py : Pos} {k m : Nat} {ps : List Str} {con : ConM} {fy : Addr} (h : CalleeMf G.X.prog G.X.w G.X.K G.X.mg G.X.base x k ps con) (hr : Room m G.X.A) (ha : DE G a Fa) (my : G.X.mg y = some (.ref fy)) (hk : k ≤ m := by decide) (hg : Gl G.X x := by rfl) (hgy : Gl G.X y := by rfl) (hdb : (x == ("__debug__" : Str)) = false := by decide) (hdy : (y == ("__debug__" : Str)) = false := by decide)
    (he : starEach [a, .Name y py] G.X.env = (false, eval a G.X.env) :: starEach [.Name y py] G.X.env := by rfl) (he2 : starEach [Expr.Name y py] G.X.env = (false, eval (.Name y py) G.X.env) :: starEach [] G.X.env := by rfl) (hpl : (backTo pos (starEach [.Name y py] G.X.env)).any (·.1) = false := by rfl) :
    DE G (.Call (.Name x p) [a, .Name y py] [] pos) (fun ρ P => Fa ρ fun d => con.C [.d d, .raw (.ref fy)] P (fun _ => False)) := by
  obtain ⟨f, fd, F, hm, hkp, hb⟩ := h.ex
  obtain ⟨t, h, l⟩ := ha.ex
  refine ⟨⟨_, pe_call F (hr.mono hk) hg hm hkp hb .nil passL (pa_cons h (pa_cons (pe_glob (v := .ref fy) hgy my rfl hdy) pa_nil he2) he) hdb he hpl, fun S σ H ρ P Q g h q => ?_⟩⟩
  refine l S σ H ρ _ _ g h fun v d H1 st hv hp => ?_
  show spM G.X.K con ([v, .ref fy] ++ []) H1 Q E0
  exact spM_use0 (sl := [.d d, .raw (.ref fy)]) (g.step st) ⟨v, [.ref fy], rfl, hv, .ref fy, [], rfl, rfl, rfl⟩ hp fun v d H2 st2 => q v d H2 (st.trans st2)
end
end DL
namespace DL
open PySem PySem.Spec PyProof.Rows L2
/-! ### type(x) not in (A, B) -/
theorem eqAt_ty {A : Around} {s : Shared} {a b : String} (ma : a ∈ metas) (mb : b ∈ metas) : SeqAt.EqAt A s (.type a) (.type b) (decide (a = b)) := by
  by_cases e : a = b
  · subst e
    rw [decide_eq_true rfl]
    exact SeqAt.EqAt.same _
  · rw [decide_eq_false e]
    intro prog w E Q hq
    unfold eqBool
    refine wpAny_holding ?_
    refine wpAny_ite_split (fun hab => absurd hab (by rw [metas_nodup ma mb e]; decide)) (fun _ => ?_)
    exact wpAny_bind (TypeEq.eq_type_other (meta_ty ma) (meta_ty mb) (metas_nodup ma mb e) (wpAny_truthy_bool hq))
def rTyNotIn (K : PySem.W.Frag) : R2 := fun x y H Q => ∃ (t : String) (p : Addr) (ts : List String), x = .ty t ∧ y = .ref p ∧ SqT K H p (ts.map V.ty) ∧ t ∈ metas ∧ (∀ z ∈ ts, z ∈ metas) ∧ Q (.bl (!decide (t ∈ ts))) H
theorem vals_ty : ∀ {ts : List String} {us : List Value}, Vals (ts.map V.ty) us → us = ts.map Value.type
  | [], _, .nil => rfl
  | t :: ts, _, .cons r q => by
    rw [List.map_cons, ← vals_ty q]
    exact congrArg (· :: _) (show _ = Value.type t from r)
def tyU (t : String) (u : Value) : Bool := match u with
  | .type z => decide (z = t)
  | _ => false
theorem op_tyNotIn {X : Cx} : OpR X (compareOp .NotIn) (rTyNotIn X.K) := by
  intro pins s σ H x y v u Q I rx ry h
  obtain ⟨t, p, ts, rfl, rfl, hq, mt, ms, q⟩ := h
  cases (show v = Value.type t from rx)
  cases ry
  obtain ⟨its, r, pl, hz⟩ := I.tuple hq
  have e := vals_ty r
  subst e
  refine SeqAt.notIn_tupleAt (tyU t) pl (fun w hw => ?_) ⟨.bl _, H, I, rfl, ?_⟩
  · have hw' : w ∈ ts.map Value.type := by simpa using hw
    obtain ⟨z, hz, rfl⟩ := List.mem_map.mp hw'
    exact eqAt_ty (ms z hz) mt
  · have e : (ts.map Value.type).toArray.any (tyU t) = decide (t ∈ ts) := by
      rw [List.any_toArray, List.any_map]
      clear q hz hq r pl ms
      induction ts with
      | nil => rfl
      | cons z ts ih =>
        rw [List.any_cons, ih]
        show (decide (z = t) || _) = _
        by_cases c : z = t
        · rw [decide_eq_true c, decide_eq_true (show t ∈ z :: ts by rw [c]; exact List.mem_cons_self)]; rfl
        · rw [decide_eq_false c, Bool.false_or]
          refine decide_eq_decide.mpr ⟨fun h => List.mem_cons_of_mem _ h, fun h => ?_⟩
          rcases List.mem_cons.mp h with h | h
          · exact absurd h.symm c
          · exact h
    rw [e]
    exact q
section
variable {G : Ctx}
theorem dt_ntypeIn2 {e : Expr} {F : FE} {T U : Str} {TT UU : String} {p1 p2 p3 p4 p5 p6 : Pos} {kt} (hT : TT ∈ metas := by decide) (hU : UU ∈ metas := by decide) (he : DE G e F) (hg : Gl G.X "type" := by rfl) (hm : G.X.mg "type" = none) (hgT : Gl G.X T := by rfl) (hmT : G.X.mg T = none) (hv : bootBuiltins T = some (.type TT)) (hn : T ≠ "__name__") (hd : (T == ("__debug__" : Str)) = false)
    (hgU : Gl G.X U := by rfl) (hmU : G.X.mg U = none) (hvU : bootBuiltins U = some (.type UU)) (hnU : U ≠ "__name__") (hdU : (U == ("__debug__" : Str)) = false)
    (hs : starEach [e] G.X.env = (false, eval e G.X.env) :: starEach [] G.X.env := by rfl) (hst : starEach [.Name T p3, .Name U p4] G.X.env = (false, eval (.Name T p3) G.X.env) :: starEach [.Name U p4] G.X.env := by rfl) (hst2 : starEach [.Name U p4] G.X.env = (false, eval (.Name U p4) G.X.env) :: starEach [] G.X.env := by rfl) (hb : behindInMarks .NotIn (.Tuple [.Name T p3, .Name U p4] kt p5) = false := by rfl) :
    DT G (.Compare (.Call (.Name "type" p1) [e] [] p2) [.NotIn] [.Tuple [.Name T p3, .Name U p4] kt p5] p6) (fun ρ P => F ρ fun x => P (!decide (tyName x ∈ [TT, UU]))) := by
  obtain ⟨t, h, l⟩ := he.ex
  refine ⟨⟨_, pt_cmpR op_tyNotIn (pe_callTy call_tyD hg hm (by decide +kernel) (pa_cons h pa_nil hs) (he := hs)) (pe_tup (pa_cons (pe_bltn (v := V.ty TT) hgT hmT hv rfl hn hd) (pa_cons (pe_bltn (v := V.ty UU) hgU hmU hvU rfl hnU hdU) pa_nil hst2) hst)) hb, fun S σ H ρ P Q g h q => ?_⟩⟩
  refine l S σ H ρ _ _ g h fun v d H1 st hv hp => ?_
  refine ⟨v, S, d, rfl, hv, ?_⟩
  refine ⟨show 2 ≤ sizeLine by decide, fun b nb => ?_⟩
  have g1 := g.step st
  refine ⟨tyName d, b, [TT, UU], rfl, rfl, .inl (.inl upd_same), tyName_mem d, fun z hz => ?_, _, rfl, q _ _ (st.trans (Stp.new g1.wld nb)) hp⟩
  simp only [List.mem_cons, List.not_mem_nil, or_false] at hz
  rcases hz with rfl | rfl
  · exact hT
  · exact hU
end
end DL
namespace K01
open PySem PySem.Spec PyProof.Rows L2 DL
def itemsOf : Dat → List Dat
  | .lst xs => xs
  | .tup xs => xs
  | _ => []
def conRows (P : Program) (w : World) (K : PySem.W.Frag) (mg : Str → Option Value) (base : Heap) (j : Nat) (r : Dat → Bool) : ConM := ⟨fun sl Q X => ∃ d f, sl = [.d d, .raw (.ref f)] ∧ Held P w K mg base j f (spD K (con1 OkD fun d => .bl (r d))) ∧ OkD d ∧ d ≠ .anl ∧ Q (.bl (rowsB r d)),
  fun _ _ _ _ _ ⟨d, f, e, h, h1, h2, q⟩ m _ => ⟨d, f, e, h, h1, h2, m _ q⟩⟩
section
variable {P : Program} {w : World} {K : PySem.W.Frag} {mg : Str → Option Value} {base : Heap} {f f2 : Addr} {fd fd2 : FuncData} {k : Nat}
abbrev s_are_rows : Stmt := topS 24
theorem sc_are_rows : FnScope ["thing", "is_row", "row"] ["thing", "is_row"] (defScope s_are_rows) := ⟨rfl, rfl, rfl, by decide +kernel, rfl, by decide +kernel, by decide +kernel⟩
-- calls [] consts []
theorem ok_are_rows {r : Dat → Bool} (B : Bt mg) (F : Fun K "are_rows" "are_rows" s_are_rows f fd) : FnOk P w K mg base (L2.CX P w) (k + 1) f fd ["thing", "is_row"] (spM K (conRows P w K mg base k r)) := by
  refine fn_pureM F sc_are_rows (fun sl P X ⟨d, f, e, _⟩ => by rw [e]; rfl) fun cdv A outer s H S hS E EX el hr => ?_
  have nd := sc_are_rows.nd
  refine ⟨_, (db_cons (ds_ifc (dt_ntypeIn2 (TT := "list") (UU := "tuple") (he := (de_var 0)) (hm := B.type) (hmT := B.list) (hv := by decide +kernel) (hn := by decide) (hd := by decide) (hmU := B.tuple) (hvU := by decide +kernel) (hnU := by decide) (hdU := by decide)) (db_one (ds_ret de_bl)) db_nil) (db_cons (ds_forI (passes_of rfl) rfl (di_seq (de_var 0)) (dg_name 2 nd) (db_one (ds_ifc (dt_not (dt_val (de_callR (k := k) (con1 OkD fun d => .bl (r d)) 1 hr (da_cons (de_var 2) da_nil) (by omega)))) (db_one (ds_ret de_bl)) db_nil))) (db_one (ds_ret de_bl)))), ?_⟩
  rintro sl R ⟨d, fr, rfl, hf, hok, hna, h⟩
  refine ⟨fun b => (b = true → rowsB r d = false) ∧ (b = false → (∃ xs, d = .lst xs) ∨ ∃ xs, d = .tup xs), ?_, fun e => ?_, fun e => ?_⟩
  · ((try dsimp only); refine rd_here rfl ?_; (try dsimp only))
    cases d with
    | lst xs => exact ⟨fun z => absurd z (by simp [tyName]), fun _ => .inl ⟨xs, rfl⟩⟩
    | tup xs => exact ⟨fun z => absurd z (by simp [tyName]), fun _ => .inr ⟨xs, rfl⟩⟩
    | anl => exact absurd rfl hna
    | _ => exact ⟨fun _ => rfl, fun z => absurd z (by simp [tyName])⟩
  · rw [e.1 rfl] at h
    exact h
  have hit : rowsB r d = (itemsOf d).all r ∧ (∀ y ∈ itemsOf d, OkD y) ∧ ∀ Q : List Dat → Prop, Q (itemsOf d) → seqOf d Q := by
    rcases e.2 rfl with ⟨xs, rfl⟩ | ⟨xs, rfl⟩
    · exact ⟨rfl, okD_lst.mp hok, fun Q q => q⟩
    · exact ⟨rfl, okD_tup.mp hok, fun Q q => q⟩
  obtain ⟨h1, h2, h3⟩ := hit
  refine ⟨fun items ρ => ∃ a : DL.Slot, ρ = [.d d, .raw (.ref fr), a] ∧ (itemsOf d).all r = items.all r ∧ ∀ y ∈ items, OkD y, ?_, ?_, ?_⟩
  · ((try dsimp only); refine rd_here rfl ?_; (try dsimp only))
    exact h3 _ ⟨.un, rfl, rfl, h2⟩
  · rintro ρ ⟨a, rfl, e1, _⟩
    rw [h1, e1] at h
    exact h
  rintro y ys ρ ⟨a, rfl, e1, hy⟩
  rw [List.all_cons] at e1
  refine ⟨fun b => b = !r y, ?_, fun e => ?_, fun e => ?_⟩
  · refine ⟨fr, rfl, hf, ?_⟩
    ((try dsimp only); refine rd_here rfl ?_; (try dsimp only))
    refine con1_C.mpr ⟨hy y List.mem_cons_self, ?_⟩
    rw [isB_bl]
  · have : r y = false := by simpa using e.symm
    rw [h1, e1, this] at h
    exact h
  · have : r y = true := by simpa using e
    rw [this, Bool.true_and] at e1
    exact ⟨_, rfl, e1, fun z hz => hy z (List.mem_cons_of_mem _ hz)⟩
end
/-! ### values of one sort can be told apart, rows too -/
theorem lt_int (a b : Int) : ∃ k, ltO (toP (.int a)) (toP (.int b)) = some k := ⟨_, by rw [toP, toP, ltO]⟩
theorem lt_str (a b : Str) : ∃ k, ltO (toP (.str a)) (toP (.str b)) = some k := ⟨_, by rw [toP, toP, ltO]⟩
/-- item by item, as far as they are the same -/
theorem lt_cons {x y : Dat} {xs ys : List Dat} (h : ∃ k, ltO (toP x) (toP y) = some k) (h2 : PyData.eqv (toP x) (toP y) = true → ∃ k, ltOs (toPs xs) (toPs ys) = some k) : ∃ k, ltOs (toPs (x :: xs)) (toPs (y :: ys)) = some k := by
  rw [toPs, toPs, ltOs]
  by_cases c : PyData.eqv (toP x) (toP y) = true
  · rw [if_pos c]; exact h2 c
  · rw [if_neg c]; exact h
theorem lt_nil : ∃ k, ltOs (toPs []) (toPs []) = some k := ⟨false, rfl⟩
theorem lt_tup {xs ys : List Dat} (h : ∃ k, ltOs (toPs xs) (toPs ys) = some k) : ∃ k, ltO (toP (.tup xs)) (toP (.tup ys)) = some k := by
  rw [toP, toP, ltO]; exact h
theorem frac_lt {a b : Dat} (ha : fracB a = true) (hb : fracB b = true) : ∃ k, ltO (toP a) (toP b) = some k := by
  obtain ⟨p, q, rfl, _⟩ := frac_inv ha
  obtain ⟨r, s, rfl, _⟩ := frac_inv hb
  exact lt_tup (lt_cons (lt_int _ _) fun _ => lt_cons (lt_int _ _) fun _ => lt_nil)
theorem str_eqv {a b : Str} (h : PyData.eqv (toP (.str a)) (toP (.str b)) = true) : a = b := by simpa [toP, PyData.eqv] using h
/-- a tree is a tip or a node -/
theorem tree_cases {n : Nat} {d : Dat} {r : Int} (h : (tszV (n + 1) d r).isSome = true) : (∃ x, d = .tup [.str "tip", x] ∧ fracB x = true) ∨ ∃ x y r1 r2, d = .tup [.str "node", x, y] ∧ (tszV n x r1).isSome = true ∧ (tszV n y r2).isSome = true := by
  rw [tsz_succ] at h
  split at h
  · cases h
  · unfold nodeT at h
    split at h
    · rename_i w rs
      split at h
      · rename_i hw
        subst hw
        unfold tipN at h
        split at h
        · rename_i x
          split at h
          · rename_i hf; exact .inl ⟨x, rfl, hf⟩
          · cases h
        · cases h
      · split at h
        · rename_i hw
          subst hw
          unfold nodN at h
          split at h
          · rename_i x y
            refine .inr ⟨x, y, r - ((1 : Nat) : Int), ?_⟩
            rw [foldT] at h
            cases hx : tszV n x (r - ((1 : Nat) : Int)) with
            | none => rw [hx] at h; cases h
            | some s1 =>
              rw [hx] at h
              have h' : (foldT (tszV n) r (1 + s1) [y]).isSome = true := h
              rw [foldT] at h'
              cases hy : tszV n y (r - ((1 + s1 : Nat) : Int)) with
              | none => rw [hy] at h'; cases h'
              | some s2 => exact ⟨_, rfl, rfl, by rw [hy]; rfl⟩
          · cases h
        · cases h
    · cases h
theorem tree_lt : ∀ (n m : Nat) (a b : Dat) (ra rb : Int), (tszV n a ra).isSome = true → (tszV m b rb).isSome = true → ∃ k, ltO (toP a) (toP b) = some k
  | 0, _, _, _, _, _, h, _ => by cases h
  | _, 0, _, _, _, _, _, h => by cases h
  | n + 1, m + 1, a, b, ra, rb, ha, hb => by
    rcases tree_cases ha with ⟨x, rfl, fx⟩ | ⟨x, y, r1, r2, rfl, h1, h2⟩
    · rcases tree_cases hb with ⟨x', rfl, fx'⟩ | ⟨x', y', r1', r2', rfl, h1', h2'⟩
      · exact lt_tup (lt_cons (lt_str _ _) fun _ => lt_cons (frac_lt fx fx') fun _ => lt_nil)
      · exact lt_tup (lt_cons (lt_str _ _) fun e => absurd (str_eqv e) (by decide +kernel))
    · rcases tree_cases hb with ⟨x', rfl, fx'⟩ | ⟨x', y', r1', r2', rfl, h1', h2'⟩
      · exact lt_tup (lt_cons (lt_str _ _) fun e => absurd (str_eqv e) (by decide +kernel))
      · exact lt_tup (lt_cons (lt_str _ _) fun _ => lt_cons (tree_lt n m x x' r1 r1' h1 h1') fun _ => lt_cons (tree_lt n m y y' r2 r2' h2 h2') fun _ => lt_nil)
theorem fracs_lt : ∀ {xs ys : List Dat}, (∀ x ∈ xs, fracB x = true) → (∀ y ∈ ys, fracB y = true) → ∃ k, ltOs (toPs xs) (toPs ys) = some k
  | [], [], _, _ => ⟨false, rfl⟩
  | [], _ :: _, _, _ => ⟨true, rfl⟩
  | _ :: _, [], _, _ => ⟨false, rfl⟩
  | x :: xs, y :: ys, h1, h2 => lt_cons (frac_lt (h1 x List.mem_cons_self) (h2 y List.mem_cons_self)) fun _ => fracs_lt (fun z hz => h1 z (List.mem_cons_of_mem _ hz)) fun z hz => h2 z (List.mem_cons_of_mem _ hz)
theorem ris_fracs : ∀ {xs : List Dat} {l : Option Dat}, risL l xs = true → ∀ x ∈ xs, fracB x = true
  | [], _, _, x, hx => by cases hx
  | y :: ys, l, h, x, hx => by
    rw [risL_cons, Bool.and_eq_true, Bool.and_eq_true] at h
    rcases List.mem_cons.mp hx with rfl | hx
    · exact h.1.1
    · exact ris_fracs h.2 x hx
theorem whole_inv {d : Dat} {z : Str} (h : wholeB d z = true) : ∃ i, d = .int i := by
  unfold wholeB at h
  split at h
  · exact ⟨_, rfl⟩
  · cases h
theorem val_lt {a b : Dat} {z : Str} (ha : valB a z = true) (hb : valB b z = true) : ∃ k, ltO (toP a) (toP b) = some k := by
  unfold valB at ha hb
  split at ha
  · rw [if_pos (by assumption)] at hb; exact frac_lt ha hb
  · rw [if_neg (by assumption)] at hb
    split at ha
    · rw [if_pos (by assumption)] at hb; exact tree_lt 40 40 a b 600 600 ha hb
    · rw [if_neg (by assumption)] at hb
      split at ha
      · rw [if_pos (by assumption)] at hb
        cases a with
        | tup xs =>
          cases b with
          | tup ys => exact lt_tup (fracs_lt (ris_fracs ha) (ris_fracs hb))
          | _ => cases hb
        | _ => cases ha
      · rw [if_neg (by assumption)] at hb
        obtain ⟨i, rfl⟩ := whole_inv ha
        obtain ⟨j, rfl⟩ := whole_inv hb
        exact lt_int i j
theorem valD_inv {v s : Dat} (h : valD v s = true) : ∃ z, s = .str z ∧ z ∈ sorts ∧ valB v z = true := by
  unfold valD at h
  split at h
  · rename_i hs
    cases s with
    | str z => exact ⟨z, rfl, of_decide_eq_true hs, h⟩
    | _ => cases hs
  · cases h
theorem sv_lt {v s v' s' : Dat} {r r' : List Dat} (h : valD v s = true) (h' : valD v' s' = true) (hr : ∃ k, ltOs (toPs r) (toPs r') = some k) : ∃ k, ltOs (toPs (s :: v :: r)) (toPs (s' :: v' :: r')) = some k := by
  obtain ⟨z, rfl, _, hv⟩ := valD_inv h
  obtain ⟨z', rfl, _, hv'⟩ := valD_inv h'
  refine lt_cons (lt_str _ _) fun e => ?_
  cases str_eqv e
  exact lt_cons (val_lt hv hv') fun _ => hr
theorem name_inv {n : Dat} (h : isName n = true) : ∃ z, n = .str z := by cases n <;> first | exact ⟨_, rfl⟩ | cases h
theorem rowN_inv {d : Dat} (h : rowN d = true) : ∃ n s v, d = .tup [n, s, v] ∧ isName n = true ∧ valD v s = true := by
  unfold rowN at h
  split at h
  · rw [Bool.and_eq_true] at h; exact ⟨_, _, _, rfl, h.1, h.2⟩
  · cases h
theorem pairC_inv {d : Dat} (h : pairC d = true) : ∃ s v, d = .tup [s, v] ∧ valD v s = true := by
  unfold pairC at h
  split at h
  · exact ⟨_, _, rfl, h⟩
  · cases h
theorem rowC_inv {d : Dat} (h : rowC d = true) : ∃ n ps s v, d = .tup [n, .tup ps, s, v] ∧ isName n = true ∧ valD v s = true ∧ 1 ≤ ps.length ∧ ps.length ≤ 3 ∧ ∀ p ∈ ps, pairC p = true := by
  unfold rowC at h
  split at h
  · simp only [Bool.and_eq_true, decide_eq_true_eq, List.all_eq_true] at h
    exact ⟨_, _, _, _, rfl, h.1.1.1.1, h.1.1.1.2, h.1.1.2, h.1.2, h.2⟩
  · cases h
theorem rowN_lt {a b : Dat} (ha : rowN a = true) (hb : rowN b = true) : ∃ k, ltO (toP a) (toP b) = some k := by
  obtain ⟨n, s, v, rfl, h1, h2⟩ := rowN_inv ha
  obtain ⟨n', s', v', rfl, h1', h2'⟩ := rowN_inv hb
  obtain ⟨z, rfl⟩ := name_inv h1
  obtain ⟨z', rfl⟩ := name_inv h1'
  exact lt_tup (lt_cons (lt_str _ _) fun _ => sv_lt h2 h2' lt_nil)
theorem pairs_lt : ∀ {ps qs : List Dat}, (∀ p ∈ ps, pairC p = true) → (∀ q ∈ qs, pairC q = true) → ∃ k, ltOs (toPs ps) (toPs qs) = some k
  | [], [], _, _ => ⟨false, rfl⟩
  | [], _ :: _, _, _ => ⟨true, rfl⟩
  | _ :: _, [], _, _ => ⟨false, rfl⟩
  | p :: ps, q :: qs, h1, h2 => by
    obtain ⟨s, v, rfl, hv⟩ := pairC_inv (h1 p List.mem_cons_self)
    obtain ⟨s', v', rfl, hv'⟩ := pairC_inv (h2 q List.mem_cons_self)
    exact lt_cons (lt_tup (sv_lt hv hv' lt_nil)) fun _ => pairs_lt (fun z hz => h1 z (List.mem_cons_of_mem _ hz)) fun z hz => h2 z (List.mem_cons_of_mem _ hz)
theorem rowC_lt {a b : Dat} (ha : rowC a = true) (hb : rowC b = true) : ∃ k, ltO (toP a) (toP b) = some k := by
  obtain ⟨n, ps, s, v, rfl, h1, h2, _, _, h3⟩ := rowC_inv ha
  obtain ⟨n', ps', s', v', rfl, h1', h2', _, _, h3'⟩ := rowC_inv hb
  obtain ⟨z, rfl⟩ := name_inv h1
  obtain ⟨z', rfl⟩ := name_inv h1'
  exact lt_tup (lt_cons (lt_str _ _) fun _ => lt_cons (lt_tup (pairs_lt h3 h3')) fun _ => sv_lt h2 h2' lt_nil)
end K01
namespace K01
open PySem PySem.Spec PyProof.Rows L2 DL
/-! ### how deep rows are -/
def LD (d : Dat) (m : Nat) : Prop := Lay d ∧ (toP d).depth ≤ m
theorem LD.mono {d : Dat} {m n : Nat} (h : LD d m) (hn : m ≤ n) : LD d n := ⟨h.1, Nat.le_trans h.2 hn⟩
theorem LD.tup {xs : List Dat} {m : Nat} (h : ∀ d ∈ xs, LD d m) : LD (.tup xs) (m + 1) := by
  refine ⟨lay_tup.mpr fun d hd => (h d hd).1, ?_⟩
  rw [toP, PyData.depth]
  have := depths_le (m := m) fun d hd => (h d hd).2
  omega
theorem ld_int {i : Int} {m : Nat} : LD (.int i) m := ⟨rfl, by rw [toP, PyData.depth]; omega⟩
theorem ld_str {z : Str} {m : Nat} (h : Lay (.str z)) : LD (.str z) m := ⟨h, by rw [toP, PyData.depth]; omega⟩
theorem ld_two {a b : Dat} {m : Nat} (h1 : LD a m) (h2 : LD b m) : LD (.tup [a, b]) (m + 1) := LD.tup fun d hd => by
  rcases List.mem_cons.mp hd with rfl | hd
  · exact h1
  · rcases List.mem_cons.mp hd with rfl | hd
    · exact h2
    · cases hd
theorem ld_three {a b c : Dat} {m : Nat} (h1 : LD a m) (h2 : LD b m) (h3 : LD c m) : LD (.tup [a, b, c]) (m + 1) := LD.tup fun d hd => by
  rcases List.mem_cons.mp hd with rfl | hd
  · exact h1
  · rcases List.mem_cons.mp hd with rfl | hd
    · exact h2
    · rcases List.mem_cons.mp hd with rfl | hd
      · exact h3
      · cases hd
theorem ld_frac {d : Dat} (h : fracB d = true) : LD d 1 := by
  obtain ⟨p, q, rfl, _⟩ := frac_inv h
  exact ld_two ld_int ld_int
theorem lay_tip : Lay (.str "tip") := by unfold Lay; decide +kernel
theorem lay_node : Lay (.str "node") := by unfold Lay; decide +kernel
theorem ld_tree : ∀ (n : Nat) (d : Dat) (r : Int), (tszV n d r).isSome = true → LD d (n + 1)
  | 0, _, _, h => by cases h
  | n + 1, d, r, h => by
    rcases tree_cases h with ⟨x, rfl, hf⟩ | ⟨x, y, r1, r2, rfl, h1, h2⟩
    · exact ld_two (ld_str lay_tip) ((ld_frac hf).mono (by omega))
    · exact ld_three (ld_str lay_node) (ld_tree n x r1 h1) (ld_tree n y r2 h2)
theorem ld_val {d : Dat} {z : Str} (h : valB d z = true) : LD d 42 := by
  unfold valB at h
  split at h
  · exact (ld_frac h).mono (by decide)
  · split at h
    · exact (ld_tree 40 d 600 h).mono (by decide)
    · split at h
      · cases d with
        | tup xs => exact (LD.tup fun x hx => ld_frac (ris_fracs h x hx)).mono (by decide)
        | _ => cases h
      · obtain ⟨i, rfl⟩ := whole_inv h
        exact ld_int
theorem lay_name {n : Dat} (h : isName n = true) : Lay n := by
  obtain ⟨z, rfl⟩ := name_inv h
  have h' : (decide (1 ≤ z.length) && decide (z.length ≤ 6) && z.cps.toList.all small) = true := h
  rw [Bool.and_eq_true] at h'
  unfold Lay
  rw [toP, PyData.canLay0]
  unfold PyData.strOk
  rw [← Array.all_toList]
  refine List.all_eq_true.mpr fun c hc => ?_
  have := List.all_eq_true.mp h'.2 c hc
  unfold small at this
  rw [Bool.and_eq_true, decide_eq_true_eq, decide_eq_true_eq] at this
  exact decide_eq_true (by omega)
theorem ld_sv {v s : Dat} (h : valD v s = true) : LD s 42 ∧ LD v 42 := by
  obtain ⟨z, rfl, hz, hv⟩ := valD_inv h
  exact ⟨ld_str (sort_lay hz), ld_val hv⟩
theorem ld_of_name {n : Dat} (h : isName n = true) {m : Nat} : LD n m := by
  have hl := lay_name h
  obtain ⟨z, rfl⟩ := name_inv h
  exact ld_str hl
theorem ld_rowN {d : Dat} (h : rowN d = true) : LD d 43 := by
  obtain ⟨n, s, v, rfl, h1, h2⟩ := rowN_inv h
  exact ld_three (ld_of_name h1) (ld_sv h2).1 (ld_sv h2).2
theorem ld_pairC {d : Dat} (h : pairC d = true) : LD d 43 := by
  obtain ⟨s, v, rfl, hv⟩ := pairC_inv h
  exact ld_two (ld_sv hv).1 (ld_sv hv).2
theorem ld_rowC {d : Dat} (h : rowC d = true) : LD d 45 := by
  obtain ⟨n, ps, s, v, rfl, h1, h2, _, _, h3⟩ := rowC_inv h
  refine LD.tup fun d hd => ?_
  simp only [List.mem_cons, List.not_mem_nil, or_false] at hd
  rcases hd with rfl | rfl | rfl | rfl
  · exact ld_of_name h1
  · exact LD.tup fun p hp => ld_pairC (h3 p hp)
  · exact (ld_sv h2).1.mono (by decide)
  · exact (ld_sv h2).2.mono (by decide)
theorem shaped_ld {d : Dat} {m : Nat} (h : LD d m) (hm : m ≤ 64) : SeqAt.shaped (toP d) = true := shaped_of h.1 (Nat.le_trans h.2 hm)
/-! ### codes are the same just of what is equal -/
mutual
theorem enc_dif : ∀ x y : PyData, x.canLay0 = true → y.canLay0 = true → PyData.eqv x y = false → ∃ k, Dif (enc x) (enc y) k
  | .none, y, _, hb, h => by
    cases y with
    | dict => cases hb
    | none => cases h
    | _ => exact ⟨_, Dif.now (a := 0) _ _ (by decide)⟩
  | .bool a, y, _, hb, h => by
    cases y with
    | dict => cases hb
    | bool b =>
      have : (if a = true then (1 : Int) else 0) ≠ (if b = true then (1 : Int) else 0) := by cases a <;> cases b <;> simp [PyData.eqv] at h ⊢
      exact ⟨_, (Dif.now _ _ this).con 1⟩
    | int j =>
      have : (if a = true then (1 : Int) else 0) ≠ j := by simpa [PyData.eqv] using h
      exact ⟨_, (Dif.now _ _ this).con 1⟩
    | _ => exact ⟨_, Dif.now (a := 1) _ _ (by decide)⟩
  | .int i, y, _, hb, h => by
    cases y with
    | dict => cases hb
    | bool b =>
      have : i ≠ (if b = true then (1 : Int) else 0) := by simpa [PyData.eqv] using h
      exact ⟨_, (Dif.now _ _ this).con 1⟩
    | int j =>
      have : i ≠ j := by simpa [PyData.eqv] using h
      exact ⟨_, (Dif.now _ _ this).con 1⟩
    | _ => exact ⟨_, Dif.now (a := 1) _ _ (by decide)⟩
  | .str z, y, _, hb, h => by
    cases y with
    | dict => cases hb
    | str w =>
      have : z ≠ w := by simpa [PyData.eqv] using h
      exact ⟨_, (dif_cps z.cps.toList w.cps.toList fun e => this (by
        obtain ⟨⟨c⟩⟩ := z; obtain ⟨⟨d⟩⟩ := w
        cases (show c = d from e); rfl)).con 2⟩
    | _ => exact ⟨_, Dif.now (a := 2) _ _ (by decide)⟩
  | .tuple xs, y, ca, hb, h => by
    cases y with
    | dict => cases hb
    | tuple ys =>
      rw [PyData.canLay0] at ca hb
      rw [PyData.eqv] at h
      obtain ⟨k, hk⟩ := encs_dif xs ys ca hb h
      exact ⟨k, hk.con 3⟩
    | _ => exact ⟨_, Dif.now (a := 3) _ _ (by decide)⟩
  | .list xs, y, ca, hb, h => by
    cases y with
    | dict => cases hb
    | list ys =>
      rw [PyData.canLay0] at ca hb
      rw [PyData.eqv] at h
      obtain ⟨k, hk⟩ := encs_dif xs ys ca hb h
      exact ⟨k, hk.con 4⟩
    | _ => exact ⟨_, Dif.now (a := 4) _ _ (by decide)⟩
  | .dict _, _, h, _, _ => by cases h
theorem encs_dif : ∀ xs ys : List PyData, PyData.canLayAll0 xs = true → PyData.canLayAll0 ys = true → PyData.eqvAll xs ys = false → ∃ k, Dif (encs xs) (encs ys) k
  | [], [], _, _, h => by simp [PyData.eqvAll] at h
  | [], y :: ys, _, _, _ => ⟨_, Dif.now (a := 0) (b := 1) _ _ (by decide)⟩
  | x :: xs, [], _, _, _ => ⟨_, Dif.now (a := 1) (b := 0) _ _ (by decide)⟩
  | x :: xs, y :: ys, ca, cb, h => by
    have ca' : x.canLay0 = true ∧ PyData.canLayAll0 xs = true := by simpa [PyData.canLayAll0] using ca
    have cb' : y.canLay0 = true ∧ PyData.canLayAll0 ys = true := by simpa [PyData.canLayAll0] using cb
    rw [PyData.eqvAll] at h
    rw [encs, encs]
    cases hx : PyData.eqv x y with
    | false =>
      obtain ⟨k, hk⟩ := enc_dif x y ca'.1 cb'.1 hx
      exact ⟨k, (hk.app _ _).con 1⟩
    | true =>
      rw [hx, Bool.true_and] at h
      obtain ⟨k, hk⟩ := encs_dif xs ys ca'.2 cb'.2 h
      rw [(enc_ord x y ca'.1 cb'.1).1 hx]
      exact ⟨k, (hk.pre _).con 1⟩
end
def codeD (d : Dat) : List Int := enc (toP d)
theorem code_eqv {x y : Dat} (hx : Lay x) (hy : Lay y) : PyData.eqv (toP x) (toP y) = true ↔ codeD x = codeD y := by
  constructor
  · exact (enc_ord _ _ hx hy).1
  · intro h
    cases e : PyData.eqv (toP x) (toP y) with
    | true => rfl
    | false =>
      obtain ⟨k, p, a, b, u, v, e1, e2, hn, _⟩ := enc_dif _ _ hx hy e
      have h' : enc (toP x) = enc (toP y) := h
      rw [e1, e2] at h'
      have := List.append_cancel_left h'
      injection this with z _
      exact absurd z hn
/-- sorted, and none beside one that is equal: all unlike -/
theorem adj_nodup : ∀ {ks : List Dat}, (∀ d ∈ ks, Lay d) → ks.Pairwise (fun x y => ¬ codeD y < codeD x) → adjB ks = false → ks.Pairwise (fun x y => codeD x < codeD y)
  | [], _, _, _ => List.Pairwise.nil
  | [x], _, _, _ => List.pairwise_singleton _ _
  | x :: y :: r, hl, hs, ha => by
    have hs' := List.pairwise_cons.mp hs
    rw [adjB, Bool.or_eq_false_iff] at ha
    have ih := adj_nodup (fun d hd => hl d (List.mem_cons_of_mem _ hd)) hs'.2 ha.2
    have lx := hl x List.mem_cons_self
    have ly := hl y (List.mem_cons_of_mem _ List.mem_cons_self)
    have hxy : codeD x < codeD y := by
      have h1 := hs'.1 y List.mem_cons_self
      have h2 : codeD y ≠ codeD x := fun z => by
        have := (code_eqv ly lx).mpr z
        rw [ha.1] at this; cases this
      rcases List.le_iff_lt_or_eq.mp (List.not_lt.mp h1) with z | z
      · exact z
      · exact absurd z.symm h2
    refine List.pairwise_cons.mpr ⟨fun z hz => ?_, ih⟩
    rcases List.mem_cons.mp hz with rfl | hz
    · exact hxy
    · exact List.lt_trans hxy ((List.pairwise_cons.mp ih).1 z hz)
theorem nodup_adj : ∀ {ks : List Dat}, (∀ d ∈ ks, Lay d) → (ks.map codeD).Nodup → adjB ks = false
  | [], _, _ => rfl
  | [x], _, _ => rfl
  | x :: y :: r, hl, hn => by
    rw [List.map_cons, List.nodup_cons] at hn
    rw [adjB, Bool.or_eq_false_iff]
    refine ⟨?_, nodup_adj (fun d hd => hl d (List.mem_cons_of_mem _ hd)) hn.2⟩
    cases e : PyData.eqv (toP y) (toP x) with
    | false => rfl
    | true =>
      have := (code_eqv (hl y (List.mem_cons_of_mem _ List.mem_cons_self)) (hl x List.mem_cons_self)).mp e
      exact absurd (by rw [List.map_cons, this]; exact List.mem_cons_self) hn.1
/-- in sorted rows keys that stand ahead are sorted -/
theorem adj_iff {κ : Dat → Dat} {es : List Dat} (hl : ∀ d ∈ es, Lay (κ d)) (hk : ∀ x ∈ es, ∀ y ∈ es, codeD (κ y) < codeD (κ x) → codeD y < codeD x) (hs : srtP (toPs es)) : adjB (es.map κ) = false ↔ (es.map fun d => codeD (κ d)).Nodup := by
  have hl' : ∀ d ∈ es.map κ, Lay d := fun d hd => by
    obtain ⟨x, hx, rfl⟩ := List.mem_map.mp hd
    exact hl x hx
  have e : (es.map κ).map codeD = es.map fun d => codeD (κ d) := by rw [List.map_map]; rfl
  constructor
  · intro ha
    have hs2 : es.Pairwise fun x y => ¬ codeD y < codeD x := by
      unfold srtP at hs
      rw [toPs_map] at hs
      exact List.pairwise_map.mp hs
    have hs3 : (es.map κ).Pairwise (fun x y => ¬ codeD y < codeD x) := by
      refine List.pairwise_map.mpr (List.Pairwise.imp_of_mem (fun {x y} hx hy h z => h (hk x hx y hy z)) hs2)
    have := adj_nodup hl' hs3 ha
    rw [← e]
    exact List.pairwise_map.mpr (this.imp fun {x y} h z => absurd (z ▸ h) (List.lt_irrefl _))
  · intro hn
    rw [← e] at hn
    exact nodup_adj hl' hn
theorem dif_lt {x y : List Int} {k : Bool} (h : Dif x y k) : x < y ↔ k = true := by
  have := h.lt
  constructor
  · intro z; rw [← this]; exact decide_eq_true z
  · intro z; rw [z] at this; exact of_decide_eq_true this
/-- what stands ahead decides -/
theorem key_first {a b : Dat} {r r' : List Dat} (ha : Lay a) (hb : Lay b) (h : codeD a < codeD b) : codeD (.tup (a :: r)) < codeD (.tup (b :: r')) := by
  have hn : PyData.eqv (toP a) (toP b) = false := by
    cases e : PyData.eqv (toP a) (toP b) with
    | false => rfl
    | true => rw [(code_eqv ha hb).mp e] at h; exact absurd h (List.lt_irrefl _)
  obtain ⟨k, hk⟩ := enc_dif _ _ ha hb hn
  have kt := (dif_lt hk).mp h
  subst kt
  unfold codeD
  rw [toP, toP, enc, enc, toPs, toPs, encs, encs]
  exact (dif_lt (((hk.app _ _).con 1).con 3)).mpr rfl
end K01
namespace K01
open PySem PySem.Spec PyProof.Rows L2 DL
theorem sortP_of {r : Dat → Bool} {m : Nat} (hm : m ≤ 64) (hl : ∀ d, r d = true → LD d m) (hc : ∀ a b, r a = true → r b = true → ∃ k, ltO (toP a) (toP b) = some k) (hk : (∀ d, r d = true → ∃ z, d = .str z) ∨ (∀ d, r d = true → ∃ z t, d = .tup (.str z :: t))) {xs : List Dat} (h : ∀ d ∈ xs, r d = true) : SortP (toPs xs) := by
  rw [toPs_map]
  refine ⟨fun p hp => ?_, ?_, fun x hx y hy => ?_⟩
  · obtain ⟨d, hd, rfl⟩ := List.mem_map.mp hp
    exact shaped_ld (hl d (h d hd)) hm
  · rcases hk with hk | hk
    · refine .inl fun p hp => ?_
      obtain ⟨d, hd, rfl⟩ := List.mem_map.mp hp
      obtain ⟨z, rfl⟩ := hk d (h d hd)
      exact ⟨z, rfl⟩
    · refine .inr (.inl fun p hp => ?_)
      obtain ⟨d, hd, rfl⟩ := List.mem_map.mp hp
      obtain ⟨z, t, rfl⟩ := hk d (h d hd)
      exact ⟨z, toPs t, by rw [toP, toPs, toP]⟩
  · obtain ⟨a, ha, rfl⟩ := List.mem_map.mp hx
    obtain ⟨b, hb, rfl⟩ := List.mem_map.mp hy
    exact hc a b (h a ha) (h b hb)
theorem sortP_N {xs : List Dat} (h : ∀ d ∈ xs, rowN d = true) : SortP (toPs xs) := sortP_of (m := 43) (by decide) (fun d => ld_rowN) (fun a b => rowN_lt) (.inr fun d hd => by
  obtain ⟨n, s, v, rfl, h1, _⟩ := rowN_inv hd
  obtain ⟨z, rfl⟩ := name_inv h1
  exact ⟨z, _, rfl⟩) h
theorem sortP_C {xs : List Dat} (h : ∀ d ∈ xs, rowC d = true) : SortP (toPs xs) := sortP_of (m := 45) (by decide) (fun d => ld_rowC) (fun a b => rowC_lt) (.inr fun d hd => by
  obtain ⟨n, ps, s, v, rfl, h1, _⟩ := rowC_inv hd
  obtain ⟨z, rfl⟩ := name_inv h1
  exact ⟨z, _, rfl⟩) h
theorem sortP_P {xs : List Dat} (h : ∀ d ∈ xs, isName d = true) : SortP (toPs xs) := sortP_of (m := 0) (by decide) (fun d hd => ld_of_name hd) (fun a b ha hb => by
  obtain ⟨z, rfl⟩ := name_inv ha
  obtain ⟨z', rfl⟩ := name_inv hb
  exact lt_str z z') (.inl fun d hd => name_inv hd) h
/-! ### keys -/
theorem encs_app : ∀ (xs ys r r' : List PyData), xs.length = ys.length → PyData.canLayAll0 xs = true → PyData.canLayAll0 ys = true → PyData.eqvAll xs ys = false → ∃ k, Dif (encs xs) (encs ys) k ∧ Dif (encs (xs ++ r)) (encs (ys ++ r')) k
  | [], [], _, _, _, _, _, h => by simp [PyData.eqvAll] at h
  | [], _ :: _, _, _, h, _, _, _ => by simp at h
  | _ :: _, [], _, _, h, _, _, _ => by simp at h
  | x :: xs, y :: ys, r, r', hl, ca, cb, h => by
    have ca' : x.canLay0 = true ∧ PyData.canLayAll0 xs = true := by simpa [PyData.canLayAll0] using ca
    have cb' : y.canLay0 = true ∧ PyData.canLayAll0 ys = true := by simpa [PyData.canLayAll0] using cb
    rw [PyData.eqvAll] at h
    rw [List.cons_append, List.cons_append, encs, encs, encs, encs]
    cases hx : PyData.eqv x y with
    | false =>
      obtain ⟨k, hk⟩ := enc_dif x y ca'.1 cb'.1 hx
      exact ⟨k, (hk.app _ _).con 1, (hk.app _ _).con 1⟩
    | true =>
      rw [hx, Bool.true_and] at h
      obtain ⟨k, h1, h2⟩ := encs_app xs ys r r' (by simpa using hl) ca'.2 cb'.2 h
      rw [(enc_ord x y ca'.1 cb'.1).1 hx]
      exact ⟨k, (h1.pre _).con 1, (h2.pre _).con 1⟩
theorem toPs_app (xs ys : List Dat) : toPs (xs ++ ys) = toPs xs ++ toPs ys := by rw [toPs_map, toPs_map, toPs_map, List.map_append]
theorem key_front {xs ys r r' : List Dat} (hl : xs.length = ys.length) (ha : Lay (.tup xs)) (hb : Lay (.tup ys)) (h : codeD (.tup xs) < codeD (.tup ys)) : codeD (.tup (xs ++ r)) < codeD (.tup (ys ++ r')) := by
  have ca : PyData.canLayAll0 (toPs xs) = true := by unfold Lay at ha; rw [toP, PyData.canLay0] at ha; exact ha
  have cb : PyData.canLayAll0 (toPs ys) = true := by unfold Lay at hb; rw [toP, PyData.canLay0] at hb; exact hb
  have hn : PyData.eqvAll (toPs xs) (toPs ys) = false := by
    cases e : PyData.eqvAll (toPs xs) (toPs ys) with
    | false => rfl
    | true =>
      have e' : PyData.eqv (toP (.tup xs)) (toP (.tup ys)) = true := by rw [toP, toP, PyData.eqv]; exact e
      rw [(code_eqv ha hb).mp e'] at h; exact absurd h (List.lt_irrefl _)
  obtain ⟨k, h1, h2⟩ := encs_app _ _ (toPs r) (toPs r') (by rw [toPs_map, toPs_map, List.length_map, List.length_map]; exact hl) ca cb hn
  unfold codeD at h ⊢
  rw [toP, toP, enc, enc] at h
  have kt := (dif_lt (h1.con 3)).mp h
  subst kt
  rw [toP, toP, enc, enc, toPs_app, toPs_app]
  exact (dif_lt (h2.con 3)).mpr rfl
def headD : Dat → Dat
  | .tup (n :: _) => n
  | d => d
def frontD : Dat → Dat
  | .tup xs => .tup (xs.take 3)
  | d => d
theorem keyN {x y : Dat} (hx : rowN x = true) (hy : rowN y = true) (h : codeD (headD y) < codeD (headD x)) : codeD y < codeD x := by
  obtain ⟨n, s, v, rfl, h1, _⟩ := rowN_inv hx
  obtain ⟨n', s', v', rfl, h1', _⟩ := rowN_inv hy
  exact key_first (lay_name h1') (lay_name h1) h
theorem keyC {x y : Dat} (hx : rowC x = true) (hy : rowC y = true) (h : codeD (frontD y) < codeD (frontD x)) : codeD y < codeD x := by
  have lx := (ld_rowC hx).1
  have ly := (ld_rowC hy).1
  obtain ⟨n, ps, s, v, rfl, _⟩ := rowC_inv hx
  obtain ⟨n', ps', s', v', rfl, _⟩ := rowC_inv hy
  exact key_front (xs := [n', .tup ps', s']) (ys := [n, .tup ps, s]) (r := [v']) (r' := [v]) rfl (lay_tup.mpr fun d hd => lay_tup.mp ly d (by simp at hd ⊢; rcases hd with e | e | e <;> simp [e])) (lay_tup.mpr fun d hd => lay_tup.mp lx d (by simp at hd ⊢; rcases hd with e | e | e <;> simp [e])) h
theorem layC {x : Dat} (hx : rowC x = true) : Lay (frontD x) ∧ SeqAt.shaped (toP (frontD x)) = true := by
  have lx := ld_rowC hx
  obtain ⟨n, ps, s, v, rfl, h1, h2, _, _, h3⟩ := rowC_inv hx
  have : LD (.tup [n, .tup ps, s]) 45 := ld_three (ld_of_name h1) ((LD.tup fun p hp => ld_pairC (h3 p hp)).mono (by decide)) ((ld_sv h2).1.mono (by decide))
  exact ⟨this.1, shaped_ld this (by decide)⟩
/-! ### rows of a model -/
def c_rowsOf (CB : Addr) (r : Dat → Bool) (κ : Dat → Dat) (what : Str) : Con := ⟨fun ds P X => ∃ d, ds = [d] ∧ OkD d ∧ d ≠ .anl ∧ (itemsOf d).length ≤ 100000 ∧ (rowsB r d = false → X (badX CB what)) ∧
    (rowsB r d = true → ¬ ((itemsOf d).map fun x => codeD (κ x)).Nodup → X (badX CB what)) ∧ (rowsB r d = true → ((itemsOf d).map fun x => codeD (κ x)).Nodup → ∀ es : List Dat, es.Perm (itemsOf d) → srtP (toPs es) → P (.tup es)),
  fun _ _ _ _ _ ⟨d, e, h1, h2, h3, h4, h5, h6⟩ m mx => ⟨d, e, h1, h2, h3, fun z => mx _ (h4 z), fun z y => mx _ (h5 z y), fun z y es a b => m _ (h6 z y es a b)⟩⟩
theorem rowsB_items {r : Dat → Bool} {d : Dat} (h : rowsB r d = true) : (∀ x ∈ itemsOf d, r x = true) ∧ (d = .lst (itemsOf d) ∨ d = .tup (itemsOf d)) := by
  cases d with
  | lst xs => exact ⟨List.all_eq_true.mp h, .inl rfl⟩
  | tup xs => exact ⟨List.all_eq_true.mp h, .inr rfl⟩
  | _ => cases h
theorem sorted_use {d : Dat} {P : Dat → Prop} (hd : d = .lst (itemsOf d) ∨ d = .tup (itemsOf d)) (h : SortP (toPs (itemsOf d))) (q : ∀ es : List Dat, es.Perm (itemsOf d) → srtP (toPs es) → P (.lst es)) : sortedL [d] P := by
  rcases hd with e | e
  · rw [e] at h q ⊢; exact ⟨h, q⟩
  · rw [e] at h q ⊢; exact ⟨h, q⟩
section
variable {P : Program} {w : World} {K : PySem.W.Frag} {mg : Str → Option Value} {base : Heap} {f f2 : Addr} {fd fd2 : FuncData} {k : Nat}
abbrev s_names_of_model : Stmt := topS 26
theorem sc_names_of_model : FnScope ["thing", "rows", "row"] ["thing"] (defScope s_names_of_model) := ⟨rfl, rfl, rfl, by decide +kernel, rfl, by decide +kernel, by decide +kernel⟩
-- calls ['are_rows', 'has_twice'] consts []
theorem ok_names_of_model {CB fy : Addr} {j jj : Nat} (hj : j + 1 ≤ k) (hjj : jj ≤ k) (B : Bt mg) (M_is_row_of_names : mg "is_row_of_names" = some (.ref fy)) (HF : Held P w K mg base jj fy (spD K c_rowN)) (F_are_rows : CalleeMf P w K mg base "are_rows" k ["thing", "is_row"] (conRows P w K mg base jj rowN)) (F_has_twice : Callee P w K mg base "has_twice" k ["things"] c_twice) (X_BadValue : OwnX P w K mg base "BadValue" CB "what" j) (F : Fun K "names_of_model" "names_of_model" s_names_of_model f fd) : FnOk P w K mg base (L2.CX P w) (k + 1) f fd ["thing"] (spD K (c_rowsOf CB rowN headD "names")) := by
  refine fn_pureX F sc_names_of_model (fun ds P X ⟨d, e, _⟩ => by rw [e]; rfl) fun cdv A outer s H S hS E EX el hr => ?_
  have nd := sc_names_of_model.nd
  refine ⟨_, (db_cons (ds_setc 1 (de_if (dt_val (de_fnMf F_are_rows hr (de_var 0) M_is_row_of_names (by omega))) (de_sortedL (hu100 hr) B.sorted (da_cons (de_var 0) da_nil)) de_non) nd) (db_cons (ds_ifc (dt_w (dw_or (dt_isN (de_var 1)) (dw_or1 (dt_val (de_fn F_has_twice hr (da_cons (de_lc 2 (x := "row") rfl nd (di_seq (de_var 1)) (blkOk_by (own := [("row", 2)]) (N := ["thing", "rows", "row"]) (sc := defScope s_names_of_model) (by decide +kernel)) (fun _ _ _ _ _ => pg_name (i := 2) nd rfl (Or.inl rfl)) (fun _ _ _ _ _ => dts_nil) (fun _ _ _ _ _ => (de_ix (de_var 2) de_int))) da_nil) (by omega)))))) (db_one (ds_raise X_BadValue hr de_str (by omega))) db_nil) (db_one (ds_ret (de_tuple B.tuple (da_cons (de_var 1) da_nil)))))), ?_⟩
  rintro ds R ⟨d, rfl, hok, hna, hlen, h1, h2, h3⟩
  refine ⟨fun x => (rowsB rowN d = false ∧ x = .non) ∨ (rowsB rowN d = true ∧ ∃ es : List Dat, x = .lst es ∧ es.Perm (itemsOf d) ∧ srtP (toPs es)), ?_, fun x hx => ?_⟩
  · ((try dsimp only); refine rd_here rfl ?_; (try dsimp only))
    refine ⟨d, fy, rfl, HF, hok, hna, ?_⟩
    dsimp only
    rw [isB_bl]
    cases hr : rowsB rowN d with
    | false => rw [if_neg (by simp)]; exact .inl ⟨rfl, rfl⟩
    | true =>
      rw [if_pos rfl]
      ((try dsimp only); refine rd_here rfl ?_; (try dsimp only))
      obtain ⟨g1, g2⟩ := rowsB_items hr
      exact sorted_use g2 (sortP_N g1) fun es p q => .inr ⟨rfl, es, rfl, p, q⟩
  try dsimp only
  rcases hx with ⟨hr, rfl⟩ | ⟨hr, es, rfl, hp, hs⟩
  · refine ⟨(· = true), ?_, fun _ => h1 hr, fun e => (nomatch e)⟩
    ((try dsimp only); refine rd_here rfl ?_; (try dsimp only))
    rfl
  obtain ⟨g1, g2⟩ := rowsB_items hr
  have g1' : ∀ x ∈ es, rowN x = true := fun x hx => g1 x (hp.mem_iff.mp hx)
  have hl : ∀ x ∈ es, Lay (headD x) := fun x hx => by
    obtain ⟨n, s, v, rfl, a1, _⟩ := rowN_inv (g1' x hx)
    exact lay_name a1
  have hadj := adj_iff (κ := headD) hl (fun x hx y hy => keyN (g1' x hx) (g1' y hy)) hs
  have hnd : (es.map fun x => codeD (headD x)).Nodup ↔ ((itemsOf d).map fun x => codeD (headD x)).Nodup := (hp.map _).nodup_iff
  have hle : es.length ≤ 100000 := by rw [hp.length_eq]; exact hlen
  refine ⟨(· = adjB (es.map headD)), ?_, fun e => ?_, fun e => ?_⟩
  · ((try dsimp only); refine rd_here rfl ?_; (try dsimp only))
    show if isN (.lst es) = true then _ else _
    rw [if_neg (by simp [isN])]
    ((try dsimp only); refine rd_here rfl ?_; (try dsimp only))
    refine compF_map (f := headD) (fun x hx Q q => ?_) (by have := line_big; simp; omega) ?_
    · obtain ⟨n, s, v, rfl, _⟩ := rowN_inv (g1' x hx)
      ((try dsimp only); refine rd_here rfl ?_; (try dsimp only))
      rw [ixD_tup, at0, someD_some]
      exact q
    · rw [List.nil_append]
      refine conE_use (args := fun xs : List Dat => [.lst xs]) (es.map headD) ⟨by rw [List.length_map]; exact hle, fun y hy => ?_⟩ rfl
      obtain ⟨x, hx, rfl⟩ := List.mem_map.mp hy
      obtain ⟨n, s, v, rfl, a1, _⟩ := rowN_inv (g1' x hx)
      exact shaped_ld (m := 0) (ld_of_name a1) (by decide)
  · refine h2 hr fun z => ?_
    have := hadj.mpr (hnd.mpr z)
    rw [this] at e; cases e
  · ((try dsimp only); refine rd_here rfl ?_; (try dsimp only))
    exact h3 hr (hnd.mp (hadj.mp e.symm)) es hp hs
abbrev s_calls_of_model : Stmt := topS 27
theorem sc_calls_of_model : FnScope ["thing", "rows", "row"] ["thing"] (defScope s_calls_of_model) := ⟨rfl, rfl, rfl, by decide +kernel, rfl, by decide +kernel, by decide +kernel⟩
-- calls ['are_rows', 'has_twice'] consts []
theorem ok_calls_of_model {CB fy : Addr} {j jj : Nat} (hj : j + 1 ≤ k) (hjj : jj ≤ k) (B : Bt mg) (M_is_row_of_calls : mg "is_row_of_calls" = some (.ref fy)) (HF : Held P w K mg base jj fy (spD K c_rowC)) (F_are_rows : CalleeMf P w K mg base "are_rows" k ["thing", "is_row"] (conRows P w K mg base jj rowC)) (F_has_twice : Callee P w K mg base "has_twice" k ["things"] c_twice) (X_BadValue : OwnX P w K mg base "BadValue" CB "what" j) (F : Fun K "calls_of_model" "calls_of_model" s_calls_of_model f fd) : FnOk P w K mg base (L2.CX P w) (k + 1) f fd ["thing"] (spD K (c_rowsOf CB rowC frontD "calls")) := by
  refine fn_pureX F sc_calls_of_model (fun ds P X ⟨d, e, _⟩ => by rw [e]; rfl) fun cdv A outer s H S hS E EX el hr => ?_
  have nd := sc_calls_of_model.nd
  refine ⟨_, (db_cons (ds_setc 1 (de_if (dt_val (de_fnMf F_are_rows hr (de_var 0) M_is_row_of_calls (by omega))) (de_sortedL (hu100 hr) B.sorted (da_cons (de_var 0) da_nil)) de_non) nd) (db_cons (ds_ifc (dt_w (dw_or (dt_isN (de_var 1)) (dw_or1 (dt_val (de_fn F_has_twice hr (da_cons (de_lc 2 (x := "row") rfl nd (di_seq (de_var 1)) (blkOk_by (own := [("row", 2)]) (N := ["thing", "rows", "row"]) (sc := defScope s_calls_of_model) (by decide +kernel)) (fun _ _ _ _ _ => pg_name (i := 2) nd rfl (Or.inl rfl)) (fun _ _ _ _ _ => dts_nil) (fun _ _ _ _ _ => (de_sl (de_var 2) do_none (do_some de_int)))) da_nil) (by omega)))))) (db_one (ds_raise X_BadValue hr de_str (by omega))) db_nil) (db_one (ds_ret (de_tuple B.tuple (da_cons (de_var 1) da_nil)))))), ?_⟩
  rintro ds R ⟨d, rfl, hok, hna, hlen, h1, h2, h3⟩
  refine ⟨fun x => (rowsB rowC d = false ∧ x = .non) ∨ (rowsB rowC d = true ∧ ∃ es : List Dat, x = .lst es ∧ es.Perm (itemsOf d) ∧ srtP (toPs es)), ?_, fun x hx => ?_⟩
  · ((try dsimp only); refine rd_here rfl ?_; (try dsimp only))
    refine ⟨d, fy, rfl, HF, hok, hna, ?_⟩
    dsimp only
    rw [isB_bl]
    cases hr : rowsB rowC d with
    | false => rw [if_neg (by simp)]; exact .inl ⟨rfl, rfl⟩
    | true =>
      rw [if_pos rfl]
      ((try dsimp only); refine rd_here rfl ?_; (try dsimp only))
      obtain ⟨g1, g2⟩ := rowsB_items hr
      exact sorted_use g2 (sortP_C g1) fun es p q => .inr ⟨rfl, es, rfl, p, q⟩
  try dsimp only
  rcases hx with ⟨hr, rfl⟩ | ⟨hr, es, rfl, hp, hs⟩
  · refine ⟨(· = true), ?_, fun _ => h1 hr, fun e => (nomatch e)⟩
    ((try dsimp only); refine rd_here rfl ?_; (try dsimp only))
    rfl
  obtain ⟨g1, g2⟩ := rowsB_items hr
  have g1' : ∀ x ∈ es, rowC x = true := fun x hx => g1 x (hp.mem_iff.mp hx)
  have hadj := adj_iff (κ := frontD) (fun x hx => (layC (g1' x hx)).1) (fun x hx y hy => keyC (g1' x hx) (g1' y hy)) hs
  have hnd : (es.map fun x => codeD (frontD x)).Nodup ↔ ((itemsOf d).map fun x => codeD (frontD x)).Nodup := (hp.map _).nodup_iff
  have hle : es.length ≤ 100000 := by rw [hp.length_eq]; exact hlen
  refine ⟨(· = adjB (es.map frontD)), ?_, fun e => ?_, fun e => ?_⟩
  · ((try dsimp only); refine rd_here rfl ?_; (try dsimp only))
    show if isN (.lst es) = true then _ else _
    rw [if_neg (by simp [isN])]
    ((try dsimp only); refine rd_here rfl ?_; (try dsimp only))
    refine compF_map (f := frontD) (fun x hx Q q => ?_) (by have := line_big; simp; omega) ?_
    · obtain ⟨n, ps, s, v, rfl, _⟩ := rowC_inv (g1' x hx)
      ((try dsimp only); refine rd_here rfl ?_; (try dsimp only))
      rw [isI_int, slD_tup, show (3 : Int) = ((3 : Nat) : Int) from rfl, cut_to _ 3 (by simp)]
      exact q
    · rw [List.nil_append]
      refine conE_use (args := fun xs : List Dat => [.lst xs]) (es.map frontD) ⟨by rw [List.length_map]; exact hle, fun y hy => ?_⟩ rfl
      obtain ⟨x, hx, rfl⟩ := List.mem_map.mp hy
      exact (layC (g1' x hx)).2
  · refine h2 hr fun z => ?_
    have := hadj.mpr (hnd.mpr z)
    rw [this] at e; cases e
  · ((try dsimp only); refine rd_here rfl ?_; (try dsimp only))
    exact h3 hr (hnd.mp (hadj.mp e.symm)) es hp hs
abbrev s_props_of_model : Stmt := topS 28
theorem sc_props_of_model : FnScope ["thing", "rows"] ["thing"] (defScope s_props_of_model) := ⟨rfl, rfl, rfl, by decide +kernel, rfl, by decide +kernel, by decide +kernel⟩
-- calls ['are_rows', 'has_twice'] consts []
theorem ok_props_of_model {CB fy : Addr} {j jj : Nat} (hj : j + 1 ≤ k) (hjj : jj ≤ k) (B : Bt mg) (M_is_name : mg "is_name" = some (.ref fy)) (HF : Held P w K mg base jj fy (spD K (con1 OkD fun d => .bl (isName d)))) (F_are_rows : CalleeMf P w K mg base "are_rows" k ["thing", "is_row"] (conRows P w K mg base jj isName)) (F_has_twice : Callee P w K mg base "has_twice" k ["things"] c_twice) (X_BadValue : OwnX P w K mg base "BadValue" CB "what" j) (F : Fun K "props_of_model" "props_of_model" s_props_of_model f fd) : FnOk P w K mg base (L2.CX P w) (k + 1) f fd ["thing"] (spD K (c_rowsOf CB isName id "props")) := by
  refine fn_pureX F sc_props_of_model (fun ds P X ⟨d, e, _⟩ => by rw [e]; rfl) fun cdv A outer s H S hS E EX el hr => ?_
  have nd := sc_props_of_model.nd
  refine ⟨_, (db_cons (ds_setc 1 (de_if (dt_val (de_fnMf F_are_rows hr (de_var 0) M_is_name (by omega))) (de_sortedL (hu100 hr) B.sorted (da_cons (de_var 0) da_nil)) de_non) nd) (db_cons (ds_ifc (dt_w (dw_or (dt_isN (de_var 1)) (dw_or1 (dt_val (de_fn F_has_twice hr (da_cons (de_var 1) da_nil) (by omega)))))) (db_one (ds_raise X_BadValue hr de_str (by omega))) db_nil) (db_one (ds_ret (de_tuple B.tuple (da_cons (de_var 1) da_nil)))))), ?_⟩
  rintro ds R ⟨d, rfl, hok, hna, hlen, h1, h2, h3⟩
  refine ⟨fun x => (rowsB isName d = false ∧ x = .non) ∨ (rowsB isName d = true ∧ ∃ es : List Dat, x = .lst es ∧ es.Perm (itemsOf d) ∧ srtP (toPs es)), ?_, fun x hx => ?_⟩
  · ((try dsimp only); refine rd_here rfl ?_; (try dsimp only))
    refine ⟨d, fy, rfl, HF, hok, hna, ?_⟩
    dsimp only
    rw [isB_bl]
    cases hr : rowsB isName d with
    | false => rw [if_neg (by simp)]; exact .inl ⟨rfl, rfl⟩
    | true =>
      rw [if_pos rfl]
      ((try dsimp only); refine rd_here rfl ?_; (try dsimp only))
      obtain ⟨g1, g2⟩ := rowsB_items hr
      exact sorted_use g2 (sortP_P g1) fun es p q => .inr ⟨rfl, es, rfl, p, q⟩
  try dsimp only
  rcases hx with ⟨hr, rfl⟩ | ⟨hr, es, rfl, hp, hs⟩
  · refine ⟨(· = true), ?_, fun _ => h1 hr, fun e => (nomatch e)⟩
    ((try dsimp only); refine rd_here rfl ?_; (try dsimp only))
    rfl
  obtain ⟨g1, g2⟩ := rowsB_items hr
  have g1' : ∀ x ∈ es, isName x = true := fun x hx => g1 x (hp.mem_iff.mp hx)
  have hadj := adj_iff (κ := id) (fun x hx => lay_name (g1' x hx)) (fun x hx y hy z => z) hs
  rw [List.map_id] at hadj
  have hnd : (es.map fun x => codeD (id x)).Nodup ↔ ((itemsOf d).map fun x => codeD (id x)).Nodup := (hp.map _).nodup_iff
  have hle : es.length ≤ 100000 := by rw [hp.length_eq]; exact hlen
  refine ⟨(· = adjB es), ?_, fun e => ?_, fun e => ?_⟩
  · ((try dsimp only); refine rd_here rfl ?_; (try dsimp only))
    show if isN (.lst es) = true then _ else _
    rw [if_neg (by simp [isN])]
    ((try dsimp only); refine rd_here rfl ?_; (try dsimp only))
    exact conE_use (args := fun xs : List Dat => [.lst xs]) es ⟨hle, fun y hy => shaped_ld (m := 0) (ld_of_name (g1' y hy)) (by decide)⟩ rfl
  · refine h2 hr fun z => ?_
    have := hadj.mpr (hnd.mpr z)
    rw [this] at e; cases e
  · ((try dsimp only); refine rd_here rfl ?_; (try dsimp only))
    exact h3 hr (hnd.mp (hadj.mp e.symm)) es hp hs
end
end K01
namespace K01
open PySem PySem.Spec PyProof.Rows L2 DL
/-! ### the class Model: made, asked, refused -/
abbrev fldsM : List Str := ["_names", "_calls", "_props"]
def c_init (CB : Addr) : ConI := ⟨fun ds P X => ∃ a b c, ds = [a, b, c] ∧ (c_rowsOf CB rowN headD "names").C [a] (fun n => (c_rowsOf CB rowC frontD "calls").C [b] (fun e => (c_rowsOf CB isName id "props").C [c] (fun p => P fldsM [n, e, p]) X) X) X,
  fun ds P P' X X' ⟨a, b, c, e, h⟩ m mx => ⟨a, b, c, e, (c_rowsOf CB rowN headD "names").mono _ _ _ _ _ h (fun n h => (c_rowsOf CB rowC frontD "calls").mono _ _ _ _ _ h (fun e h => (c_rowsOf CB isName id "props").mono _ _ _ _ _ h (fun p h => m _ _ h) mx) mx) mx⟩⟩
def c_fldM (C : Addr) (i : Nat) : ConM := ⟨fun sl P _ => ∃ px ds d, sl = [.cus false (objX C px fldsM ds)] ∧ ds.length = 3 ∧ ds[i]? = some d ∧ P d, fun _ _ _ _ _ ⟨px, ds, d, e, hl, hd, h⟩ m _ => ⟨px, ds, d, e, hl, hd, m _ h⟩⟩
theorem three_of {ds : List Dat} (h : ds.length = 3) : ∃ a b c, ds = [a, b, c] := by
  match ds, h with
  | [a, b, c], _ => exact ⟨a, b, c, rfl⟩
section
variable {P : Program} {w : World} {K : PySem.W.Frag} {mg : Str → Option Value} {base : Heap} {f C CB : Addr} {fd : FuncData} {k j : Nat}
abbrev s_Model___init__ : Stmt := inClass (topS 29) 0
theorem sc_Model___init__ : FnScope ["self", "names", "calls", "props"] ["self", "names", "calls", "props"] (defScope s_Model___init__) := ⟨rfl, rfl, rfl, by decide +kernel, rfl, by decide +kernel, by decide +kernel⟩
-- calls ['names_of_model', 'calls_of_model', 'props_of_model'] consts []
theorem ok_Model_init {dvs : List V} {kws : List (Str × V)} (HC : Cls K C) (NA_names : NoAttr K C "_names") (NA_calls : NoAttr K C "_calls") (NA_props : NoAttr K C "_props") (F_names_of_model : CalleeX P w K mg base "names_of_model" k ["thing"] (c_rowsOf CB rowN headD "names")) (F_calls_of_model : CalleeX P w K mg base "calls_of_model" k ["thing"] (c_rowsOf CB rowC frontD "calls")) (F_props_of_model : CalleeX P w K mg base "props_of_model" k ["thing"] (c_rowsOf CB isName id "props"))
    (F : FunD K "__init__" "Model.__init__" (defArgs s_Model___init__) (defBody s_Model___init__) (defScope s_Model___init__) dvs kws f fd) : FnOk P w K mg base (L2.CX P w) (k + 1) f fd ["self", "names", "calls", "props"] (spNew K C (c_init CB)) := by
  refine fn_init F sc_Model___init__ (fun ds P X ⟨a, b, c, e, _⟩ => by rw [e]; rfl) fun cdv A outer s H S x hS E EX el hr => ?_
  have nd := sc_Model___init__.nd
  refine ⟨_, (db_cons (ds_fldNew 0 HC NA_names (de_fnX F_names_of_model hr (da_cons (de_var 1) da_nil) (by omega))) (db_cons (ds_fldNew 0 HC NA_calls (de_fnX F_calls_of_model hr (da_cons (de_var 2) da_nil) (by omega))) (db_one (ds_fldNew 0 HC NA_props (de_fnX F_props_of_model hr (da_cons (de_var 3) da_nil) (by omega)))))), ?_⟩
  rintro ds R ⟨a, b, c, rfl, h⟩
  ((try dsimp only); refine rd_here rfl ?_; (try dsimp only))
  show (c_rowsOf CB rowN headD "names").C [a] _ _
  refine (c_rowsOf CB rowN headD "names").mono _ _ _ _ _ h (fun n h => ⟨some x, [], [], rfl, by decide, by decide, ?_⟩) fun _ z => z
  ((try dsimp only); refine rd_here rfl ?_; (try dsimp only))
  show (c_rowsOf CB rowC frontD "calls").C [b] _ _
  refine (c_rowsOf CB rowC frontD "calls").mono _ _ _ _ _ h (fun e h => ⟨some x, ["_names"], [n], rfl, by decide, by decide, ?_⟩) fun _ z => z
  ((try dsimp only); refine rd_here rfl ?_; (try dsimp only))
  show (c_rowsOf CB isName id "props").C [c] _ _
  refine (c_rowsOf CB isName id "props").mono _ _ _ _ _ h (fun p h => ⟨some x, ["_names", "_calls"], [n, e], rfl, by decide, by decide, ?_⟩) fun _ z => z
  exact ⟨fldsM, [n, e, p], rfl, h⟩
abbrev s_Model_names : Stmt := inClass (topS 29) 1
theorem sc_Model_names : FnScope ["self"] ["self"] (defScope s_Model_names) := ⟨rfl, rfl, rfl, by decide +kernel, rfl, by decide +kernel, by decide +kernel⟩
-- calls [] consts []
theorem ok_Model_names (HC : Cls K C) (NA_names : NoAttr K C "_names") (F : Fun K "names" "Model.names" s_Model_names f fd) : FnOk P w K mg base (L2.CX P w) (k + 1) f fd ["self"] (spM K (c_fldM C 0)) := by
  refine fn_pureM F sc_Model_names (fun sl P X ⟨px, ds, d, e, _⟩ => by rw [e]; rfl) fun cdv A outer s H S hS E EX el hr => ?_
  have nd := sc_Model_names.nd
  refine ⟨_, (db_one (ds_ret (de_fld 0 HC NA_names))), ?_⟩
  rintro sl R ⟨px, ds, d, rfl, hl, hd, h⟩
  obtain ⟨a, b, c, rfl⟩ := three_of hl
  cases hd
  exact ⟨false, px, _, _, _, rfl, rfl, h⟩
abbrev s_Model_calls : Stmt := inClass (topS 29) 2
theorem sc_Model_calls : FnScope ["self"] ["self"] (defScope s_Model_calls) := ⟨rfl, rfl, rfl, by decide +kernel, rfl, by decide +kernel, by decide +kernel⟩
-- calls [] consts []
theorem ok_Model_calls (HC : Cls K C) (NA_calls : NoAttr K C "_calls") (F : Fun K "calls" "Model.calls" s_Model_calls f fd) : FnOk P w K mg base (L2.CX P w) (k + 1) f fd ["self"] (spM K (c_fldM C 1)) := by
  refine fn_pureM F sc_Model_calls (fun sl P X ⟨px, ds, d, e, _⟩ => by rw [e]; rfl) fun cdv A outer s H S hS E EX el hr => ?_
  have nd := sc_Model_calls.nd
  refine ⟨_, (db_one (ds_ret (de_fld 0 HC NA_calls))), ?_⟩
  rintro sl R ⟨px, ds, d, rfl, hl, hd, h⟩
  obtain ⟨a, b, c, rfl⟩ := three_of hl
  cases hd
  exact ⟨false, px, _, _, _, rfl, rfl, h⟩
abbrev s_Model_props : Stmt := inClass (topS 29) 3
theorem sc_Model_props : FnScope ["self"] ["self"] (defScope s_Model_props) := ⟨rfl, rfl, rfl, by decide +kernel, rfl, by decide +kernel, by decide +kernel⟩
-- calls [] consts []
theorem ok_Model_props (HC : Cls K C) (NA_props : NoAttr K C "_props") (F : Fun K "props" "Model.props" s_Model_props f fd) : FnOk P w K mg base (L2.CX P w) (k + 1) f fd ["self"] (spM K (c_fldM C 2)) := by
  refine fn_pureM F sc_Model_props (fun sl P X ⟨px, ds, d, e, _⟩ => by rw [e]; rfl) fun cdv A outer s H S hS E EX el hr => ?_
  have nd := sc_Model_props.nd
  refine ⟨_, (db_one (ds_ret (de_fld 0 HC NA_props))), ?_⟩
  rintro sl R ⟨px, ds, d, rfl, hl, hd, h⟩
  obtain ⟨a, b, c, rfl⟩ := three_of hl
  cases hd
  exact ⟨false, px, _, _, _, rfl, rfl, h⟩
end
end K01
namespace K01
open PySem PySem.Spec PyProof.Rows L2 DL
/-! ### Model called: by place and by name -/
/-- what the written part says of the class Model -/
structure ModelK (K : PySem.W.Frag) (mg : Str → Option Value) (C f : Addr) (fd : FuncData) (v a b : V) : Prop where
  mkC : Mk K C f
  mgC : mg "Model" = some (.ref C)
  F : FunD K "__init__" "Model.__init__" (defArgs s_Model___init__) (defBody s_Model___init__) (defScope s_Model___init__) [v] [("calls", a), ("props", b)] f fd
  wv : ∀ S H, Dv K S H (.tup []) v
  wa : ∀ S H, Dv K S H (.tup []) a
  wb : ∀ S H, Dv K S H (.tup []) b
abbrev t0 : Dat := .tup []
theorem dvl1 {K : PySem.W.Frag} {S : Addr → Prop} {H : Hp} {d : Dat} {v : V} {ds : List Dat} {vs : List V} (h : Dv K S H d v) (r : DvL K S H ds vs) : DvL K S H (d :: ds) (v :: vs) := ⟨v, vs, rfl, h, r⟩
theorem dvl_one {K : PySem.W.Frag} {S : Addr → Prop} {H : Hp} {ds : List Dat} {v : V} (h : DvL K S H ds [v]) : ∃ d, ds = [d] ∧ Dv K S H d v := by
  match ds, h with
  | [], h => cases h
  | [d], ⟨x, r, e, h1, _⟩ => cases e; exact ⟨d, rfl, h1⟩
  | d :: d2 :: ds, ⟨x, r, e, _, y, r2, e2, _⟩ => cases e; cases e2
theorem dvl_two {K : PySem.W.Frag} {S : Addr → Prop} {H : Hp} {ds : List Dat} {v u : V} (h : DvL K S H ds [v, u]) : ∃ d e, ds = [d, e] ∧ Dv K S H d v ∧ Dv K S H e u := by
  match ds, h with
  | [], h => cases h
  | d :: ds, ⟨x, r, e, h1, h2⟩ => cases e; obtain ⟨d2, rfl, h3⟩ := dvl_one h2; exact ⟨d, d2, rfl, h1, h3⟩
theorem dvl_no {K : PySem.W.Frag} {S : Addr → Prop} {H : Hp} {ds : List Dat} (h : DvL K S H ds []) : ds = [] := by
  match ds, h with
  | [], _ => rfl
  | d :: ds, ⟨x, r, e, _⟩ => cases e
section
variable {P : Program} {w : World} {K : PySem.W.Frag} {mg : Str → Option Value} {base : Heap} {f C CB : Addr} {fd : FuncData} {k : Nat} {v a b : V} {CI : ConI}
theorem kb_full (F : FunD K "__init__" "Model.__init__" (defArgs s_Model___init__) (defBody s_Model___init__) (defScope s_Model___init__) [v] [("calls", a), ("props", b)] f fd) :
    ∃ its mv : List Value, KBn K fd ["self", "names", "calls", "props"] 2 ["calls", "props"] (fun us ws => us ++ ws) (fun vs zs => vs ++ zs) :=
  F.kbinds 2 ["calls", "props"] [] (fun us its mv ws => us ++ ws) (by simp) (by simp) (fun q h => by cases h) (fun r1 r2 r3 r4 => (r1.append r4)) fun T D doc pm an cdv ct us its mv ws l1 l2 l3 l4 => by
    match us, its, mv, ws, l1, l2, l3, l4 with
    | [u0, u1], [d0], [], [w0, w1], _, _, _, _ => exact ⟨_, rfl, rfl⟩
theorem mkc_full (M : ModelK K mg C f fd v a b) (F : FnOk P w K mg base (L2.CX P w) k f fd ["self", "names", "calls", "props"] (spNew K C CI)) : MkC P w K mg base "Model" k C CI 1 ["calls", "props"] (fun us zs => us ++ zs) := by
  obtain ⟨its, mv, h⟩ := kb_full M.F
  refine ⟨⟨f, fd, _, M.mkC, M.mgC, F, _, _, fun vs zs => vs ++ zs, h, fun x vs zs _ _ => rfl, fun S H ds es vs zs hd he l1 l2 => ?_⟩⟩
  match vs, zs, l1, l2 with
  | [x0], [y0, y1], _, _ =>
    obtain ⟨d0, rfl, hd0⟩ := dvl_one hd
    obtain ⟨e0, e1, rfl, he0, he1⟩ := dvl_two he
    exact dvl1 hd0 (dvl1 he0 (dvl1 he1 rfl))
end
end K01
namespace DL
open PySem PySem.Spec PyProof.Rows L2
section
variable {ι : Type} {G : Fam ι} {Fa : FR ι} {e : Expr}
/-- for name in a list or a tuple, by a word of what is left, the slots and the index -/
theorem dsr_forSeq {x : Str} {xp fp : Pos} {body : List Stmt} {Fb : FSR ι} (n : Nat) (hp : PassesOwn (model G.X.prog G.X.w) G.X.A G.X.env G.X.xe) (hc : G.X.calm = true) (ha : DR G e Fa) (hb : DBR G body Fb) (hN : G.X.N.Nodup) (hi : G.X.N[n]? = some x := by rfl) (hx : Loc G.X.env.scope x := by first | exact Or.inl rfl | exact Or.inr rfl)
    (hf : G.X.fn x = true ∨ G.X.env.scope.names.lookup x = some .local := by first | exact .inl rfl | exact .inr rfl) (hs2 : ∀ z, foldedSetIterable e G.X.env z = pure z := by intro _; rfl) :
    DSR G (.For (.Name x xp) e body [] fp) (fun D ρ i => ∃ Inv : List Dat → List Slot → ι → Prop, (Fa ρ i fun d j => seqOf d fun ds => Inv ds ρ j) ∧ (∀ ρ j, Inv [] ρ j → D.nx ρ j) ∧ ∀ d ds ρ j, Inv (d :: ds) ρ j → Fb { nx := Inv ds, ct := Inv ds, bk := D.nx, rt := D.rt } (ρ.set n (.d d)) j) := by
  obtain ⟨t, h1, l1⟩ := ha.ex
  obtain ⟨u, h3, lb⟩ := hb.ex
  refine ⟨⟨_, ps_for hp hc (pi_seq h1) (pg_name (i := n) hN hi hx hf) h3 hs2, fun S σ H ρ i D Dh gd h q => ?_⟩⟩
  obtain ⟨Inv, h, k0, ks⟩ := h
  refine l1 S σ H ρ i _ _ gd h fun v d H1 j0 st hv hl => ?_
  have g1 := gd.stepI st
  have fr1 : Fr S H S H1 := st.fr gd
  cases d with
  | lst ds =>
    obtain ⟨p, xs, rfl, np, ep, hxs⟩ := dv_lst hv
    refine ⟨p, rfl, .inl ⟨⟨xs, .inl (.inl ep)⟩, ?_⟩⟩
    have wk : ∀ j : ι, WalkOk (G.at j) (Itl G.X.K p) ds S H1 := fun j => walk_lst np ep hxs
    refine ⟨fun r m σ' H' => m = ds.length - r ∧ r ≤ ds.length ∧ ∃ S' ρ' j, Gd (G.at j) S' σ' H' ρ' ∧ Fr S H1 S' H' ∧ Inv (ds.drop r) ρ' j, ⟨_, rfl, Nat.zero_le _, S, ρ, j0, g1, Fr.refl _ _, hl⟩, ?_⟩
    rintro r m σ' H' ⟨rfl, hr, S', ρ', j, g', fr, hf'⟩
    by_cases hlt : r < ds.length
    · refine .inr ⟨(wk j).go r S' H' hlt fr, fun σ2 H2 => ∃ S2 ρ2 j2, Gd (G.at j2) S2 σ2 H2 ρ2 ∧ Fr S H1 S2 H2 ∧ Inv (ds.drop (r + 1)) ρ2 j2, fun σ2 H2 ⟨S2, ρ2, j2, a1, a2, a3⟩ => ⟨_, by omega, rfl, hlt, S2, ρ2, j2, a1, a2, a3⟩, fun z H2 y => ?_⟩
      obtain ⟨s2, hd⟩ := (wk j).yld r _ S' σ' ρ' H' z H2 (List.getElem?_eq_getElem hlt) g' fr y
      have g2 := g'.step s2
      rw [List.drop_eq_getElem_cons hlt] at hf'
      have frx : Fr S' H' S' H2 := s2.fr g'
      refine lb S' _ H2 _ j _ _ (g2.set hd) (ks _ _ _ _ hf') ⟨fun S4 σ4 H4 ρ4 j4 g4 fr4 hn => ⟨S4, ρ4, j4, g4, (fr.trans frx).trans fr4, hn⟩, q.rt, fun S4 σ4 H4 ρ4 j4 g4 fr4 hn => q.nx S4 σ4 H4 ρ4 j4 g4 (fr1.trans ((fr.trans frx).trans fr4)) hn, fun S4 σ4 H4 ρ4 j4 g4 fr4 hn => ⟨S4, ρ4, j4, g4, (fr.trans frx).trans fr4, hn⟩⟩
    · have e : r = ds.length := by omega
      subst e
      rw [List.drop_length] at hf'
      exact .inl ⟨(wk j).stop S' H' fr, q.nx S' σ' H' ρ' j g' (fr1.trans fr) (k0 _ _ hf')⟩
  | tup ds =>
    obtain ⟨p, xs, rfl, ep, hxs⟩ := dv_tup hv
    refine ⟨p, rfl, .inr ⟨⟨xs, sqT_of ep⟩, ?_⟩⟩
    have wk : ∀ j : ι, WalkOk (G.at j) (Itt G.X.K p) ds S H1 := fun j => walk_tup ep hxs
    refine ⟨fun r m σ' H' => m = ds.length - r ∧ r ≤ ds.length ∧ ∃ S' ρ' j, Gd (G.at j) S' σ' H' ρ' ∧ Fr S H1 S' H' ∧ Inv (ds.drop r) ρ' j, ⟨_, rfl, Nat.zero_le _, S, ρ, j0, g1, Fr.refl _ _, hl⟩, ?_⟩
    rintro r m σ' H' ⟨rfl, hr, S', ρ', j, g', fr, hf'⟩
    by_cases hlt : r < ds.length
    · refine .inr ⟨(wk j).go r S' H' hlt fr, fun σ2 H2 => ∃ S2 ρ2 j2, Gd (G.at j2) S2 σ2 H2 ρ2 ∧ Fr S H1 S2 H2 ∧ Inv (ds.drop (r + 1)) ρ2 j2, fun σ2 H2 ⟨S2, ρ2, j2, a1, a2, a3⟩ => ⟨_, by omega, rfl, hlt, S2, ρ2, j2, a1, a2, a3⟩, fun z H2 y => ?_⟩
      obtain ⟨s2, hd⟩ := (wk j).yld r _ S' σ' ρ' H' z H2 (List.getElem?_eq_getElem hlt) g' fr y
      have g2 := g'.step s2
      rw [List.drop_eq_getElem_cons hlt] at hf'
      have frx : Fr S' H' S' H2 := s2.fr g'
      refine lb S' _ H2 _ j _ _ (g2.set hd) (ks _ _ _ _ hf') ⟨fun S4 σ4 H4 ρ4 j4 g4 fr4 hn => ⟨S4, ρ4, j4, g4, (fr.trans frx).trans fr4, hn⟩, q.rt, fun S4 σ4 H4 ρ4 j4 g4 fr4 hn => q.nx S4 σ4 H4 ρ4 j4 g4 (fr1.trans ((fr.trans frx).trans fr4)) hn, fun S4 σ4 H4 ρ4 j4 g4 fr4 hn => ⟨S4, ρ4, j4, g4, (fr.trans frx).trans fr4, hn⟩⟩
    · have e : r = ds.length := by omega
      subst e
      rw [List.drop_length] at hf'
      exact .inl ⟨(wk j).stop S' H' fr, q.nx S' σ' H' ρ' j g' (fr1.trans fr) (k0 _ _ hf')⟩
  | _ => exact hl.elim
end
end DL
namespace DL
open PySem PySem.Spec PyProof.Rows L2
section
variable {ι : Type} {G : Fam ι} {c : Expr} {pos : Pos}
/-- while, the state changing -/
theorem dsr_while {body : List Stmt} {Fc : FTR ι} {Fb : FSR ι} (hp : PassesOwn (model G.X.prog G.X.w) G.X.A G.X.env G.X.xe) (hc : DTR G c Fc) (hb : DBR G body Fb) :
    DSR G (.While c body [] pos) (fun D ρ i => ∃ Inv : Nat → List Slot → ι → Prop, (∃ m, Inv m ρ i) ∧ ∀ m ρ i, Inv m ρ i → ∃ Pc : Bool → ι → Prop, Fc ρ i Pc ∧ (∀ j, Pc false j → D.nx ρ j) ∧ (∀ j, Pc true j → Fb { nx := fun ρ j => ∃ m', m' < m ∧ Inv m' ρ j, ct := fun ρ j => ∃ m', m' < m ∧ Inv m' ρ j, bk := D.nx, rt := D.rt } ρ j)) := by
  obtain ⟨tc, h1, lc⟩ := hc.ex
  obtain ⟨tb, h2, lb⟩ := hb.ex
  refine ⟨⟨_, ps_while hp h1 h2, fun S σ H ρ i D Dh g h q => ?_⟩⟩
  obtain ⟨IV, ⟨m0, h0⟩, turn⟩ := h
  refine ⟨fun m σ' H' => ∃ S' ρ' j, Gd (G.at j) S' σ' H' ρ' ∧ Fr S H S' H' ∧ IV m ρ' j, ⟨m0, S, ρ, i, g, Fr.refl _ _, h0⟩, ?_⟩
  rintro m σ1 H1 ⟨S1, ρ1, j1, g1, fr1, hi⟩
  obtain ⟨Pc, hc, hf, ht⟩ := turn m ρ1 j1 hi
  refine lc S1 σ1 H1 ρ1 j1 _ _ g1 hc fun b H2 j2 st hb => ?_
  have g2 := g1.stepI st
  have fr2 : Fr S H S1 H2 := fr1.trans (st.fr g1)
  cases b with
  | false => exact q.nx _ _ _ _ _ g2 fr2 (hf _ hb)
  | true =>
    refine ⟨fun σ' H' => ∃ m', m' < m ∧ ∃ S' ρ' j, Gd (G.at j) S' σ' H' ρ' ∧ Fr S H S' H' ∧ IV m' ρ' j, fun σ' H' ⟨m', h1, h2⟩ => ⟨m', h1, h2⟩, ?_⟩
    exact lb S1 σ1 H2 ρ1 j2 _ _ g2 (ht _ hb) ⟨fun S4 σ4 H4 ρ4 j4 g4 fr4 ⟨m', hm, hn⟩ => ⟨m', hm, S4, ρ4, j4, g4, fr2.trans fr4, hn⟩, q.rt, fun S4 σ4 H4 ρ4 j4 g4 fr4 hn => q.nx _ _ _ _ _ g4 (fr2.trans fr4) hn, fun S4 σ4 H4 ρ4 j4 g4 fr4 ⟨m', hm, hn⟩ => ⟨m', hm, S4, ρ4, j4, g4, fr2.trans fr4, hn⟩⟩
end
end DL
namespace DL
open PySem PySem.Spec PyProof.Rows L2
section
variable {ι : Type} {G : Fam ι} {pos : Pos}
end
end DL
namespace DL
open PySem PySem.Spec PyProof.Rows L2
/-! ### a, b, c = x, y, z with plain local names -/
def three (ds : List Dat) (P : Dat → Dat → Dat → Prop) : Prop := match ds with
  | [d, e, f] => P d e f
  | _ => False
section
variable {G : Ctx} {a b c : Expr} {pos : Pos}
end
end DL
namespace DL
open PySem PySem.Spec PyProof.Rows L2
/-! ### own ==, !=, len, repr -/
def tyNs : List String := ["NoneType", "bool", "int", "str", "tuple", "list", "dict"]
/-- what of the text a class with an own == must have -/
structure CmpC (K : PySem.W.Frag) (C : Addr) : Prop where
  cl : Cls K C
  ca : PySem.W.findIn K (.ref C) "__class__" = some (some (.builtin "object.__class__"))
  cn : PySem.W.specialIn K (.builtin "object.__class__") "__get__" = some (some (.builtin "getset_descriptor.__get__"))
  ct : PySem.W.takesIn K (.builtin "object.__class__") = some true
  cm : PySem.W.mroIn K C (.type "object") = some true
  nf : tyNs.all (fun T => PySem.W.notFirst K C (.type T)) = true
  ki : tyNs.all (fun T => PySem.W.kitOne K (.type T) (.ref C) == some false) = true
  kc : PySem.W.kitOne K (.ref C) (.ref C) = some true
  ne : PySem.W.findIn K (.ref C) "__ne__" = some (some (.builtin "object.__ne__"))
/-- a special def of the class -/
structure Spc (K : PySem.W.Frag) (C : Addr) (m : Str) (f : Addr) : Prop where
  at_ : PySem.W.findIn K (.ref C) m = some (some (.ref f))
  fn : PySem.W.isFn K (.ref f) = true
section
variable {X : Cx} {CX : CXT} {pins : List (Addr × Obj)} {σ : L2.St} {H : Hp} {s : Shared} {f C dx a : Addr} {fd : FuncData} {n : Nat} {ps : List Str} {sp : Sp} {E : XK} {Q : VK}
theorem env_at {A : Around} (I : Inv X pins σ H s) (hf : A.frames = X.A.frames) : Env0 X.prog X.w X.K X.mg X.base A X.stack s H := by
  have e := I.env0
  exact ⟨by rw [hf]; exact e.frames, e.mod, e.bs, e.bsz, e.funs, e.frf, e.hok, e.bare⟩
theorem run_own {A : Around} {us : List Value} {vs : List V} (F : FnOk X.prog X.w X.K X.mg X.base CX n f fd ps sp) (hb : Binds X.K fd ps []) (hr : Room n A) (hf : A.frames = X.A.frames) (hx : Passes CX X E)
    (I : Inv X pins σ H s) (r : Vals vs us) (h : sp vs H Q E) : wpAny (model X.prog X.w) A (call (.ref f) us) (EP X pins σ Q) X.xe s := by
  have hl := F.len _ _ _ _ h
  have hl2 : (us ++ []).length = ps.length := by rw [List.append_nil, ← r.length]; exact hl
  have hb' := hb s us I.kIn hl2
  rw [List.append_nil] at hb'
  refine wpAny_call (codeAny_mono (F.run A X.stack s H ⟨us, []⟩ us vs Q E hr (env_at I hf) hb' r h) fun r s' hq => ?_)
  cases r with
  | error e => exact hx pins σ H s e s' I hq
  | ok fl =>
    cases fl with
    | ret u => exact I.after hq
    | next => exact False.elim hq
    | brk => exact False.elim hq
    | cont => exact False.elim hq
theorem cmpback {P : Value → Shared → Prop} {z : V} {v : Value} {s' : Shared} (r : RelV z v) (h : P v s') : PySem.W.CmpBack P v s' := by
  cases z with
  | non => cases (show v = Value.none from r); exact h
  | bl b => cases (show v = Value.bool b from r); exact h
  | int i => obtain ⟨t, e⟩ := (show ∃ t, v = Value.int i t from r); cases e; exact h
  | str x => obtain ⟨t, e⟩ := (show ∃ t, v = Value.str x t from r); cases e; exact h
  | byt b => obtain ⟨t, e⟩ := (show ∃ t, v = Value.bytes b t from r); cases e; exact h
  | flt b => obtain ⟨t, e⟩ := (show ∃ t, v = Value.float b t from r); cases e; exact h
  | ref a => cases (show v = Value.ref a from r); exact h
  | ty n => cases (show v = Value.type n from r); exact h
/-- x == y by x's own def -/
def rEqOwn (K : PySem.W.Frag) (C : Addr) (sp : Sp) (E : XK) : R2 := fun x y H Q => ∃ a dx fs t, x = .ref a ∧ H a = some (.ins C dx fs) ∧ TyX K H y t ∧ PySem.W.notFirst K C t = true ∧ sp [x, y] H Q E
theorem op_eqOwn (hs : Spc X.K C "__eq__" f) (F : FnOk X.prog X.w X.K X.mg X.base CX n f fd ps sp) (hb : Binds X.K fd ps []) (hr : Room n X.A) (hx : Passes CX X E) : OpR X (compareOp .Eq) (rEqOwn X.K C sp E) := by
  intro pins s σ H x y v u Q I rx ry h
  obtain ⟨a, dx, fs, t, rfl, ea, ty, hn, q⟩ := h
  cases (show v = Value.ref a from rx)
  obtain ⟨mA, J, _⟩ := ins_get I.hok ea
  obtain ⟨od, J, _⟩ := J.look
  obtain ⟨P, Z, hp, _⟩ := kit_of I ry ty
  obtain ⟨m, hF⟩ := I.fr
  show wpAny (model X.prog X.w) X.A (richCompare .Eq (.ref a) u) (EP X pins σ Q) X.xe s
  refine PySem.W.cmp_K (op := .Eq) (tb := t) hr.units0 hF I.ok.mod.kin J (Z.ty _ _ I.kIn hp) hn hs.at_ hs.fn ?_
  refine wpAny_mono (run_own (us := [.ref a, u]) (vs := [.ref a, y]) F hb hr rfl hx I (.cons rfl (.cons ry .nil)) q) (fun w s' z => ?_) fun _ _ x => x
  obtain ⟨z', H', I', rz, qz⟩ := z
  exact cmpback rz ⟨z', H', I', rz, qz⟩
theorem ifBound_ne {M : Model} {A : Around} {E : Value → Shared → Prop} {s : Shared} {K : PySem.W.Frag} {x C : Addr} {ox : Obj} {od : Option Obj} {args : List Value} {Q : Option Value → Shared → Prop} (X : K.In s.heap) (I : PySem.W.InstAt s.heap x ox C od) (hs : PySem.W.findIn K (.ref C) "__ne__" = some (some (.builtin "object.__ne__")))
    (h : wpAny M A (call (.builtin "object.__ne__") (.ref x :: args)) (fun v => Q (some v)) E s) : wpAny M A (callSpecialIfBound? (.ref x) "__ne__" args) Q E s := by
  simp only [callSpecialIfBound?, bindSpecialIfBound?]
  refine wpAny_holding (wpAny_bind (wpAny_bind (wpAny_bind (I.type.here ((PySem.W.looks_findIn X hs).here ?_)))))
  refine wpAny_bind (wpAny_askSetting (wpAny_ite ?_))
  have fin : wpAny M A (call (.builtin "object.__ne__") ([.ref x] ++ args) >>= fun v => pure (some v)) Q E s := wpAny_bind (wpAny_mono h (fun v s' h' => wpAny_pure h') fun _ _ h' => h')
  simp only [PySem.F.cmp_object.ne.bind]
  split
  · exact wpAny_bind (wpAny_pure (wpAny_pure (by exact fin)))
  · exact wpAny_tryCatch (wpAny_bind (wpAny_pure (wpAny_pure (by exact fin))))
/-- x != y by object's, which asks x's own == -/
def rNeOwn (K : PySem.W.Frag) (C : Addr) (sp : Sp) (E : XK) : R2 := fun x y H Q => ∃ a dx fs t, x = .ref a ∧ H a = some (.ins C dx fs) ∧ TyX K H y t ∧ PySem.W.notFirst K C t = true ∧ sp [x, y] H (fun z H' => ∃ b, z = .bl b ∧ Q (.bl (!b)) H') E
theorem op_neOwn (hc : CmpC X.K C) (hs : Spc X.K C "__eq__" f) (F : FnOk X.prog X.w X.K X.mg X.base CX n f fd ps sp) (hb : Binds X.K fd ps []) (hr : Room (n + 1) X.A) (hx : Passes CX X E) : OpR X (compareOp .NotEq) (rNeOwn X.K C sp E) := by
  intro pins s σ H x y v u Q I rx ry h
  obtain ⟨a, dx, fs, t, rfl, ea, ty, hn, q⟩ := h
  cases (show v = Value.ref a from rx)
  obtain ⟨mA, J, _⟩ := ins_get I.hok ea
  obtain ⟨od, J, _⟩ := J.look
  obtain ⟨P, Z, hp, _⟩ := kit_of I ry ty
  have hb' := Z.ty (model X.prog X.w) _ I.kIn hp
  have hkin := I.kIn
  have hu := hr.units0
  have hu1 : X.A.in1.units < cLine := hr.in1.units0
  have one : wpAny (model X.prog X.w) X.A (tryCompare (.ref a) "__ne__" u) (fun r s' => ∃ v, r = some v ∧ EP X pins σ Q v s') X.xe s := by
    unfold tryCompare
    refine wpAny_bind (ifBound_ne hkin J hc.ne (wpAny_call (codeAny_call_builtin PySem.F.cmp_object.ne.plain PySem.F.cmpEntry_ne (PySem.W.check_slot PySem.F.cmpKind_ne PySem.F.cmpSplit_ne (J.type.andThen (PySem.W.looks_mroIn hkin hc.cm)) (PySem.F.cmpArgs_ne _ _) ?_))))
    unfold Builtin.«object.__ne__»
    refine wpAny_bind (m := slotArgs "__ne__" 1 _) (wpAny_pure ?_)
    refine wpAny_bind (wpAny_cRoomFor hu1 ?_)
    refine wpAny_bind (m := callSpecialIfBound? (.ref a) (Str.ofString "__eq__") _) (PySem.W.ifBound_K hkin J hs.at_ hs.fn (wpAny_mono (run_own (A := X.A.in1) (us := [.ref a, u]) (vs := [.ref a, y]) F hb hr.in1 rfl hx I (.cons rfl (.cons ry .nil)) q) (fun w s' z => ?_) fun _ _ x => x))
    obtain ⟨z', H', I', rz, b, rfl, qz⟩ := z
    cases (show w = Value.bool b from rz)
    refine wpAny_bind (m := truthy (.bool b)) (wpAny_truthy_bool ?_)
    refine wpAny_pure ?_
    exact wpAny_pure ⟨_, rfl, .bl (!b), H', I', rfl, qz⟩
  show wpAny (model X.prog X.w) X.A (richCompare .NotEq (.ref a) u) (EP X pins σ Q) X.xe s
  unfold richCompare
  simp only [PySem.oneThing_ref]
  refine wpAny_holding (wpAny_bind (wpAny_cRoomFor hu ?_))
  refine wpAny_bind (J.type.here (wpAny_bind (hb'.here ?_)))
  split
  · rename_i q'
    have e : PySem.W.subIn X.K t (.ref C) = some false := by
      rcases Bool.or_eq_true_iff.mp hn with e | e
      · rw [beq_iff_eq.mp e] at q'; simp at q'
      · exact beq_iff_eq.mp e
    refine wpAny_bind ((PySem.W.looks_subIn hkin e).here ?_)
    simp only [Bool.false_eq_true, if_false]
    refine wpAny_bind (wpAny_mono one (fun r s' z => ?_) fun _ _ e => e)
    obtain ⟨v, rfl, hq⟩ := z
    exact wpAny_pure hq
  · refine wpAny_bind (wpAny_pure ?_)
    simp only [Bool.false_eq_true, if_false]
    refine wpAny_bind (wpAny_mono one (fun r s' z => ?_) fun _ _ e => e)
    obtain ⟨v, rfl, hq⟩ := z
    exact wpAny_pure hq
/-- len(x) by x's own def -/
def rLenOwn (C : Addr) (sp : Sp) (E : XK) : List V → Hp → VK → Prop := fun xs H Q => ∃ a dx fs, xs = [.ref a] ∧ H a = some (.ins C dx fs) ∧ sp xs H (fun z H' => ∃ i, z = .int i ∧ 0 ≤ i ∧ i < 2 ^ 63 ∧ Q (.int i) H') E
theorem call_lenOwn (hs : Spc X.K C "__len__" f) (F : FnOk X.prog X.w X.K X.mg X.base CX n f fd ps sp) (hb : Binds X.K fd ps []) (hr : Room (n + 1) X.A) (hx : Passes CX X E) : CallR X (.builtin "len") (rLenOwn C sp E) := by
  intro pins s σ H xs us Q I r h
  obtain ⟨a, dx, fs, rfl, ea, q⟩ := h
  obtain ⟨u, rfl, ru⟩ := r.one
  cases (show u = Value.ref a from ru)
  obtain ⟨mA, J, _⟩ := ins_get I.hok ea
  obtain ⟨od, J, _⟩ := J.look
  obtain ⟨m, hF⟩ := I.fr
  refine PySem.W.len_K hF I.ok.mod.kin J hs.at_ hs.fn (wpAny_mono (run_own (A := X.A.in1) (us := [.ref a]) (vs := [.ref a]) F hb hr.in1 rfl hx I (.cons rfl .nil) q) (fun w s' z => ?_) fun _ _ x => x)
  obtain ⟨z', H', I', rz, i, rfl, h0, h1, qz⟩ := z
  obtain ⟨t, e⟩ := (show ∃ t, w = Value.int i t from rz)
  cases e
  exact ⟨⟨h0, h1⟩, .int i, H', I'.tok _, ⟨_, rfl⟩, qz⟩
/-- repr(x) by x's own def -/
def rReprOwn (C : Addr) (sp : Sp) (E : XK) : List V → Hp → VK → Prop := fun xs H Q => ∃ a dx fs, xs = [.ref a] ∧ H a = some (.ins C dx fs) ∧ sp xs H (fun z H' => ∃ i, z = .str i ∧ Q (.str i) H') E
theorem call_reprOwn (hs : Spc X.K C "__repr__" f) (F : FnOk X.prog X.w X.K X.mg X.base CX n f fd ps sp) (hb : Binds X.K fd ps []) (hr : Room (n + 1) X.A) (hx : Passes CX X E) : CallR X (.builtin "repr") (rReprOwn C sp E) := by
  intro pins s σ H xs us Q I r h
  obtain ⟨a, dx, fs, rfl, ea, q⟩ := h
  obtain ⟨u, rfl, ru⟩ := r.one
  cases (show u = Value.ref a from ru)
  obtain ⟨mA, J, _⟩ := ins_get I.hok ea
  obtain ⟨od, J, _⟩ := J.look
  obtain ⟨m, hF⟩ := I.fr
  refine PySem.W.repr_K hr.in1.units0 hF I.ok.mod.kin J hs.at_ hs.fn (wpAny_mono (run_own (A := X.A.in1) (us := [.ref a]) (vs := [.ref a]) F hb hr.in1 rfl hx I (.cons rfl .nil) q) (fun w s' z => ?_) fun _ _ x => x)
  obtain ⟨z', H', I', rz, i, rfl, qz⟩ := z
  obtain ⟨t, e⟩ := (show ∃ t, w = Value.str i t from rz)
  cases e
  exact ⟨.str i, H', I', ⟨_, rfl⟩, qz⟩
end
end DL
namespace DL
open PySem PySem.Spec PyProof.Rows L2
theorem tyName_in (d : Dat) : tyName d ∈ tyNs := by cases d <;> simp [tyName, tyNs]
theorem arg_cus {K : PySem.W.Frag} {S : Addr → Prop} {H0 H : Hp} {c : SlotX} {v : V} (h : c.ok false K S H0 H v) : ArgOk K S H (.cus false c) v := c.mv h (fun _ _ n e => ⟨n, e⟩) fun z => nomatch z
/-- a slot that may stand beside an instance -/
def okA (C : Addr) : Slot → Prop
  | .d _ => True
  | .cus false c => ∃ px ns ds, c = objX C px ns ds
  | _ => False
def isO : Slot → Bool
  | .d _ => false
  | _ => true
def tyS (C : Addr) : Slot → Value
  | .d d => .type (tyName d)
  | _ => .ref C
section
variable {K : PySem.W.Frag} {C : Addr} {S : Addr → Prop} {H : Hp}
theorem tyS_of (hc : CmpC K C) : ∀ {s : Slot} {v : V}, okA C s → ArgOk K S H s v → TyX K H v (tyS C s)
  | .d d, v, _, a => tyX_of (show Dv K S H d v from a)
  | .cus false c, v, ⟨px, ns, ds, e⟩, a => by
    subst e
    obtain ⟨b, dx, fs, rfl, e2, _⟩ := (show (objX C px ns ds).ok false K S (fun _ => none) H v from a)
    exact .base (.ins e2 hc.cl hc.ca hc.cn hc.ct hc.cm)
  | .cus true c, v, h, _ => h.elim
  | .un, _, h, _ => h.elim
  | .raw _, _, h, _ => h.elim
  | .scr _, _, h, _ => h.elim
  | .own _, _, h, _ => h.elim
  | .ownd _ _, _, h, _ => h.elim
  | .ownt _ _, _, h, _ => h.elim
  | .ownp _ _, _, h, _ => h.elim
theorem nfS (hc : CmpC K C) : ∀ {s : Slot}, okA C s → PySem.W.notFirst K C (tyS C s) = true
  | .d d, _ => List.all_eq_true.mp hc.nf _ (tyName_in d)
  | .cus false c, _ => by show PySem.W.notFirst K C (.ref C) = true; simp [PySem.W.notFirst]
  | .cus true c, h => h.elim
  | .un, h => h.elim
  | .raw _, h => h.elim
  | .scr _, h => h.elim
  | .own _, h => h.elim
  | .ownd _ _, h => h.elim
  | .ownt _ _, h => h.elim
  | .ownp _ _, h => h.elim
theorem kitS (hc : CmpC K C) : ∀ {s : Slot}, okA C s → PySem.W.kitOne K (tyS C s) (.ref C) = some (isO s)
  | .d d, _ => beq_iff_eq.mp (List.all_eq_true.mp hc.ki _ (tyName_in d))
  | .cus false c, _ => hc.kc
  | .cus true c, h => h.elim
  | .un, h => h.elim
  | .raw _, h => h.elim
  | .scr _, h => h.elim
  | .own _, h => h.elim
  | .ownd _ _, h => h.elim
  | .ownt _ _, h => h.elim
  | .ownp _ _, h => h.elim
end
/-- an expression that tells data or an instance -/
structure DX (G : Ctx) (e : Expr) (F : List Slot → (Slot → Prop) → Prop) : Prop where
  ex : ∃ t, PE G.X e t ∧ ∀ S σ H ρ P (Q : VK), Gd G S σ H ρ → F ρ P → (∀ v s H', Stp G H H' → ArgOk G.X.K S H' s v → P s → Q v H') → t σ H Q
/-- a special def of a class, by its promise -/
structure CalleeSp (P : Program) (w : World) (K : PySem.W.Frag) (mg : Str → Option Value) (base : Heap) (C : Addr) (m : Str) (k : Nat) (ps : List Str) (con : ConM) : Prop where
  ex : ∃ f fd, FnOk P w K mg base (L2.CX P w) k f fd ps (spM K con) ∧ Spc K C m f ∧ Binds K fd ps []
section
variable {G : Ctx} {S : Addr → Prop} {σ : L2.St} {H H' : Hp} {ρ : List Slot} {pos : Pos} {C : Addr} {a b e : Expr} {F : FE} {Fa Fb : List Slot → (Slot → Prop) → Prop}
theorem dx_of (h : DE G e F) : DX G e (fun ρ P => F ρ fun d => P (.d d)) := by
  obtain ⟨t, h, l⟩ := h.ex
  exact ⟨⟨t, h, fun S σ H ρ P Q g h q => l S σ H ρ _ _ g h fun v d H' st hv hp => q v (.d d) H' st hv hp⟩⟩
/-- a name that holds an instance (or what has a slot of its own words) -/
theorem dx_var {x : Str} (i : Nat) (hN : G.X.N[i]? = some x := by rfl) (hv : Vis G.X.env.scope x := by first | exact Or.inl rfl | exact Or.inr (Or.inl rfl) | exact Or.inr (Or.inr rfl)) (hd : (x == ("__debug__" : Str)) = false := by decide)
    (hcd : (x == ("__classdict__" : Str)) = false := by decide) : DX G (.Name x pos) (fun ρ P => ∃ c, ρ[i]? = some (.cus false c) ∧ P (.cus false c)) :=
  ⟨⟨_, pe_var hN hv hd hcd, fun S σ H ρ P Q g ⟨c, e, h⟩ q => by
    obtain ⟨v, e1, ok⟩ := g.slot_cus e
    exact ⟨v, e1, q v (.cus false c) H (Stp.refl g.wld) (arg_cus ok) h⟩⟩⟩
theorem obj_of {px : Option Addr} {ns : List Str} {ds : List Dat} {v : V} {K : PySem.W.Frag} (a : ArgOk K S H (.cus false (objX C px ns ds)) v) : ∃ b dx fs, v = .ref b ∧ H b = some (.ins C dx fs) := by
  obtain ⟨b, dx, fs, e1, e2, _⟩ := (show (objX C px ns ds).ok false K S (fun _ => none) H v from a)
  exact ⟨b, dx, fs, e1, e2⟩
/-- a == b, a an instance -/
theorem de_eqOwn {k mm : Nat} {ps : List Str} {con : ConM} (h : CalleeSp G.X.prog G.X.w G.X.K G.X.mg G.X.base C "__eq__" k ps con) (hc : CmpC G.X.K C) (hr : Room mm G.X.A) (ha : DX G a Fa) (hb : DX G b Fb) (hk : k ≤ mm := by decide) (hm : behindInMarks .Eq b = false := by first | exact nobehind _ (by decide) (by decide) | rfl) :
    DE G (.Compare a [.Eq] [b] pos) (fun ρ P => Fa ρ fun sa => (∃ px ns ds, sa = .cus false (objX C px ns ds)) ∧ Fb ρ fun sb => okA C sb ∧ con.C [sa, sb] P (fun _ => False)) := by
  obtain ⟨f, fd, F1, hs, hbd⟩ := h.ex
  obtain ⟨t, p1, l1⟩ := ha.ex
  obtain ⟨u, p2, l2⟩ := hb.ex
  refine ⟨⟨_, pe_cmpR (op_eqOwn hs F1 hbd (hr.mono hk) (E := E0) passL) p1 p2 hm, fun S σ H ρ P Q g h q => ?_⟩⟩
  refine l1 S σ H ρ _ _ g h fun v sa H1 st hv ⟨ho, hp⟩ => ?_
  obtain ⟨px, ns, ds, rfl⟩ := ho
  refine l2 S σ H1 ρ _ _ (g.step st) hp fun v2 sb H2 st2 hv2 ⟨ok, hp⟩ => ?_
  have hv' := ArgOk.move (st2.fr (g.step st)) hv
  obtain ⟨a0, dx, fs, rfl, e2⟩ := obj_of hv'
  exact ⟨a0, dx, fs, _, rfl, e2, tyS_of hc ok hv2, nfS hc ok, spM_use0 (sl := [_, sb]) ((g.step st).step st2) ⟨_, _, rfl, hv', _, _, rfl, hv2, rfl⟩ hp fun v d H3 st3 => q v d H3 ((st.trans st2).trans st3)⟩
/-- a != b, a an instance whose class has its own == alone -/
theorem de_neOwn {k mm : Nat} {ps : List Str} {con : ConM} (h : CalleeSp G.X.prog G.X.w G.X.K G.X.mg G.X.base C "__eq__" k ps con) (hc : CmpC G.X.K C) (hr : Room mm G.X.A) (ha : DX G a Fa) (hb : DX G b Fb) (hk : k + 1 ≤ mm := by decide) (hm : behindInMarks .NotEq b = false := by first | exact nobehind _ (by decide) (by decide) | rfl) :
    DE G (.Compare a [.NotEq] [b] pos) (fun ρ P => Fa ρ fun sa => (∃ px ns ds, sa = .cus false (objX C px ns ds)) ∧ Fb ρ fun sb => okA C sb ∧ con.C [sa, sb] (fun d => isB d fun b => P (.bl (!b))) (fun _ => False)) := by
  obtain ⟨f, fd, F1, hs, hbd⟩ := h.ex
  obtain ⟨t, p1, l1⟩ := ha.ex
  obtain ⟨u, p2, l2⟩ := hb.ex
  refine ⟨⟨_, pe_cmpR (op_neOwn hc hs F1 hbd (hr.mono hk) (E := E0) passL) p1 p2 hm, fun S σ H ρ P Q g h q => ?_⟩⟩
  refine l1 S σ H ρ _ _ g h fun v sa H1 st hv ⟨ho, hp⟩ => ?_
  obtain ⟨px, ns, ds, rfl⟩ := ho
  refine l2 S σ H1 ρ _ _ (g.step st) hp fun v2 sb H2 st2 hv2 ⟨ok, hp⟩ => ?_
  have hv' := ArgOk.move (st2.fr (g.step st)) hv
  obtain ⟨a0, dx, fs, rfl, e2⟩ := obj_of hv'
  refine ⟨a0, dx, fs, _, rfl, e2, tyS_of hc ok hv2, nfS hc ok, spM_use0 (sl := [_, sb]) ((g.step st).step st2) ⟨_, _, rfl, hv', _, _, rfl, hv2, rfl⟩ hp fun v d H3 st3 hd hp => ?_⟩
  obtain ⟨c, rfl, hp⟩ := isB_inv hp
  exact ⟨c, hd, q _ (.bl _) H3 ((st.trans st2).trans st3) rfl hp⟩
/-- len(a) of an instance -/
theorem de_lenOwnI {k mm : Nat} {ps : List Str} {con : ConM} {p : Pos} (h : CalleeSp G.X.prog G.X.w G.X.K G.X.mg G.X.base C "__len__" k ps con) (hr : Room mm G.X.A) (hmg : G.X.mg "len" = none) (ha : DX G a Fa) (hk : k + 1 ≤ mm := by decide) (hg : Gl G.X "len" := by rfl)
    (he : starEach [a] G.X.env = (false, eval a G.X.env) :: starEach [] G.X.env := by rfl) :
    DE G (.Call (.Name "len" p) [a] [] pos) (fun ρ P => Fa ρ fun sa => (∃ px ns ds, sa = .cus false (objX C px ns ds)) ∧ con.C [sa] (fun d => isI d fun i => (0 ≤ i ∧ i < 2 ^ 63) ∧ P (.int i)) (fun _ => False)) := by
  obtain ⟨f, fd, F1, hs, hbd⟩ := h.ex
  obtain ⟨t, p1, l1⟩ := ha.ex
  refine ⟨⟨_, pe_callB (call_lenOwn hs F1 hbd (hr.mono hk) (E := E0) passL) hg hmg PySem.boot_len (pa_cons p1 pa_nil he) (he := he), fun S σ H ρ P Q g h q => ?_⟩⟩
  refine l1 S σ H ρ _ _ g h fun v sa H1 st hv ⟨ho, hp⟩ => ?_
  obtain ⟨px, ns, ds, rfl⟩ := ho
  obtain ⟨a0, dx, fs, rfl, e2⟩ := obj_of hv
  refine ⟨a0, dx, fs, rfl, e2, spM_use0 (sl := [_]) (g.step st) ⟨_, _, rfl, hv, rfl⟩ hp fun v d H3 st3 hd hp => ?_⟩
  obtain ⟨i, rfl, ⟨h0, h1⟩, hp⟩ := isI_inv hp
  exact ⟨i, hd, h0, h1, q _ (.int i) H3 (st.trans st3) rfl hp⟩
/-- repr(a) of an instance -/
theorem de_reprOwnI {k mm : Nat} {ps : List Str} {con : ConM} {p : Pos} (h : CalleeSp G.X.prog G.X.w G.X.K G.X.mg G.X.base C "__repr__" k ps con) (hr : Room mm G.X.A) (hmg : G.X.mg "repr" = none) (ha : DX G a Fa) (hk : k + 1 ≤ mm := by decide) (hg : Gl G.X "repr" := by rfl)
    (he : starEach [a] G.X.env = (false, eval a G.X.env) :: starEach [] G.X.env := by rfl) :
    DE G (.Call (.Name "repr" p) [a] [] pos) (fun ρ P => Fa ρ fun sa => (∃ px ns ds, sa = .cus false (objX C px ns ds)) ∧ con.C [sa] (fun d => isS d fun i => P (.str i)) (fun _ => False)) := by
  obtain ⟨f, fd, F1, hs, hbd⟩ := h.ex
  obtain ⟨t, p1, l1⟩ := ha.ex
  refine ⟨⟨_, pe_callB (call_reprOwn hs F1 hbd (hr.mono hk) (E := E0) passL) hg hmg (by decide +kernel) (pa_cons p1 pa_nil he) (he := he), fun S σ H ρ P Q g h q => ?_⟩⟩
  refine l1 S σ H ρ _ _ g h fun v sa H1 st hv ⟨ho, hp⟩ => ?_
  obtain ⟨px, ns, ds, rfl⟩ := ho
  obtain ⟨a0, dx, fs, rfl, e2⟩ := obj_of hv
  refine ⟨a0, dx, fs, rfl, e2, spM_use0 (sl := [_]) (g.step st) ⟨_, _, rfl, hv, rfl⟩ hp fun v d H3 st3 hd hp => ?_⟩
  obtain ⟨i, rfl, hp⟩ := isS_inv hp
  exact ⟨i, hd, q _ (.str i) H3 (st.trans st3) rfl hp⟩
/-- isinstance(a, C), C an own class -/
theorem de_isiC {T : Str} {p1 p2 p3 : Pos} (hc : CmpC G.X.K C) (ha : DX G a Fa) (hm : G.X.mg "isinstance" = none) (hmT : G.X.mg T = some (.ref C)) (hd : (T == ("__debug__" : Str)) = false := by decide) (hg : Gl G.X "isinstance" := by rfl) (hgT : Gl G.X T := by rfl)
    (hs : starEach [a, .Name T p3] G.X.env = (false, eval a G.X.env) :: starEach [.Name T p3] G.X.env := by rfl) (hs2 : starEach [.Name T p3] G.X.env = (false, eval (.Name T p3) G.X.env) :: starEach [] G.X.env := by rfl) (hpl : (backTo p2 (starEach [.Name T p3] G.X.env)).any (·.1) = false := by rfl) :
    DE G (.Call (.Name "isinstance" p1) [a, .Name T p3] [] p2) (fun ρ P => Fa ρ fun sa => okA C sa ∧ P (.bl (isO sa))) := by
  obtain ⟨t, h, l⟩ := ha.ex
  refine ⟨⟨_, pe_callB call_isi hg hm (by decide +kernel) (pa_cons h (pa_cons (pe_glob (v := V.ref C) hgT hmT rfl hd) pa_nil hs2) hs) (he := hs) (hpl := hpl), fun S σ H ρ P Q g h q => ?_⟩⟩
  refine l S σ H ρ _ _ g h fun v sa H1 st hv ⟨ok, hp⟩ => ?_
  exact ⟨v, .ref C, _, _, _, rfl, .own C, tyS_of hc ok hv, kitS hc ok, q _ (.bl _) H1 st rfl hp⟩
/-- a name that holds data or an instance -/
theorem dx_any {x : Str} (i : Nat) (hN : G.X.N[i]? = some x := by rfl) (hv : Vis G.X.env.scope x := by first | exact Or.inl rfl | exact Or.inr (Or.inl rfl) | exact Or.inr (Or.inr rfl)) (hd : (x == ("__debug__" : Str)) = false := by decide)
    (hcd : (x == ("__classdict__" : Str)) = false := by decide) : DX G (.Name x pos) (fun ρ P => ∃ s, ρ[i]? = some s ∧ okA C s ∧ P s) :=
  ⟨⟨_, pe_var hN hv hd hcd, fun S σ H ρ P Q g ⟨s, e, ok, h⟩ q => by
    cases s with
    | d x =>
      obtain ⟨v, e1, ok⟩ := g.slot_d e
      exact ⟨v, e1, q v (.d x) H (Stp.refl g.wld) ok h⟩
    | cus b c =>
      cases b with
      | true => exact ok.elim
      | false =>
        obtain ⟨v, e1, ok⟩ := g.slot_cus e
        exact ⟨v, e1, q v (.cus false c) H (Stp.refl g.wld) (arg_cus ok) h⟩
    | _ => exact ok.elim⟩⟩
/-- is, is not of two truths -/
def twoB (f : Bool → Bool → Bool) : R2D
  | .bl x, .bl y, P => P (.bl (f x y))
  | _, _, _ => False
theorem serves_twoB {f : Bool → Bool → Bool} : Serves G (fun x y H Q => ∃ a b, x = .bl a ∧ y = .bl b ∧ Q (.bl (f a b)) H) (twoB f) := by
  intro S σ ρ H x y dx dy P Q g hx hy h q
  cases dx with
  | bl i =>
    cases dy with
    | bl j =>
      cases (show x = V.bl i from hx)
      cases (show y = V.bl j from hy)
      exact ⟨i, j, rfl, rfl, q _ (.bl _) H (Stp.refl g.wld) rfl h⟩
    | _ => exact h.elim
  | _ => exact h.elim
variable {F1 F2 : FE}
theorem de_isB (ha : DE G a F1) (hb : DE G b F2) (hm : behindInMarks .Is b = false := by first | exact nobehind _ (by decide) (by decide) | rfl) : DE G (.Compare a [.Is] [b] pos) (fun ρ P => F1 ρ fun x => F2 ρ fun y => twoB (fun x y => decide (x = y)) x y P) := de_cmp op_is_bl serves_twoB ha hb hm
end
end DL
namespace DL
open PySem PySem.Spec PyProof.Rows L2
/-! ### lists lent by their address; values that are known; lists that are new, and what is done to them -/
section
variable {K : PySem.W.Frag} {S S' : Addr → Prop} {H H' : Hp}
mutual
theorem noLst_mv (h : ∀ a xs, ¬ S a → H a = some (.tup xs) → ¬ S' a ∧ H' a = some (.tup xs)) : ∀ (d : Dat) (v : V), noLst d = true → Dv K S H d v → Dv K S' H' d v
  | .non, _, _, e => e
  | .bl _, _, _, e => e
  | .int _, _, _, e => e
  | .str _, _, _, e => e
  | .tup ds, v, n, e => by
    obtain ⟨a, xs, rfl, h1, h2⟩ := (e : ∃ a xs, v = .ref a ∧ ((¬ S a ∧ H a = some (.tup xs)) ∨ WrT K a xs) ∧ DvL K S H ds xs)
    rw [noLst] at n
    exact ⟨a, xs, rfl, h1.imp (fun z => h a xs z.1 z.2) id, noLst_mvl h ds xs n h2⟩
  | .lst ds, v, n, e => by rw [noLst] at n; cases n
  | .dic ks ds, v, n, e => by rw [noLst] at n; cases n
  | .anl, v, n, e => by rw [noLst] at n; cases n
  | .adc, v, n, e => by rw [noLst] at n; cases n
theorem noLst_mvl (h : ∀ a xs, ¬ S a → H a = some (.tup xs) → ¬ S' a ∧ H' a = some (.tup xs)) : ∀ (ds : List Dat) (vs : List V), noLsts ds = true → DvL K S H ds vs → DvL K S' H' ds vs
  | [], _, _, e => e
  | d :: ds, vs, n, e => by
    obtain ⟨v, r, rfl, h1, h2⟩ := (e : ∃ v r, vs = v :: r ∧ Dv K S H d v ∧ DvL K S H ds r)
    rw [noLsts, Bool.and_eq_true] at n
    exact ⟨v, r, rfl, noLst_mv h d v n.1 h1, noLst_mvl h ds r n.2 h2⟩
end
end
/-- a list by its address, its items data (not promised to stay) -/
def lentX (q : Addr) (us : List V) (ds : List Dat) : SlotX where
  ok := fun b K S H0 H v => b = false ∧ v = .ref q ∧ DvL K S H ds us
  mv := fun {b K S S' H0 H0' H H' v} ⟨e, e2, h⟩ fr _ => ⟨e, e2, DvL.move fr _ _ h⟩
  ad := fun ⟨e, _⟩ => nomatch e
  fz := fun ⟨e, _⟩ => nomatch e
/-- data whose value is known -/
def knownX (v0 : V) (d : Dat) : SlotX where
  ok := fun b K S H0 H v => b = false ∧ v = v0 ∧ Dv K S H d v
  mv := fun {b K S S' H0 H0' H H' v} ⟨e, e2, h⟩ fr _ => ⟨e, e2, Dv.move fr _ _ h⟩
  ad := fun ⟨e, _⟩ => nomatch e
  fz := fun ⟨e, _⟩ => nomatch e
/-- a list held as a state -/
def heldSta (q : Addr) (us : List V) : Sta Unit where
  fp := fun a => a = q
  M := fun _ H => H q = some (.lst us)
  loc := fun _ H H' h k _ => k q _ rfl h
  noc := fun _ H h a φ e z => by rw [e, h] at z; cases z
  dom := fun _ H h a e => by rw [e]; exact ⟨_, h⟩
/-- a list that is new since the def began -/
def NewL (H0 : Hp) (v : V) (d : Dat) : Prop := ∀ ys a, d = .lst ys → v = .ref a → H0 a = none
section
variable {ι κ : Type} {G : Fam ι} {S S' : Addr → Prop} {σ : L2.St} {H H' H2 : Hp} {ρ : List Slot} {pos : Pos} {a b e : Expr} {es : List Expr} {Fa : FR ι}
/-- list(name), the list lent -/
theorem dr_listLent {q : Addr} {us : List V} {π : ι → Unit} {u : ι → Unit → ι} {x : Str} {p px : Pos} (gs : GS G (heldSta q us) π u) (n : Nat) (hm : G.X.mg "list" = none) (hN : G.X.N[n]? = some x := by rfl) (hv : Vis G.X.env.scope x := by first | exact Or.inl rfl | exact Or.inr (Or.inl rfl) | exact Or.inr (Or.inr rfl)) (hd : (x == ("__debug__" : Str)) = false := by decide)
    (hcd : (x == ("__classdict__" : Str)) = false := by decide) (hg : Gl G.X "list" := by rfl) (he : starEach [Expr.Name x px] G.X.env = (false, eval (.Name x px) G.X.env) :: starEach [] G.X.env := by rfl) :
    DR G (.Call (.Name "list" p) [.Name x px] [] pos) (fun ρ i P => ∃ ds, ρ[n]? = some (.cus false (lentX q us ds)) ∧ P (.lst ds) i) := by
  refine ⟨⟨_, pe_callTy call_list_of hg hm (by decide +kernel) (pa_cons (pe_var hN hv hd hcd) pa_nil he) (he := he), fun S σ H ρ i P Q g ⟨ds, es, hp⟩ qq => ?_⟩⟩
  obtain ⟨v, e1, e0, ev, hl⟩ := g.slot_cus es
  subst ev
  have hq : H q = some (.lst us) := gs.get i H g.wld
  exact ⟨.ref q, e1, q, us, rfl, .inl (.inl (.inl hq)), new_lst g hl hp fun v d H' st => qq v d H' i (.of st)⟩
/-- an argument: a name whose slot has its own words -/
theorem dsl_cus {x : Str} {p : Pos} {Fs : FSR' ι} (n : Nat) (hr : DSl G es Fs) (hN : G.X.N[n]? = some x := by rfl) (hv : Vis G.X.env.scope x := by first | exact Or.inl rfl | exact Or.inr (Or.inl rfl) | exact Or.inr (Or.inr rfl)) (hd : (x == ("__debug__" : Str)) = false := by decide)
    (hcd : (x == ("__classdict__" : Str)) = false := by decide) (hs : starEach (Expr.Name x p :: es) G.X.env = (false, eval (.Name x p) G.X.env) :: starEach es G.X.env := by rfl) :
    DSl G (.Name x p :: es) (fun ρ i P => ∃ c, ρ[n]? = some (.cus false c) ∧ Fs ρ i fun xs k => P (.cus false c :: xs) k) := by
  obtain ⟨u, h2, l2⟩ := hr.ex
  refine ⟨⟨_, pa_cons (pe_var hN hv hd hcd) h2 hs, fun S σ H ρ i P Q g ⟨c, ec, h⟩ q => ?_⟩⟩
  obtain ⟨v, e1, ok⟩ := g.slot_cus ec
  exact ⟨v, e1, l2 S σ H ρ i _ _ g h fun vs sl H2 k st2 hvs hp => q _ (.cus false c :: sl) H2 k st2 ⟨v, vs, rfl, ArgOk.move (st2.fr g) (arg_cus ok), hvs⟩ hp⟩
/-- an argument: a name that holds data, told with its value -/
theorem dsl_known {x : Str} {p : Pos} {Fs : FSR' ι} (n : Nat) (hr : DSl G es Fs) (hN : G.X.N[n]? = some x := by rfl) (hv : Vis G.X.env.scope x := by first | exact Or.inl rfl | exact Or.inr (Or.inl rfl) | exact Or.inr (Or.inr rfl)) (hd : (x == ("__debug__" : Str)) = false := by decide)
    (hcd : (x == ("__classdict__" : Str)) = false := by decide) (hs : starEach (Expr.Name x p :: es) G.X.env = (false, eval (.Name x p) G.X.env) :: starEach es G.X.env := by rfl) :
    DSl G (.Name x p :: es) (fun ρ i P => ∃ d, ρ[n]? = some (.d d) ∧ ∀ v0, Fs ρ i fun xs k => P (.cus false (knownX v0 d) :: xs) k) := by
  obtain ⟨u, h2, l2⟩ := hr.ex
  refine ⟨⟨_, pa_cons (pe_var hN hv hd hcd) h2 hs, fun S σ H ρ i P Q g ⟨d, ec, h⟩ q => ?_⟩⟩
  obtain ⟨v, e1, ok⟩ := g.slot_d ec
  exact ⟨v, e1, l2 S σ H ρ i _ _ g (h v) fun vs sl H2 k st2 hvs hp => q _ (.cus false (knownX v d) :: sl) H2 k st2 ⟨v, vs, rfl, ⟨rfl, rfl, st2.dv g ok⟩, hvs⟩ hp⟩
/-- a name whose value is known, read as data -/
theorem de_known {G : Ctx} {x : Str} (i : Nat) (hN : G.X.N[i]? = some x := by rfl) (hv : Vis G.X.env.scope x := by first | exact Or.inl rfl | exact Or.inr (Or.inl rfl) | exact Or.inr (Or.inr rfl)) (hd : (x == ("__debug__" : Str)) = false := by decide)
    (hcd : (x == ("__classdict__" : Str)) = false := by decide) : DE G (.Name x pos) (fun ρ P => ∃ v0 d, ρ[i]? = some (.cus false (knownX v0 d)) ∧ P d) :=
  ⟨⟨_, pe_var hN hv hd hcd, fun S σ H ρ P Q g ⟨v0, d, e, h⟩ q => by
    obtain ⟨v, e1, e0, ev, ok⟩ := g.slot_cus e
    exact ⟨v, e1, q v d H (Stp.refl g.wld) ok h⟩⟩⟩
/-! ### expressions that tell new lists, over a state -/
structure DRz (G : Fam ι) (e : Expr) (F : FR ι) : Prop where
  ex : ∃ t, PE G.X e t ∧ ∀ S σ H ρ i P (Q : VK), Gd (G.at i) S σ H ρ → F ρ i P → (∀ v d H' j, StpI G j H H' → Dv G.X.K S H' d v → NewL G.H0 v d → P d j → Q v H') → t σ H Q
theorem DRz.dr {F : FR ι} (h : DRz G e F) : DR G e F := by
  obtain ⟨t, h, l⟩ := h.ex
  exact ⟨⟨t, h, fun S σ H ρ i P Q g hf q => l S σ H ρ i P Q g hf fun v d H' j st hv _ hp => q v d H' j st hv hp⟩⟩
/-- x(m, e), e a list that is lent: what comes, if a list, is new -/
theorem drz_fnLent {sd : Sta κ} {π : ι → κ} {u : ι → κ → ι} {x m : Str} {k mm : Nat} {ps : List Str} {C : ConS (κ × Unit)} {p pm : Pos} (gs : GS G sd π u) (h : CalleeS G.X.prog G.X.w G.X.K G.X.mg G.X.base x k ps C) (n : Nat) (hr : Room mm G.X.A) (ha : DR G e Fa) (hk : k ≤ mm := by decide) (hg : Gl G.X x := by rfl) (hdb : (x == ("__debug__" : Str)) = false := by decide)
    (hN : G.X.N[n]? = some m := by rfl) (hv : Vis G.X.env.scope m := by first | exact Or.inl rfl | exact Or.inr (Or.inl rfl) | exact Or.inr (Or.inr rfl)) (hd : (m == ("__debug__" : Str)) = false := by decide) (hcd : (m == ("__classdict__" : Str)) = false := by decide)
    (hs : starEach [Expr.Name m pm, e] G.X.env = (false, eval (.Name m pm) G.X.env) :: starEach [e] G.X.env := by rfl) (he : starEach [e] G.X.env = (false, eval e G.X.env) :: starEach [] G.X.env := by rfl) (hpl : (backTo pos (starEach [e] G.X.env)).any (·.1) = false := by rfl) :
    DRz G (.Call (.Name x p) [.Name m pm, e] [] pos) (fun ρ i P => rdRaw ρ n fun w => Fa ρ i fun d j => ∃ xs, d = .lst xs ∧ noLsts xs = true ∧ ∀ q us, ¬ sd.fp q → C.C (staAnd sd (heldSta q us)) (π j, ()) [.raw w, .cus false (lentX q us xs)] fun r j' => P r (u j j'.1)) := by
  obtain ⟨f, fd, F, hm, hkp, hb⟩ := h.ex
  obtain ⟨t, h, l⟩ := ha.ex
  refine ⟨⟨_, pe_call F (hr.mono hk) hg hm hkp hb .nil pass0 (pa_cons (pe_var hN hv hd hcd) (pa_cons h pa_nil he) hs) hdb hs hpl, fun S σ H ρ i P Q g h qq => ?_⟩⟩
  obtain ⟨w0, ew, h⟩ := rdRaw_inv h
  refine ⟨w0, g.slot_raw ew, l S σ H ρ i _ _ g h fun v d H1 j s1 hdv ⟨xs, ed, hno, hp⟩ => ?_⟩
  subst ed
  obtain ⟨q, us, rfl, nq, eq, hl⟩ := dv_lst hdv
  have g1 := g.stepI s1
  have nsd : ¬ sd.fp q := fun z => nq (g1.sub q (gs.sub q z))
  show spS G.X.K C ([w0, .ref q] ++ []) H1 Q E0
  rw [List.append_nil]
  let S' : Addr → Prop := fun a => S a ∨ ∃ o, H1 a = some o ∧ ∀ xs, o ≠ .tup xs
  have hdis : ∀ a, (heldSta q us).fp a → ¬ sd.fp a := fun a e z => nsd (by rw [← (show a = q from e)]; exact z)
  refine ⟨S', staAnd sd (heldSta q us), (π j, ()), [.raw w0, .cus false (lentX q us xs)], fun a z => ?_, fun a z => ?_, ⟨gs.get j H1 g1.wld, eq⟩, ⟨w0, _, rfl, rfl, .ref q, _, rfl, ⟨rfl, rfl, noLst_dvl (fun a ys n e z => ?_) _ _ hno hl⟩, rfl⟩, C.mono _ _ _ _ _ (hp q us nsd) fun r j' hp v H2 ex m hr2 => ?_⟩
  · rcases z with z | ⟨o, e, _⟩
    · exact g1.all a z
    · exact ⟨o, e⟩
  · rcases z with z | z
    · exact .inl (g1.sub a (gs.sub a z))
    · refine .inr ⟨.lst us, ?_, fun ys z2 => (nomatch z2)⟩
      rw [(show a = q from z)]; exact eq
  · rcases z with z | ⟨o, e2, n2⟩
    · exact n z
    · rw [e] at e2; cases e2; exact n2 ys rfl
  · have ex2 : ExF sd.fp H1 H2 := fun a o n e => by
      by_cases c : a = q
      · rw [c] at e ⊢
        rw [eq] at e; cases e
        exact m.2
      · exact ex a o (fun z => z.elim n c) e
    refine qq v r H2 (u j j'.1) (s1.trans (gs.stp g1.wld ex2 m.1)) (hr2.move fun c o n e => ⟨fun z => n (.inl z), e⟩) (fun ys b er ev => ?_) hp
    subst er ev
    obtain ⟨b2, zs, e2, nb, eb, _⟩ := dv_lst hr2
    cases e2
    have fresh : H1 b = none := by
      cases e : H1 b with
      | none => rfl
      | some o =>
        by_cases z : ∃ ys, o = .tup ys
        · obtain ⟨ys, rfl⟩ := z
          have nS0 : ¬ sd.fp b := fun z => nb (.inl (g1.sub b (gs.sub b z)))
          have e2 := ex2 b _ nS0 e
          rw [eb] at e2; cases e2
        · exact (nb (.inr ⟨o, e, fun ys ey => z ⟨ys, ey⟩⟩)).elim
    cases e : G.H0 b with
    | none => rfl
    | some o =>
      obtain ⟨o', e'⟩ := G.top j H1 g1.wld b o e
      rw [fresh] at e'; cases e'
/-! ### a comprehension of new lists, put into three names -/
def tWRz (G : Fam ι) (F : FR ι) : TE := fun σ H Q => ∃ S ρ i P, Gd (G.at i) S σ H ρ ∧ F ρ i P ∧ ∀ v d H' j, StpI G j H H' → Dv G.X.K S H' d v → NewL G.H0 v d → P d j → Q v H'
theorem DRz.blk {F : FR ι} {s : Shared} {H9 : Hp} {scope : Scope} {cenv : Env} {fp : List Addr} (h : DRz (G.blk s H9 scope cenv fp) e F) : PE (G.X.blk s H9 scope cenv fp) e (tWRz G F) := by
  obtain ⟨t, h, l⟩ := h.ex
  exact ⟨fun pins s' σ H Q I ⟨S, ρ, i, P, g, hf, q⟩ => h.run pins s' σ H Q I (l S σ H ρ i P Q g.blkI hf fun v d H' j st => q v d H' j st.unblk)⟩
theorem lift_lcRz {w : TI} {F : FItR ι} {Fe : FR ι} (n : Nat) (lw : ∀ S σ H ρ i P (R : It → Hp → Prop), Gd (G.at i) S σ H ρ → F ρ i P → (∀ J items H1 j, StpI G j H H1 → (∀ k : ι, WalkOk (G.at k) J items S H1) → P items j → R J H1) → w σ H R) :
    ∀ S σ H ρ i (P : List Dat → ι → Prop) (Q : VK), Gd (G.at i) S σ H ρ → (∃ Inv : List Dat → List Dat → ι → Prop, (F ρ i fun items j => Inv items [] j) ∧ (∀ acc j, Inv [] acc j → P acc j) ∧ ∀ d ds acc j, Inv (d :: ds) acc j → Fe (ρ.set n (.d d)) j fun y k => acc.length < sizeLine ∧ Inv ds (acc ++ [y]) k) →
      (∀ p xs ds H' j, H p = none → StpI G j H H' → H' p = some (.lst xs) → DvL G.X.K (fun a => S a ∨ a = p) H' ds xs → (∀ (k : Nat) x d, xs[k]? = some x → ds[k]? = some d → NewL G.H0 x d) → P ds j → Q (.ref p) H') → tLc w (gName n) (fun _ H Q => Q true H) (tWRz G Fe) [n] σ H Q := by
  intro S σ H ρ i P Q gd ⟨IV, h, k0, ks⟩ q
  refine lw S σ H ρ i _ _ gd h fun J items H1 j0 st wk hp D nD => ?_
  have g1 := gd.stepI st
  have gw : Gd (G.at j0) S (σ.set n none) H1 (ρ.set n .un) := g1.wipe
  have nS : ¬ S D := g1.fresh nD
  have nS0 : ¬ G.S0 D := fun z => nS (gd.sub D z)
  have h0 : G.H0 D = none := g1.fresh0 nD
  have ndH : H D = none := by
    cases e : H D with
    | none => rfl
    | some o =>
      obtain ⟨o', e'⟩ := st.has D o e
      rw [nD] at e'; cases e'
  obtain ⟨g2, fr2⟩ := gw.grow (o := .lst []) nD
  have hn : ∀ (i : Nat) (s : Slot), (ρ.set n .un)[i]? = some s → s.isOwn = true → (σ.set n none)[i]? ≠ some (some (.ref D)) := fun i s hs ho e => by
    have k := gw.slots i s hs
    rw [e] at k
    obtain ⟨a, u, e1, _, e2, _⟩ := SlotOk.addr k ho
    cases e1
    rw [nD] at e2; cases e2
  have wipe1 : L2.wipe σ [n] = σ.set n none := rfl
  let Pv : Nat → Hp → Prop := fun r H' => ∃ acc dacc j, H' D = some (.lst acc) ∧ DvL G.X.K (fun a => S a ∨ a = D) H' dacc acc ∧ Gd (G.at j) (fun a => S a ∨ a = D) (σ.set n none) H' (ρ.set n .un) ∧ Fr S H1 (fun a => S a ∨ a = D) H' ∧ StpI G j H H' ∧ (∀ (k : Nat) x d, acc[k]? = some x → dacc[k]? = some d → NewL G.H0 x d) ∧ IV (items.drop r) dacc j
  refine ⟨fun r m H' => m = items.length - r ∧ r ≤ items.length ∧ Pv r H', ⟨items.length, rfl, Nat.zero_le _, [], [], j0, upd_same, rfl, g2, fr2, st.trans (StpI.new g1.wld nD), (fun k x d e => by simp at e), hp⟩, ?_⟩
  rintro r m H' ⟨rfl, hi, acc, dacc, j, eD, hacc, g', fr, st', hz, hf⟩
  by_cases hlt : r < items.length
  · refine .inr ⟨(wk j).go r _ H' hlt fr, Pv (r + 1), fun H2 p => ⟨items.length - (r + 1), by omega, rfl, hlt, p⟩, fun x H2 y => ?_⟩
    obtain ⟨s2, hd⟩ := (wk j).yld r _ _ _ _ H' x H2 (List.getElem?_eq_getElem hlt) g' fr y
    have g3 := g'.step s2
    rw [List.drop_eq_getElem_cons hlt] at hf
    rw [wipe1]
    refine ⟨by show ((σ.set n none).set n (some x)).set n none = σ.set n none; rw [List.set_set, List.set_set], ?_⟩
    have gx : Gd (G.at j) (fun a => S a ∨ a = D) ((σ.set n none).set n (some x)) H2 ((ρ.set n .un).set n (.d items[r])) := g3.set hd
    rw [show (ρ.set n Slot.un).set n (.d items[r]) = ρ.set n (.d items[r]) from List.set_set ..] at gx
    show (if true = true then _ else _)
    rw [if_pos rfl]
    refine ⟨_, _, j, _, gx, ks _ _ _ _ hf, fun v d H4 k st4 hv hnew ⟨hz2, hc⟩ => ?_⟩
    have s14 : StpI G k H' H4 := (StpI.of s2).trans st4
    have g4 := g'.stepI s14
    have eD4 := s14.keep D _ nS0 eD
    obtain ⟨g5, fr5⟩ := g4.acc (o := .lst (acc ++ [v])) (.inr rfl) h0 (fun φ z => by rw [eD4] at z; cases z) hn
    have hacc4 := s14.dvl g' hacc
    have hlen := hacc.len
    refine ⟨acc, eD4, by rw [hacc4.len]; exact hz2, acc ++ [v], dacc ++ [d], k, upd_same, (hacc4.append (es := [d]) (us := [v]) ⟨v, [], rfl, hv, rfl⟩).move fr5, g5, (fr.trans (s14.fr g')).trans fr5, ?_, ?_, hc⟩
    · have ss := st'.trans s14
      refine ⟨g5.wld, fun a o n e => ?_, fun a o e => ?_⟩
      · rw [upd_ne (ne_of_none e ndH)]; exact ss.keep a o n e
      · obtain ⟨o', e'⟩ := ss.has a o e
        exact ⟨o', by rw [upd_ne (ne_of_none e ndH)]; exact e'⟩
    · intro k' x' d' e1 e2
      by_cases c : k' < acc.length
      · rw [List.getElem?_append_left c] at e1
        rw [List.getElem?_append_left (by omega)] at e2
        exact hz k' x' d' e1 e2
      · rw [List.getElem?_append_right (by omega)] at e1
        rw [List.getElem?_append_right (by omega)] at e2
        have hk0 : k' - acc.length = 0 := by
          rcases Nat.eq_zero_or_pos (k' - acc.length) with z | z
          · exact z
          · rw [List.getElem?_eq_none (by simp; omega)] at e1; cases e1
        rw [hk0] at e1
        rw [← hlen, hk0] at e2
        cases e1; cases e2
        exact hnew
  · have e : r = items.length := by omega
    subst e
    rw [List.drop_length] at hf
    exact .inl ⟨(wk j).stop _ H' fr, q D acc dacc H' j ndH st' eD hacc hz (k0 _ _ hf)⟩
theorem Gd.setKnown {G : Ctx} {S : Addr → Prop} {σ : L2.St} {H : Hp} {ρ : List Slot} (g : Gd G S σ H ρ) {i : Nat} {d : Dat} {v : V} (h : Dv G.X.K S H d v) : Gd G S (σ.set i (some v)) H (ρ.set i (.cus false (knownX v d))) := g.setArg ⟨rfl, rfl, h⟩
theorem dsr_unpack3 {elt tg iter : Expr} {scope : Scope} {x y1 y2 y3 : Str} {q1 q2 q3 pt spos : Pos} {kt} (m1 m2 m3 n : Nat) {F : FItR ι} {Fe : FR ι} (hc : G.X.calm = true) (hN : G.X.N.Nodup) (hi : DIR G tg iter F) (ok : BlkOk G.X.N G.X.env.scope scope [(x, n)])
    (hg : ∀ (s : Shared) (H : Hp) (C : Addr) (cl : List (Str × Addr)) (fp : List Addr), PG (G.X.blk s H scope (compEnvC scope cl C G.X.env) fp) tg (gName n))
    (he : ∀ (s : Shared) (H : Hp) (C : Addr) (cl : List (Str × Addr)) (fp : List Addr), DRz (G.blk s H scope (compEnvC scope cl C G.X.env) fp) elt Fe)
    (h1 : G.X.N[m1]? = some y1 := by rfl) (h2 : G.X.N[m2]? = some y2 := by rfl) (h3 : G.X.N[m3]? = some y3 := by rfl)
    (x1 : Loc G.X.env.scope y1 := by first | exact Or.inl rfl | exact Or.inr rfl) (x2 : Loc G.X.env.scope y2 := by first | exact Or.inl rfl | exact Or.inr rfl) (x3 : Loc G.X.env.scope y3 := by first | exact Or.inl rfl | exact Or.inr rfl)
    (f1 : G.X.fn y1 = true ∨ G.X.env.scope.names.lookup y1 = some .local := by first | exact .inl rfl | exact .inr rfl) (f2 : G.X.fn y2 = true ∨ G.X.env.scope.names.lookup y2 = some .local := by first | exact .inl rfl | exact .inr rfl) (f3 : G.X.fn y3 = true ∨ G.X.env.scope.names.lookup y3 = some .local := by first | exact .inl rfl | exact .inr rfl)
    (hs : ∀ x, foldedSetIterable iter G.X.env x = pure x := by intro _; rfl)
    (hsw : swapsWithSole [.Tuple [.Name y1 q1, .Name y2 q2, .Name y3 q3] kt pt] (.ListComp elt [⟨tg, iter, [], 0⟩] scope pos) spos.line G.X.env = pure false := by rfl) (hss : swappedStores [.Tuple [.Name y1 q1, .Name y2 q2, .Name y3 q3] kt pt] (.ListComp elt [⟨tg, iter, [], 0⟩] scope pos) G.X.env = pure none := by rfl)
    (ha : (assignEach [Expr.Tuple [.Name y1 q1, .Name y2 q2, .Name y3 q3] kt pt] G.X.env).map (·.2) = [assign (.Tuple [.Name y1 q1, .Name y2 q2, .Name y3 q3] kt pt) G.X.env] := by rfl)
    (hl : (assignEach [Expr.Name y1 q1, .Name y2 q2, .Name y3 q3] G.X.env).length = 3 := by rfl) (hst : (assignEach [Expr.Name y1 q1, .Name y2 q2, .Name y3 q3] G.X.env).findIdx? (·.1) = none := by rfl)
    (a1 : (assignEach (Expr.Name y1 q1 :: [.Name y2 q2, .Name y3 q3]) G.X.env).map (·.2) = assign (.Name y1 q1) G.X.env :: (assignEach [.Name y2 q2, .Name y3 q3] G.X.env).map (·.2) := by rfl)
    (a2 : (assignEach (Expr.Name y2 q2 :: [.Name y3 q3]) G.X.env).map (·.2) = assign (.Name y2 q2) G.X.env :: (assignEach [.Name y3 q3] G.X.env).map (·.2) := by rfl)
    (a3 : (assignEach [Expr.Name y3 q3] G.X.env).map (·.2) = assign (.Name y3 q3) G.X.env :: (assignEach [] G.X.env).map (·.2) := by rfl) :
    DSR G (.Assign [.Tuple [.Name y1 q1, .Name y2 q2, .Name y3 q3] kt pt] (.ListComp elt [⟨tg, iter, [], 0⟩] scope pos) spos) (fun D ρ i => ∃ Inv : List Dat → List Dat → ι → Prop, (F ρ i fun items j => Inv items [] j) ∧
      (∀ acc j, Inv [] acc j → ∃ d1 d2 d3, acc = [d1, d2, d3] ∧ ∀ v1 v2 v3, NewL G.H0 v1 d1 → NewL G.H0 v2 d2 → NewL G.H0 v3 d3 → D.nx (((ρ.set m1 (.cus false (knownX v1 d1))).set m2 (.cus false (knownX v2 d2))).set m3 (.cus false (knownX v3 d3))) j) ∧
      ∀ d ds acc j, Inv (d :: ds) acc j → Fe (ρ.set n (.d d)) j fun y k => acc.length < sizeLine ∧ Inv ds (acc ++ [y]) k) := by
  obtain ⟨w, hw, l1⟩ := hi.ex
  refine ⟨⟨_, ps_asg (pe_lc (own := [(x, n)]) hc hN hw ok hg (fun s H C cl fp => pts_nil) (fun s H C cl fp => (he s H C cl fp).blk) hs) (pg_lst hc (pgs_cons (pg_name hN h1 x1 f1) (pgs_cons (pg_name hN h2 x2 f2) (pgs_cons (pg_name hN h3 x3 f3) pgs_nil a3) a2) a1) hl hst) hsw hss ha, fun S σ H ρ i D Dh g ⟨IV, hI, k0, ks⟩ q => ?_⟩⟩
  refine lift_lcRz n l1 S σ H ρ i (fun acc j => IV [] acc j) _ g ⟨IV, hI, fun _ _ z => z, ks⟩ fun p xs ds H' j np st ep hv hz hp => ?_
  obtain ⟨d1, d2, d3, rfl, hq⟩ := k0 _ _ hp
  obtain ⟨v1, r1, rfl, hd1, hr1⟩ := (hv : ∃ v r, xs = v :: r ∧ Dv G.X.K (fun a => S a ∨ a = p) H' d1 v ∧ DvL G.X.K (fun a => S a ∨ a = p) H' [d2, d3] r)
  obtain ⟨v2, r2, rfl, hd2, hr2⟩ := (hr1 : ∃ v r, r1 = v :: r ∧ Dv G.X.K (fun a => S a ∨ a = p) H' d2 v ∧ DvL G.X.K (fun a => S a ∨ a = p) H' [d3] r)
  obtain ⟨v3, r3, rfl, hd3, hr3⟩ := (hr2 : ∃ v r, r2 = v :: r ∧ Dv G.X.K (fun a => S a ∨ a = p) H' d3 v ∧ DvL G.X.K (fun a => S a ∨ a = p) H' [] r)
  cases (hr3 : r3 = [])
  have g1 := g.stepI st
  have mv : ∀ {d : Dat} {v : V}, Dv G.X.K (fun a => S a ∨ a = p) H' d v → Dv G.X.K S H' d v := fun h => h.move fun a o n e => ⟨fun z => n (.inl z), e⟩
  exact ⟨p, _, rfl, .inl (.inl ep), rfl, v1, _, rfl, v2, _, rfl, v3, _, rfl, rfl, q.nx S _ H' _ j (((g1.setKnown (mv hd1)).setKnown (mv hd2)).setKnown (mv hd3)) (st.fr g) (hq v1 v2 v3 (hz 0 _ _ rfl rfl) (hz 1 _ _ rfl rfl) (hz 2 _ _ rfl rfl))⟩
end
end DL
namespace DL
open PySem PySem.Spec PyProof.Rows L2
section
variable {ι : Type} {G : Fam ι} {S S' : Addr → Prop} {σ : L2.St} {H H' H2 : Hp} {ρ : List Slot} {pos : Pos}
/-- what stays whatever is done to lists that are new -/
def StabZ (G : Fam ι) (s : Slot) : Prop := s = .un ∨ (∃ v, s = .raw v) ∨ (∃ x, s = .d x ∧ noLst x = true) ∨ (∃ C px ns ds, s = .cus false (objX C px ns ds) ∧ noLsts ds = true) ∨ ∃ v x, s = .cus false (knownX v x) ∧ Dv G.X.K G.S0 G.H0 x v
/-- a value that is a tuple or a new list -/
def TupOrNew (H0 : Hp) (v : V) (d : Dat) : Prop := (∃ ys, d = .lst ys ∨ d = .tup ys) ∧ NewL H0 v d
/-- a heap where only these lists changed -/
structure Only (ps : Addr → Prop) (B : Nat) (H H' : Hp) : Prop where
  was : ∀ a, ps a → ∃ xs, H a = some (.lst xs)
  keep : ∀ a o, ¬ ps a → H a = some o → H' a = some o
  lst : ∀ a, ps a → ∃ xs, H' a = some (.lst xs) ∧ xs.length ≤ B
end
section
variable {ι : Type} {G : Fam ι} {S S' : Addr → Prop} {σ : L2.St} {H H' H2 : Hp} {ρ : List Slot} {pos : Pos}
theorem stab_slot {ps : Addr → Prop} {i j : ι} (hW : ∀ j H, G.W j H → ∀ a o, ¬ G.S0 a → G.H0 a = some o → H a = some o) (g : Gd (G.at i) S σ H ρ) {B : Nat} (on : Only ps B H H') (hnew : ∀ a, ps a → G.H0 a = none) (hw : G.W j H') {k : Nat} {s : Slot} (hk : ρ[k]? = some s) (hs : StabZ G s) : SlotOk G.X.K G.S0 G.H0 H' (σ[k]?.join) s := by
  have q := g.slots k s hk
  have kT : ∀ a xs, ¬ S a → H a = some (.tup xs) → ¬ G.S0 a ∧ H' a = some (.tup xs) := fun a xs n e => ⟨fun z => n (g.sub a z), on.keep a _ (fun z => by
    obtain ⟨ys, e2⟩ := on.was a z
    rw [e] at e2; cases e2) e⟩
  rcases hs with rfl | ⟨v, rfl⟩ | ⟨x, rfl, hx⟩ | ⟨C, px, ns, ds, rfl, hx⟩ | ⟨v, x, rfl, hx⟩
  · exact trivial
  · cases e : σ[k]?.join with
    | none => rw [e] at q; exact q.elim
    | some w => rw [e] at q; exact q
  · cases e : σ[k]?.join with
    | none => rw [e] at q; exact q.elim
    | some w => rw [e] at q; exact noLst_mv kT x w hx q
  · cases e : σ[k]?.join with
    | none => rw [e] at q; exact q.elim
    | some w =>
      rw [e] at q
      obtain ⟨a, dx, fs, e1, e2, e3, e4, e5, e6, e7⟩ := (show (objX C px ns ds).ok false G.X.K S G.H0 H w from q)
      refine ⟨a, dx, fs, e1, on.keep a _ (fun z => by
        obtain ⟨ys, e2'⟩ := on.was a z
        rw [e2] at e2'; cases e2') e2, e3, noLst_mvl kT _ _ hx e4, (fun z => nomatch z), fun _ z => e6 rfl (g.sub a z), e7⟩
  · cases e : σ[k]?.join with
    | none => rw [e] at q; exact q.elim
    | some w =>
      rw [e] at q
      obtain ⟨_, ev, _⟩ := (show (knownX v x).ok false G.X.K S G.H0 H w from q)
      subst ev
      exact ⟨rfl, rfl, Dv.move (fun a o n e => ⟨n, hW j H' hw a o n e⟩) x w hx⟩
theorem Gd.havoc {ps : Addr → Prop} {σ' : L2.St} {ρ' : List Slot} {i j : ι} (hW : ∀ j H, G.W j H → ∀ a o, ¬ G.S0 a → G.H0 a = some o → H a = some o) (g : Gd (G.at i) S σ H ρ) {B : Nat} (on : Only ps B H H') (hnew : ∀ a, ps a → G.H0 a = none) (hw : G.W j H') (hl : σ'.length = ρ'.length)
    (hsl : ∀ (k : Nat) (s : Slot), ρ'[k]? = some s → s = .un ∨ (ρ[k]? = some s ∧ StabZ G s ∧ σ'[k]? = σ[k]?)) : Gd (G.at j) G.S0 σ' H' ρ' := by
  refine ⟨hw, fun a z => ?_, fun _ z => z, hl, fun k s hk => ?_, fun k k2 s1 s2 v h1 h2 o1 o2 _ _ => ?_⟩
  · obtain ⟨o, e⟩ := G.s0 a z
    exact G.top j H' hw a o e
  · rcases hsl k s hk with rfl | ⟨e, hs, e2⟩
    · exact trivial
    · rw [e2]; exact stab_slot hW g on hnew hw e hs
  · have no : ∀ (k : Nat) (s : Slot), ρ'[k]? = some s → s.isOwn = true → False := fun k s hk ho => by
      rcases hsl k s hk with rfl | ⟨e, hs, e2⟩
      · cases ho
      · rcases hs with rfl | ⟨v, rfl⟩ | ⟨x, rfl, hx⟩ | ⟨C, px, ns, ds, rfl, hx⟩ | ⟨v, x, rfl, hx⟩ <;> cases ho
    exact (no k s1 h1 o1).elim
theorem Only.upd {ps : Addr → Prop} {B : Nat} (on : Only ps B H H') {a : Addr} {xs : List V} (ha : ps a) (hl : xs.length ≤ B + 1) : Only ps (B + 1) H (L2.upd H' a (.lst xs)) := by
  refine ⟨on.was, fun b o n e => ?_, fun b hb => ?_⟩
  · have : b ≠ a := fun z => n (by rw [z]; exact ha)
    rw [upd_ne this]; exact on.keep b o n e
  · by_cases c : b = a
    · rw [c]; exact ⟨xs, upd_same, hl⟩
    · rw [upd_ne c]
      obtain ⟨ys, e, l⟩ := on.lst b hb
      exact ⟨ys, e, by omega⟩
theorem Only.more {ps : Addr → Prop} {B : Nat} (on : Only ps B H H') : Only ps (B + 1) H H' := ⟨on.was, on.keep, fun a h => by
  obtain ⟨ys, e, l⟩ := on.lst a h
  exact ⟨ys, e, by omega⟩⟩
end
/-! ### statements of a def's own level: nothing need stand behind them -/
structure DEndsT (ι : Type) where
  nx : List Slot → ι → Prop
  rt : Dat → ι → Prop
section
variable {ι : Type} {G : Fam ι} {S S' : Addr → Prop} {σ : L2.St} {H H' H2 : Hp} {ρ : List Slot} {pos : Pos} {st : Stmt} {sts : List Stmt}
structure EndsOkT (G : Fam ι) (D : DEndsT ι) (Dh : Ends) : Prop where
  nx : ∀ S' σ' H' ρ' j, Gd (G.at j) S' σ' H' ρ' → D.nx ρ' j → Dh.nx σ' H'
  rt : ∀ v d H' j, G.W j H' → Dv G.X.K G.S0 H' d v → D.rt d j → Dh.rt v H'
structure DBT (G : Fam ι) (sts : List Stmt) (F : DEndsT ι → List Slot → ι → Prop) : Prop where
  ex : ∃ t, PSs G.X sts t ∧ ∀ S σ H ρ i D Dh, Gd (G.at i) S σ H ρ → F D ρ i → EndsOkT G D Dh → t Dh σ H
theorem dbt_of {F : FSR ι} (h : DBR G sts F) : DBT G sts (fun D ρ i => F { nx := D.nx, rt := D.rt } ρ i) := by
  obtain ⟨t, h, l⟩ := h.ex
  exact ⟨⟨t, h, fun S σ H ρ i D Dh g hf q => l S σ H ρ i _ _ g hf ⟨fun S' σ' H' ρ' j g' _ hn => q.nx S' σ' H' ρ' j g' hn, q.rt, fun _ _ _ _ _ _ _ z => z.elim, fun _ _ _ _ _ _ _ z => z.elim⟩⟩⟩
theorem dbt_cons {F : FSR ι} {F' : DEndsT ι → List Slot → ι → Prop} (h : DSR G st F) (hr : DBT G sts F') : DBT G (st :: sts) (fun D ρ i => F { nx := F' D, rt := D.rt } ρ i) := by
  obtain ⟨t, h, l⟩ := h.ex
  obtain ⟨u, h2, l2⟩ := hr.ex
  refine ⟨⟨_, pss_cons h h2, fun S σ H ρ i D Dh g hf q => ?_⟩⟩
  exact l S σ H ρ i _ _ g hf ⟨fun S' σ' H' ρ' j g' _ hn => l2 S' σ' H' ρ' j D Dh g' hn q, q.rt, fun _ _ _ _ _ _ _ z => z.elim, fun _ _ _ _ _ _ _ z => z.elim⟩
/-- for x in (a, b, c): if isinstance(x, list): x.append(None), the lists new -/
theorem dbt_append3 {F' : DEndsT ι → List Slot → ι → Prop} {x y1 y2 y3 : Str} {xp q1 q2 q3 tp p1 p2 p3 p4 np apos cpos epos ip cp : Pos} {kk jj : _} (m1 m2 m3 n : Nat) (hr : DBT G sts F') (hW : ∀ j H, G.W j H → ∀ a o, ¬ G.S0 a → G.H0 a = some o → H a = some o) (hp : PassesOwn (model G.X.prog G.X.w) G.X.A G.X.env G.X.xe) (hc : G.X.calm = true) (hN : G.X.N.Nodup) (hm : G.X.mg "isinstance" = none) (hmT : G.X.mg "list" = none)
    (h1 : G.X.N[m1]? = some y1 := by rfl) (h2 : G.X.N[m2]? = some y2 := by rfl) (h3 : G.X.N[m3]? = some y3 := by rfl) (hi : G.X.N[n]? = some x := by rfl)
    (v1 : Vis G.X.env.scope y1 := by first | exact Or.inl rfl | exact Or.inr (Or.inl rfl) | exact Or.inr (Or.inr rfl)) (v2 : Vis G.X.env.scope y2 := by first | exact Or.inl rfl | exact Or.inr (Or.inl rfl) | exact Or.inr (Or.inr rfl)) (v3 : Vis G.X.env.scope y3 := by first | exact Or.inl rfl | exact Or.inr (Or.inl rfl) | exact Or.inr (Or.inr rfl)) (vx : Vis G.X.env.scope x := by first | exact Or.inl rfl | exact Or.inr (Or.inl rfl) | exact Or.inr (Or.inr rfl))
    (d1 : (y1 == ("__debug__" : Str)) = false := by decide) (d2 : (y2 == ("__debug__" : Str)) = false := by decide) (d3 : (y3 == ("__debug__" : Str)) = false := by decide) (dx : (x == ("__debug__" : Str)) = false := by decide)
    (c1 : (y1 == ("__classdict__" : Str)) = false := by decide) (c2 : (y2 == ("__classdict__" : Str)) = false := by decide) (c3 : (y3 == ("__classdict__" : Str)) = false := by decide) (cx : (x == ("__classdict__" : Str)) = false := by decide)
    (hx : Loc G.X.env.scope x := by first | exact Or.inl rfl | exact Or.inr rfl) (hf : G.X.fn x = true ∨ G.X.env.scope.names.lookup x = some .local := by first | exact .inl rfl | exact .inr rfl)
    (hs2 : ∀ z, foldedSetIterable (.Tuple [.Name y1 q1, .Name y2 q2, .Name y3 q3] kk tp) G.X.env z = pure z := by intro _; rfl)
    (s1 : starEach [Expr.Name y1 q1, .Name y2 q2, .Name y3 q3] G.X.env = (false, eval (.Name y1 q1) G.X.env) :: starEach [.Name y2 q2, .Name y3 q3] G.X.env := by rfl) (s2 : starEach [Expr.Name y2 q2, .Name y3 q3] G.X.env = (false, eval (.Name y2 q2) G.X.env) :: starEach [.Name y3 q3] G.X.env := by rfl) (s3 : starEach [Expr.Name y3 q3] G.X.env = (false, eval (.Name y3 q3) G.X.env) :: starEach [] G.X.env := by rfl)
    (hg : Gl G.X "isinstance" := by rfl) (hgT : Gl G.X "list" := by rfl)
    (hs : starEach [Expr.Name x p2, .Name "list" p3] G.X.env = (false, eval (.Name x p2) G.X.env) :: starEach [.Name "list" p3] G.X.env := by rfl) (hs3 : starEach [Expr.Name "list" p3] G.X.env = (false, eval (.Name "list" p3) G.X.env) :: starEach [] G.X.env := by rfl) (hpl : (backTo p4 (starEach [Expr.Name "list" p3] G.X.env)).any (·.1) = false := by rfl)
    (hst : starEach [Expr.Constant .none jj cp] G.X.env = (false, eval (.Constant .none jj cp) G.X.env) :: starEach [] G.X.env := by rfl)
    (hbase : attributeBase (.Name x np) "append" G.X.env (eval (.Name x np) G.X.env) = eval (.Name x np) G.X.env := by rfl)
    (hfew : ((backTo cpos (starEach [Expr.Constant .none jj cp] G.X.env)).all (fun x => !x.1) && (backToKw cpos (keywordEach [] G.X.env)).all (fun x => x.1.isSome) && decide ([Expr.Constant .none jj cp].length + ([] : List Keyword).length + (if ([] : List Keyword).isEmpty then 0 else 1) < 30)) = true := by rfl)
    (hline : (apos.endLine == cpos.line) = true := by rfl) (hplain : (backTo cpos (starEach [] G.X.env)).any (·.1) = false := by rfl) (hsw : swapsWith (.Call (.Attribute (.Name x np) "append" apos) [.Constant .none jj cp] [] cpos) none epos.line G.X.env = pure false := by rfl) :
    DBT G (.For (.Name x xp) (.Tuple [.Name y1 q1, .Name y2 q2, .Name y3 q3] kk tp) [.If (.Call (.Name "isinstance" p1) [.Name x p2, .Name "list" p3] [] p4) [.Expr (.Call (.Attribute (.Name x np) "append" apos) [.Constant .none jj cp] [] cpos) epos] [] ip] [] pos :: sts)
      (fun D ρ i => n < ρ.length ∧ ∃ w1 e1 w2 e2 w3 e3, (ρ[m1]? = some (.cus false (knownX w1 e1)) ∧ TupOrNew G.H0 w1 e1) ∧ (ρ[m2]? = some (.cus false (knownX w2 e2)) ∧ TupOrNew G.H0 w2 e2) ∧ (ρ[m3]? = some (.cus false (knownX w3 e3)) ∧ TupOrNew G.H0 w3 e3) ∧ (∀ e ∈ [e1, e2, e3], ∀ ys, e = .lst ys → ys.length ≤ 1000) ∧
        ∃ ρ' : List Slot, ρ'.length = ρ.length ∧ (∀ (k : Nat) s, ρ'[k]? = some s → s = .un ∨ (k ≠ n ∧ ρ[k]? = some s ∧ StabZ G s)) ∧ F' D ρ' i) := by
  obtain ⟨u, hu, lu⟩ := hr.ex
  refine ⟨⟨_, pss_cons (ps_for hp hc (pi_seq (pe_tup (pa_cons (pe_var h1 v1 d1 c1) (pa_cons (pe_var h2 v2 d2 c2) (pa_cons (pe_var h3 v3 d3 c3) pa_nil s3) s2) s1))) (pg_name (i := n) hN hi hx hf)
    (pss_one (ps_if (pt_val (pe_callB call_isi hg hm (by decide +kernel) (pa_cons (pe_var hi vx dx cx) (pa_cons (pe_bltn (v := V.ty "list") hgT hmT (by decide +kernel) rfl) pa_nil hs3) hs) (he := hs) (hpl := hpl))) (pss_one (ps_expr (pe_bm PySem.F.plainAttrs_list PySem.F.slot_list_append PySem.F.type_list_append mt_append (pe_var hi vx dx cx) (pa_cons pe_non pa_nil hst) hbase hfew hline hst hplain) hsw)) pss_nil)) hs2) hu, fun S σ H ρ i D Dh g h q => ?_⟩⟩
  obtain ⟨hnr, w1, e1, w2, e2, w3, e3, ⟨r1, t1⟩, ⟨r2, t2⟩, ⟨r3, t3⟩, hlen, ρ', hl, hsl, hF⟩ := h
  obtain ⟨u1, z1, _, eu1, k1⟩ := g.slot_cus r1
  obtain ⟨u2, z2, _, eu2, k2⟩ := g.slot_cus r2
  obtain ⟨u3, z3, _, eu3, k3⟩ := g.slot_cus r3
  subst eu1; subst eu2; subst eu3
  refine ⟨_, z1, _, z2, _, z3, show 3 ≤ sizeLine by decide, fun t nt => ?_⟩
  have stn : Stp (G.at i) H (upd H t (.tup [u1, u2, u3])) := Stp.new g.wld nt
  have g1 := g.step stn
  have et : upd H t (.tup [u1, u2, u3]) t = some (.tup [u1, u2, u3]) := upd_same
  generalize upd H t (.tup [u1, u2, u3]) = H1 at *
  have k1 := stn.dv g k1
  have k2 := stn.dv g k2
  have k3 := stn.dv g k3
  have hd : ∀ (r : Nat) w, [u1, u2, u3][r]? = some w → ∃ e, e ∈ [e1, e2, e3] ∧ TupOrNew G.H0 w e ∧ Dv G.X.K S H1 e w ∧ (w, e) ∈ [(u1, e1), (u2, e2), (u3, e3)] := fun r w e => by
    match r, e with
    | 0, e => cases e; exact ⟨e1, by simp, t1, k1, by simp⟩
    | 1, e => cases e; exact ⟨e2, by simp, t2, k2, by simp⟩
    | 2, e => cases e; exact ⟨e3, by simp, t3, k3, by simp⟩
    | r + 3, e => simp at e
  let ps : Addr → Prop := fun a => ∃ e ys, (V.ref a, e) ∈ [(u1, e1), (u2, e2), (u3, e3)] ∧ e = .lst ys
  have hps : ∀ a, ps a → G.H0 a = none ∧ ∃ xs, H1 a = some (.lst xs) ∧ xs.length ≤ 1000 := fun a ⟨e, ys, hm, he⟩ => by
    simp only [List.mem_cons, List.not_mem_nil, or_false, Prod.mk.injEq] at hm
    have fin : ∀ {w : V} {e : Dat}, e ∈ [e1, e2, e3] → TupOrNew G.H0 w e → Dv G.X.K S H1 e w → w = V.ref a → e = .lst ys → G.H0 a = none ∧ ∃ xs, H1 a = some (.lst xs) ∧ xs.length ≤ 1000 := fun hm t k ew ee => by
      subst ee
      refine ⟨t.2 ys a rfl ew, ?_⟩
      obtain ⟨b, xs, eb, _, e2, hl⟩ := dv_lst k
      rw [ew] at eb; cases eb
      exact ⟨xs, e2, by rw [hl.len]; exact hlen _ hm ys rfl⟩
    rcases hm with ⟨ea, ee⟩ | ⟨ea, ee⟩ | ⟨ea, ee⟩
    · exact fin (by simp) t1 k1 ea.symm (ee ▸ he)
    · exact fin (by simp) t2 k2 ea.symm (ee ▸ he)
    · exact fin (by simp) t3 k3 ea.symm (ee ▸ he)
  have hno : ∀ a xs, H1 a = some (.tup xs) → ¬ ps a := fun a xs e z => by
    obtain ⟨_, ys, e2, _⟩ := hps a z
    rw [e] at e2; cases e2
  have on0 : Only ps 1000 H1 H1 := ⟨fun a h => let ⟨_, xs, e, _⟩ := hps a h; ⟨xs, e⟩, fun _ _ _ e => e, fun a h => (hps a h).2⟩
  refine ⟨t, rfl, .inr ⟨⟨_, .inl (.inl et)⟩, ?_⟩⟩
  refine ⟨fun r m σ' H' => m = 3 - r ∧ r ≤ 3 ∧ Only ps (1000 + r) H1 H' ∧ G.W i H' ∧ σ'.length = σ.length ∧ (∀ k, k ≠ n → σ'[k]? = σ[k]?), ⟨3, rfl, Nat.zero_le _, on0, g1.wld, rfl, fun _ _ => rfl⟩, ?_⟩
  rintro r m σ' H' ⟨rfl, hr3, on, hw, hsl', hsk⟩
  have et' : H' t = some (.tup [u1, u2, u3]) := on.keep t _ (hno t _ et) et
  by_cases hlt : r < 3
  · have hx1 : r < [u1, u2, u3].length := hlt
    refine .inr ⟨⟨_, _, .inl (.inl et'), List.getElem?_eq_getElem hx1⟩, fun σ2 H2 => Only ps (1000 + (r + 1)) H1 H2 ∧ G.W i H2 ∧ σ2.length = σ.length ∧ (∀ k, k ≠ n → σ2[k]? = σ[k]?), fun σ2 H2 ⟨a1, a2, a3, a4⟩ => ⟨3 - (r + 1), by omega, rfl, hlt, a1, a2, a3, a4⟩, fun y H2 ⟨eH, hy⟩ => ?_⟩
    subst eH
    have hy' := hy _ (.inl (.inl et'))
    obtain ⟨e, hem, te, ke, hmem⟩ := hd r y hy'
    have hnl : n < σ'.length := by
      rw [hsl', g.len]
      exact hnr
    have gv : (σ'.set n (some y))[n]? = some (some y) := by rw [List.getElem?_set_self hnl]
    have fin2 : ∀ k, k ≠ n → (σ'.set n (some y))[k]? = σ[k]? := fun k hk => by rw [List.getElem?_set_ne (fun z => hk z.symm)]; exact hsk k hk
    obtain ⟨⟨ys, hye⟩, hnew⟩ := te
    rcases hye with rfl | rfl
    · obtain ⟨a, xs, rfl, _, ea, hl0⟩ := dv_lst ke
      have hpa : ps a := ⟨_, ys, hmem, rfl⟩
      have hbig : ∀ zs : List V, zs.length ≤ 1000 + r → zs.length < sizeLine := fun zs hz => by
        have : 2000 < sizeLine := by decide
        omega
      obtain ⟨xs', ea', hl'⟩ := on.lst a hpa
      refine ⟨_, gv, V.ref a, .ty "list", _, _, true, rfl, .ty "list", .base (.lst ea'), kit_ty (by decide +kernel), ?_⟩
      refine ⟨true, rfl, ?_⟩
      show if true = true then _ else _
      rw [if_pos rfl]
      refine ⟨_, gv, .inl ⟨rfl, xs', .inl (.inl ea')⟩, a, xs', .non, rfl, rfl, ea', hbig xs' hl', ?_⟩
      refine ⟨on.upd hpa (by rw [List.length_append, List.length_singleton]; omega), G.clo i _ _ hw (fun b o o0 e0 e => ?_) (keepX_upd fun φ z => by rw [ea'] at z; cases z), by rw [List.length_set]; exact hsl', fin2⟩
      have : b ≠ a := fun z => by rw [z, (hps a hpa).1] at e0; cases e0
      rw [upd_ne this]; exact e
    · obtain ⟨a, xs, rfl, ea, hl0⟩ := dv_tup ke
      have ty : TyX G.X.K H2 (.ref a) (.type "tuple") := by
        rcases ea with ⟨_, ea⟩ | ⟨o, its, nn, e, c, _⟩
        · exact .base (.tup (on.keep a _ (hno a _ ea) ea))
        · exact .kTuple e c
      refine ⟨_, gv, V.ref a, .ty "list", _, _, false, rfl, .ty "list", ty, kit_ty (by decide +kernel), ?_⟩
      refine ⟨false, rfl, ?_⟩
      show if false = true then _ else _
      rw [if_neg (by decide)]
      exact ⟨on.more, hw, by rw [List.length_set]; exact hsl', fin2⟩
  · have e : r = 3 := by omega
    subst e
    refine .inl ⟨⟨_, .inl (.inl et'), Nat.le_refl _⟩, ?_⟩
    refine lu G.S0 σ' H' ρ' i D Dh (Gd.havoc hW g1 on (fun a h => (hps a h).1) hw (by rw [hsl', hl, g.len]) fun k s hk => ?_) hF q
    rcases hsl k s hk with h | ⟨a1, a2, a3⟩
    · exact .inl h
    · exact .inr ⟨a2, a3, hsk k a1⟩
end
end DL
namespace DL
open PySem PySem.Spec PyProof.Rows L2
section
variable {ι : Type} {G : Fam ι} {pos : Pos} {e tg : Expr}
end
/-! ### repr of a truth -/
section
variable {G : Ctx} {pos : Pos} {a : Expr}
end
section
variable {G : Ctx} {S : Addr → Prop} {σ : L2.St} {H H' : Hp} {ρ : List Slot} {pos : Pos} {e e2 : Expr} {F F2 : FE}
end
end DL
namespace DL
open PySem PySem.Spec PyProof.Rows L2
/-- the rule for a def that is handed a state, called where no repr is under way, its body a sequence of its own level; what is handed in is known -/
theorem fn_pureSTG {κ : Type} {P : Program} {w : World} {K : PySem.W.Frag} {mg : Str → Option Value} {base : Heap} {x qual : Str} {stm : Stmt} {f : Addr} {fd : FuncData} {N ps : List Str} {k : Nat} {C : ConS κ} (F : Fun K x qual stm f fd) (Sc : FnScope N ps (defScope stm)) (len : ∀ st i sl P, C.C st i sl P → sl.length = ps.length)
    (hbody : ∀ (cdv : Value) (A : Around) (outer : List Env) (s : Shared) (H : Hp) (S : Addr → Prop) (hS : ∀ a, S a → ∃ o, H a = some o) (st : Sta κ) (i0 : κ) (h0 : st.M i0 H), A.guards = some [] → (∀ a, st.fp a → S a) → Room k (A.deeper (envOfC qual (defScope stm) s.heap.objs.size f cdv)) → ∀ sl R, C.C st i0 sl R →
      ∀ vs, SlL K S H sl vs → ∃ T, DBT (famS P w K mg base N qual (defScope stm) f cdv A outer s H S hS st i0 h0) (defBody stm) T ∧ T { nx := fun _ => R .non, rt := R } (startS N.length sl) i0) : FnG P w K mg base CX0 (k + 1) f fd ps (spS K C) := by
  have hpl : ps.length ≤ N.length := by have := congrArg List.length Sc.pre; rw [List.length_take] at this; omega
  obtain ⟨oc, od, kV, doc, pm, an, cdv, ct, osl, rfl, lk, hcd⟩ := F.ex
  refine fnG_of lk hcd Sc (fun vs H Q E ⟨S, st, i, sl, _, _, _, hv, hc⟩ => by rw [hv.len]; exact len _ _ _ _ hc) fun A outer s H vs Q E hgd hr h => ?_
  obtain ⟨S, st, i, sl, hS, hf, h0, hv, hc⟩ := h
  obtain ⟨T, ⟨t, hp, l⟩, hT⟩ := hbody cdv A outer s H S hS st i h0 hgd hf hr sl _ hc vs hv
  refine ⟨t, hp.nox, ?_⟩
  refine l S _ H (startS N.length sl) i _ _ (gd_startS (G := (famS P w K mg base N qual (defScope stm) f cdv A outer s H S hS st i h0).at i) ⟨ExF.refl _ _, h0⟩ hS hv (by rw [len _ _ _ _ hc]; exact hpl)) hT ?_
  exact ⟨fun S' σ' H' ρ' j g q => q .non H' g.wld.1 g.wld.2 rfl, fun v d H' j hw hv q => q v H' hw.1 hw.2 hv⟩
section
variable {ι : Type} {G : Fam ι} {S S' : Addr → Prop} {σ : L2.St} {H H' : Hp} {ρ : List Slot} {pos : Pos} {C : Addr} {e : Expr} {es : List Expr} {kws : List Keyword} {Fa : FR ι}
/-! ### keywords told over a state; instances made of such -/
structure DKR (G : Fam ι) (kws : List Keyword) (F : FAR ι) : Prop where
  ex : ∃ t, PK G.X kws t ∧ LiftAR G t F
theorem dkr_nil : DKR G [] (fun _ i P => P [] i) := ⟨⟨_, pk_nil, fun _ _ H _ i _ _ g h q => q [] [] H i (.refl g.wld) rfl h⟩⟩
theorem dkr_cons {nm : Option Str} {kpos : Pos} {Fs : FAR ι} (ha : DR G e Fa) (hr : DKR G kws Fs) : DKR G (⟨nm, e, kpos⟩ :: kws) (fun ρ i P => Fa ρ i fun x j => Fs ρ j fun xs k => P (x :: xs) k) := by
  obtain ⟨t, h1, l1⟩ := ha.ex
  obtain ⟨u, h2, l2⟩ := hr.ex
  refine ⟨⟨_, pk_cons h1 h2, fun S σ H ρ i P Q g h q => ?_⟩⟩
  refine l1 S σ H ρ i _ _ g h fun v d H1 j st hv h' => ?_
  refine l2 S σ H1 ρ j _ _ (g.stepI st) h' fun vs ds H2 k st2 hvs hp => ?_
  exact q _ (d :: ds) H2 k (st.trans st2) ⟨v, vs, rfl, st2.dv (g.stepI st) hv, hvs⟩ hp
/-- C(k = v, ..), made, of what is told over a state -/
theorem dxr_makeR0 {x : Str} {k mm : Nat} {ks : List Str} {CI : ConI} {gD : List Dat → List Dat → List Dat} {p : Pos} {Fk : FAR ι} (M : MkC G.X.prog G.X.w G.X.K G.X.mg G.X.base x k C CI 0 ks gD) (hr : Room mm G.X.A) (hkw : DKR G kws Fk) (hk : k + 1 ≤ mm := by decide) (hg : Gl G.X x := by rfl)
    (hall : (backToKw pos (keywordEach kws G.X.env)).all (·.1.isSome) = true := by rfl) (hks : (backToKw pos (keywordEach kws G.X.env)).filterMap (·.1) = ks := by rfl) (hdb : (x == ("__debug__" : Str)) = false := by decide)
    (hpl : ((backTo pos (starEach [] G.X.env)).any (·.1) || (backToKw pos (keywordEach kws G.X.env)).any (·.1.isNone)) = false := by rfl) :
    DXR G (.Call (.Name x p) [] kws pos) (fun ρ i P => Fk ρ i fun zs j => zs.length = ks.length ∧ CI.C (gD [] zs) (fun ns fs => P (.cus false (objX C none ns fs)) j) (fun _ => False)) := by
  obtain ⟨f, fd, ps, M1, hm, F, gg, gV, gW, hb, h1, h2⟩ := M.ex
  obtain ⟨u, pu, l'⟩ := hkw.ex
  refine ⟨⟨_, pe_makeK0 M1 F (hr.mono hk) hg hm hb passL pu hall hks hdb hpl, fun S σ H ρ i P Q g hF q => ?_⟩⟩
  refine l' S σ H ρ i _ _ g hF fun zs es H2 j st2 hz ⟨l2, hp⟩ => ?_
  have g2 := g.stepI st2
  have lz : zs.length = ks.length := by rw [hz.len]; exact l2
  refine ⟨rfl, lz, fun x dx nx ndx ne => ?_⟩
  rw [h1 _ [] _ rfl lz]
  exact new_use (gD := gD) g2 (h2 _ _ [] _ [] _ rfl hz rfl lz) hp (fun ex hx => hx.elim) (fun v ns fs H' st3 ok hw => q v _ H' j (st2.trans (.of st3)) ok hw) x dx nx ndx ne
end
section
variable {G : Ctx} {S : Addr → Prop} {σ : L2.St} {H : Hp} {ρ : List Slot} {pos : Pos}
/-- a, b, .. = a list of that length -/
def lstN (d : Dat) (n : Nat) (P : List Dat → Prop) : Prop := match d with
  | .lst ds => ds.length = n ∧ P ds
  | _ => False
theorem dg_lst {es : List Expr} {k : Nat} {F : FGs} (n : Nat) (hc : G.X.calm = true) (h : DGs G es F) (hn : (assignEach es G.X.env).length = n := by rfl) (hst : (assignEach es G.X.env).findIdx? (·.1) = none := by rfl) : DG G (.Tuple es k pos) (fun d ρ P => lstN d n fun ds => F ds ρ P) := by
  obtain ⟨t, p1, l1⟩ := h.ex
  refine ⟨⟨_, pg_lst hc p1 hn hst, fun S σ H ρ d v P Q g hv h q => ?_⟩⟩
  cases d with
  | lst ds =>
    obtain ⟨a, xs, rfl, n, e, hl⟩ := dv_lst hv
    exact ⟨a, xs, rfl, .inl (.inl e), by rw [hl.len]; exact h.1, l1 S σ H ρ ds xs P Q g hl h.2 q⟩
  | _ => exact h.elim
end
section
variable {ι : Type} {G : Fam ι} {S S' : Addr → Prop} {σ : L2.St} {H H' : Hp} {ρ : List Slot} {pos : Pos} {a b : Expr}
/-- x, y = two things that may be instances -/
theorem dsr_parX {x y : Str} {Fs : FSR' ι} {px py pt : Pos} {kt k2 pt2} (n m : Nat) (ha : DSl G [a, b] Fs) (hN : G.X.N.Nodup) (hc : G.X.calm = true := by rfl) (hi : G.X.N[n]? = some x := by rfl) (hj : G.X.N[m]? = some y := by rfl) (hij : n ≠ m := by decide)
    (hx : G.X.env.scope.names.lookup x = some .local := by rfl) (hy : G.X.env.scope.names.lookup y = some .local := by rfl)
    (hw : swappedStores [.Tuple [.Name x px, .Name y py] kt pt] (.Tuple [a, b] k2 pt2) G.X.env = pure (some [x, y]) := by rfl)
    (hs : swapsWithSole [.Tuple [.Name x px, .Name y py] kt pt] (.Tuple [a, b] k2 pt2) pos.line G.X.env = pure false := by rfl) :
    DSR G (.Assign [.Tuple [.Name x px, .Name y py] kt pt] (.Tuple [a, b] k2 pt2) pos) (fun D ρ i => Fs ρ i fun sl j => two sl fun s t => D.nx ((ρ.set n s).set m t) j) := by
  obtain ⟨t, h, l⟩ := ha.ex
  refine ⟨⟨_, ps_par hc hN hi hj hij hx hy h hw hs, fun S σ H ρ i D Dh g h q => ?_⟩⟩
  refine l S σ H ρ i _ _ g h fun vs sl H1 j st hv hp => ?_
  unfold two at hp
  split at hp
  · obtain ⟨v, r, rfl, h1, h2⟩ := (hv : ∃ v r, vs = v :: r ∧ ArgOk G.X.K S H1 _ v ∧ SlL G.X.K S H1 [_] r)
    obtain ⟨w, r2, rfl, h3, h4⟩ := (h2 : ∃ w r2, r = w :: r2 ∧ ArgOk G.X.K S H1 _ w ∧ SlL G.X.K S H1 [] r2)
    cases (h4 : r2 = [])
    exact ⟨v, w, rfl, q.nx _ _ _ _ j (((g.stepI st).setArg h1).setArg h3) (st.fr g) hp⟩
  · exact hp.elim
end
end DL
namespace K01
open PySem PySem.Spec PyProof.Rows L2 DL
theorem isI_mk {i : Int} {P : Int → Prop} (h : P i) : isI (.int i) P := h
theorem ix_lst {ds : List Dat} {x : Int} {d : Dat} {P : Dat → Prop} (h : atI ds x = some d) (q : P d) : ixD (.lst ds) (.int x) P := by
  rw [ixD_lst, h]
  exact q
theorem shaped_list {xs : List Dat} (h : ∀ x ∈ xs, LD x 50) : SeqAt.shaped (toP (.lst xs)) = true := by
  have q := LD.tup (m := 50) h
  refine shaped_of (d := .lst xs) ?_ ?_
  · have := q.1
    unfold Lay at this ⊢
    simp only [toP, PyData.canLay0] at this ⊢
    exact this
  · have := q.2
    simp only [toP, PyData.depth] at this ⊢
    omega
theorem ne_nil {xs : List Dat} {P : Dat → Prop} (h : ∀ x ∈ xs, LD x 50) (q : P (.bl (!xs.isEmpty))) : neD (.lst xs) (.lst []) P := by
  refine ⟨shaped_list h, by decide +kernel, ?_⟩
  have e : PyData.eqv (toP (.lst xs)) (toP (.lst [])) = xs.isEmpty := by
    cases xs with
    | nil => decide +kernel
    | cons x r => simp [toP, toPs, PyData.eqv, PyData.eqvAll]
  rw [e]
  exact q
def conMixed : ConS (Nat × Unit) := ⟨fun st n sl P => ∃ (v : V) (sd : Sta Nat) (q : Addr) (us : List V) (xs : List Dat), IsDraw sd v ∧ st = staAnd sd (heldSta q us) ∧ ¬ sd.fp q ∧ sl = [.raw v, .cus false (lentX q us xs)] ∧ xs.length ≤ 1000 ∧ (∀ x ∈ xs, LD x 50) ∧ n.1 + xs.length < manyDraws ∧ ∀ (ys : List Dat) (j : Nat × Unit), ys.Perm xs → j.1 ≤ n.1 + xs.length → P (.lst ys) j,
  fun _ _ _ _ _ ⟨v, sd, q, us, xs, h0, e, h1, e2, h2, h3, h4, h⟩ m => ⟨v, sd, q, us, xs, h0, e, h1, e2, h2, h3, h4, fun ys j a b => m _ _ (h ys j a b)⟩⟩
section
variable {P : Program} {w : World} {K : PySem.W.Frag} {mg : Str → Option Value} {base : Heap} {f f2 : Addr} {fd fd2 : FuncData} {k : Nat}
abbrev s__law_mixed_up : Stmt := topS 37
theorem sc__law_mixed_up : FnScope ["m", "things", "left", "found", "spot"] ["m", "things"] (defScope s__law_mixed_up) := ⟨rfl, rfl, rfl, by decide +kernel, rfl, by decide +kernel, by decide +kernel⟩
-- calls ['_law_draw'] consts []
theorem ok_law_mixed_up (B : Bt mg) (F__law_draw : CalleeS P w K mg base "_law_draw" k ["m", "top"] conDraw) (F : Fun K "_law_mixed_up" "_law_mixed_up" s__law_mixed_up f fd) : FnOk P w K mg base CX0 (k + 1) f fd ["m", "things"] (spS K conMixed) := by
  refine fn_pureS F sc__law_mixed_up (fun st i sl P ⟨v, sd, q, us, xs, _, _, _, e, _⟩ => by rw [e]; rfl) fun cdv A outer s H S hS st i0 h0 hf hr sl R hc => ?_
  have nd := sc__law_mixed_up.nd
  obtain ⟨v, sd, q0, us, xs, hd, rfl, hnq, rfl, hlen, hld, hn, h⟩ := hc
  have hdis : ∀ a, (heldSta q0 us).fp a → ¬ sd.fp a := fun a e z => hnq (by rw [← (show a = q0 from e)]; exact z)
  have gs := gs_self (P := P) (w := w) (K := K) (mg := mg) (base := base) (N := ["m", "things", "left", "found", "spot"]) (qual := "_law_mixed_up") (sc := defScope s__law_mixed_up) (f := f) (cdv := cdv) (A := A) (outer := outer) (s := s) (hS := hS) (h0 := h0) hf
  have gD := gs.subS (sub_fst hdis)
  have gH := gs.subS (sub_snd hdis)
  refine ⟨_, (dbr_cons (dsr_parOwn 2 3 (dr_listLent gH 1 B.list) nd) (dbr_cons (dsr_while PassesOwn.never (dtr_of fun i => (dt_ne hr.units (de_var 2) (de_lst da_nil))) (dbr_cons (dsr_set 4 (dr_fnS gD F__law_draw hr (dsl_raw 0 (dsl_d (dr_of fun i => (de_len B.len (da_cons (de_var 2) da_nil))) dsl_nil)) (by omega)) nd) (dbr_cons (dsr_of fun i => (ds_append 3 (he := (de_ix (de_var 2) (de_var 4))))) (dbr_one (dsr_set 2 (dr_of fun i => (de_add (de_sl (de_var 2) do_none (do_some (de_var 4))) (de_sl (de_var 2) (do_some (de_add (de_var 4) de_int)) do_none))) nd))))) (dbr_one (dsr_freeze (dsr_ret (dr_of fun i => (de_var 3))))))), ?_⟩
  (try dsimp only [startS, List.length_cons, List.length_nil, List.set_cons_succ, List.set_cons_zero, List.cons_append, List.nil_append, Nat.reduceAdd, Nat.reduceSub, List.replicate])
  (repeat (first | with_reducible refine rd_here (by with_unfolding_all exact rfl) ?_ | with_reducible refine rdRaw_here (by with_unfolding_all exact rfl) ?_ | with_reducible refine And.intro (by with_unfolding_all decide) ?_ | with_reducible refine isI_mk ?_ | with_reducible refine ownL_here (by with_unfolding_all exact rfl) ?_ | dsimp only))
  refine ⟨xs, rfl, ?_⟩
  (try dsimp only [startS, List.length_cons, List.length_nil, List.set_cons_succ, List.set_cons_zero, List.cons_append, List.nil_append, Nat.reduceAdd, Nat.reduceSub, List.replicate])
  refine ⟨fun m ρ j => ∃ (l g : List Dat) (s4 : DL.Slot), ρ = [.raw v, .cus false (lentX q0 us xs), .d (.lst l), .own g, s4] ∧ m = l.length ∧ (g ++ l).Perm xs ∧ j.1 + l.length ≤ i0.1 + xs.length, ⟨_, xs, [], _, rfl, rfl, List.Perm.refl _, Nat.le_refl _⟩, ?_⟩
  rintro m ρ j ⟨l, g, s4, rfl, rfl, hp, hj⟩
  have hml : ∀ x ∈ l, LD x 50 := fun x hx => hld x (hp.mem_iff.mp (List.mem_append_right _ hx))
  have hl1 : (g ++ l).length = xs.length := hp.length_eq
  rw [List.length_append] at hl1
  refine ⟨fun b j' => b = !l.isEmpty ∧ j' = j, ?_, fun j' ⟨e, ej⟩ => ?_, fun j' ⟨e, ej⟩ => ?_⟩
  · (repeat (first | with_reducible refine rd_here (by with_unfolding_all exact rfl) ?_ | with_reducible refine rdRaw_here (by with_unfolding_all exact rfl) ?_ | with_reducible refine And.intro (by with_unfolding_all decide) ?_ | with_reducible refine isI_mk ?_ | with_reducible refine ownL_here (by with_unfolding_all exact rfl) ?_ | dsimp only))
    refine ne_nil hml ?_
    exact ⟨rfl, rfl⟩
  · subst ej
    have : l = [] := by simpa using e.symm
    subst this
    (repeat (first | with_reducible refine rd_here (by with_unfolding_all exact rfl) ?_ | with_reducible refine rdRaw_here (by with_unfolding_all exact rfl) ?_ | with_reducible refine And.intro (by with_unfolding_all decide) ?_ | with_reducible refine isI_mk ?_ | with_reducible refine ownL_here (by with_unfolding_all exact rfl) ?_ | dsimp only))
    rw [List.append_nil] at hp
    exact h g _ hp (by simpa using hj)
  · subst ej
    have hne : l ≠ [] := by simpa using e.symm
    have hpos : 0 < l.length := List.length_pos_iff.mpr hne
    (repeat (first | with_reducible refine rd_here (by with_unfolding_all exact rfl) ?_ | with_reducible refine rdRaw_here (by with_unfolding_all exact rfl) ?_ | with_reducible refine And.intro (by with_unfolding_all decide) ?_ | with_reducible refine isI_mk ?_ | with_reducible refine ownL_here (by with_unfolding_all exact rfl) ?_ | dsimp only))
    rw [lenD_lst]
    refine draw_use hd (by omega) (by omega) (by omega) fun x hx0 hx1 => ?_
    obtain ⟨q, rfl⟩ : ∃ q : Nat, x = (q : Int) := ⟨x.toNat, by omega⟩
    have hq : q < l.length := by omega
    (try dsimp only [startS, List.length_cons, List.length_nil, List.set_cons_succ, List.set_cons_zero, List.cons_append, List.nil_append, Nat.reduceAdd, Nat.reduceSub, List.replicate])
    (repeat (first | with_reducible refine rd_here (by with_unfolding_all exact rfl) ?_ | with_reducible refine rdRaw_here (by with_unfolding_all exact rfl) ?_ | with_reducible refine And.intro (by with_unfolding_all decide) ?_ | with_reducible refine isI_mk ?_ | with_reducible refine ownL_here (by with_unfolding_all exact rfl) ?_ | dsimp only))
    refine ix_lst (atI_nat (List.getElem?_eq_getElem hq)) ?_
    have lg : g.length ≤ 1000 := by omega
    refine ⟨Nat.lt_of_le_of_lt lg (by decide), ?_⟩
    (repeat (first | with_reducible refine rd_here (by with_unfolding_all exact rfl) ?_ | with_reducible refine rdRaw_here (by with_unfolding_all exact rfl) ?_ | with_reducible refine And.intro (by with_unfolding_all decide) ?_ | with_reducible refine isI_mk ?_ | with_reducible refine ownL_here (by with_unfolding_all exact rfl) ?_ | dsimp only))
    rw [slD_lst, cut_to _ q (by omega)]
    (repeat (first | with_reducible refine rd_here (by with_unfolding_all exact rfl) ?_ | with_reducible refine rdRaw_here (by with_unfolding_all exact rfl) ?_ | with_reducible refine And.intro (by with_unfolding_all decide) ?_ | with_reducible refine isI_mk ?_ | with_reducible refine ownL_here (by with_unfolding_all exact rfl) ?_ | dsimp only))
    rw [addD_int, isI_int, slD_lst, show ((q : Int) + 1) = ((q + 1 : Nat) : Int) from rfl, cut_from _ (q + 1), addD_lst]
    have hlen2 : (l.take q ++ l.drop (q + 1)).length = l.length - 1 := by
      rw [List.length_append, List.length_take, List.length_drop]; omega
    refine ⟨?_, l.length - 1, by omega, l.take q ++ l.drop (q + 1), g ++ [l[q]], _, rfl, hlen2.symm, ?_, by rw [hlen2]; omega⟩
    · rw [List.length_take, List.length_drop]
      exact Nat.le_trans (show _ ≤ 1000 by omega) (by decide)
    · refine List.Perm.trans ?_ hp
      rw [List.append_assoc]
      refine List.Perm.append_left g ?_
      have e : l.take q ++ l[q] :: l.drop (q + 1) = l := by rw [← List.drop_eq_getElem_cons hq, List.take_append_drop]
      conv => rhs; rw [← e]
      show (l[q] :: (l.take q ++ l.drop (q + 1))).Perm _
      exact List.perm_middle.symm
end
end K01
namespace K01
open PySem PySem.Spec PyProof.Rows L2 DL
def conHanded : ConS (Nat × Unit) := ⟨fun st n sl P => ∃ (v : V) (sd : Sta Nat) (q : Addr) (us : List V) (xs : List Dat), IsDraw sd v ∧ st = staAnd sd (heldSta q us) ∧ ¬ sd.fp q ∧ sl = [.raw v, .cus false (lentX q us xs)] ∧ xs.length ≤ 1000 ∧ (∀ x ∈ xs, LD x 50) ∧ n.1 + xs.length + 1 < manyDraws ∧ ∀ (ys : List Dat) (r : Dat) (j : Nat × Unit), ys.Perm xs → (r = .lst ys ∨ r = .tup ys) → j.1 ≤ n.1 + xs.length + 1 → P r j,
  fun _ _ _ _ _ ⟨v, sd, q, us, xs, h0, e, h1, e2, h2, h3, h4, h⟩ m => ⟨v, sd, q, us, xs, h0, e, h1, e2, h2, h3, h4, fun ys r j a b c => m _ _ (h ys r j a b c)⟩⟩
section
variable {P : Program} {w : World} {K : PySem.W.Frag} {mg : Str → Option Value} {base : Heap} {f f2 : Addr} {fd fd2 : FuncData} {k : Nat}
abbrev s__law_handed : Stmt := topS 44
theorem sc__law_handed : FnScope ["m", "some", "found"] ["m", "some"] (defScope s__law_handed) := ⟨rfl, rfl, rfl, by decide +kernel, rfl, by decide +kernel, by decide +kernel⟩
-- calls ['_law_mixed_up', '_law_draw'] consts []
theorem ok_law_handed (B : Bt mg) (F__law_draw : CalleeS P w K mg base "_law_draw" k ["m", "top"] conDraw) (F__law_mixed_up : CalleeS P w K mg base "_law_mixed_up" k ["m", "things"] conMixed) (F : Fun K "_law_handed" "_law_handed" s__law_handed f fd) : FnOk P w K mg base CX0 (k + 1) f fd ["m", "some"] (spS K conHanded) := by
  refine fn_pureS F sc__law_handed (fun st i sl P ⟨v, sd, q, us, xs, _, _, _, e, _⟩ => by rw [e]; rfl) fun cdv A outer s H S hS st i0 h0 hf hr sl R hc => ?_
  have nd := sc__law_handed.nd
  obtain ⟨v, sd, q0, us, xs, hd, rfl, hnq, rfl, hlen, hld, hn, h⟩ := hc
  have hdis : ∀ a, (heldSta q0 us).fp a → ¬ sd.fp a := fun a e z => hnq (by rw [← (show a = q0 from e)]; exact z)
  have gs := gs_self (P := P) (w := w) (K := K) (mg := mg) (base := base) (N := ["m", "some", "found"]) (qual := "_law_handed") (sc := defScope s__law_handed) (f := f) (cdv := cdv) (A := A) (outer := outer) (s := s) (hS := hS) (h0 := h0) hf
  have gD := gs.subS (sub_fst hdis)
  refine ⟨_, (dbr_cons (dsr_set 2 (dr_fnS gs F__law_mixed_up hr (dsl_raw 0 (dsl_cus 1 dsl_nil)) (by omega)) nd) (dbr_one (dsr_ret (dr_if (dtr_eq hr.units (dr_fnS gD F__law_draw hr (dsl_raw 0 (dsl_d (dr_of fun i => de_int) dsl_nil)) (by omega)) (dr_of fun i => de_int)) (dr_of fun i => (de_var 2)) (dr_of fun i => (de_tuple B.tuple (da_cons (de_var 2) da_nil))))))), ?_⟩
  (try dsimp only [startS, List.length_cons, List.length_nil, List.set_cons_succ, List.set_cons_zero, List.cons_append, List.nil_append, Nat.reduceAdd, Nat.reduceSub, List.replicate])
  (repeat (first | with_reducible refine rd_here (by with_unfolding_all exact rfl) ?_ | with_reducible refine rdRaw_here (by with_unfolding_all exact rfl) ?_ | with_reducible refine And.intro (by with_unfolding_all decide) ?_ | with_reducible refine isI_mk ?_ | with_reducible refine ownL_here (by with_unfolding_all exact rfl) ?_ | dsimp only))
  refine ⟨_, rfl, ?_⟩
  refine ⟨v, sd, q0, us, xs, hd, rfl, hnq, rfl, hlen, hld, by omega, fun ys j hp hj => ?_⟩
  (try dsimp only [startS, List.length_cons, List.length_nil, List.set_cons_succ, List.set_cons_zero, List.cons_append, List.nil_append, Nat.reduceAdd, Nat.reduceSub, List.replicate])
  (repeat (first | with_reducible refine rd_here (by with_unfolding_all exact rfl) ?_ | with_reducible refine rdRaw_here (by with_unfolding_all exact rfl) ?_ | with_reducible refine And.intro (by with_unfolding_all decide) ?_ | with_reducible refine isI_mk ?_ | with_reducible refine ownL_here (by with_unfolding_all exact rfl) ?_ | dsimp only))
  refine draw_use (top := 2) hd (by decide) (by decide) (by omega) fun x hx0 hx1 => ?_
  rw [eqD_int, isB_bl]
  by_cases c : x = 0
  · rw [decide_eq_true c, if_pos rfl]
    (repeat (first | with_reducible refine rd_here (by with_unfolding_all exact rfl) ?_ | with_reducible refine rdRaw_here (by with_unfolding_all exact rfl) ?_ | with_reducible refine And.intro (by with_unfolding_all decide) ?_ | with_reducible refine isI_mk ?_ | with_reducible refine ownL_here (by with_unfolding_all exact rfl) ?_ | dsimp only))
    exact h ys _ _ hp (.inl rfl) (by dsimp only; omega)
  · rw [decide_eq_false c, if_neg (by decide)]
    (repeat (first | with_reducible refine rd_here (by with_unfolding_all exact rfl) ?_ | with_reducible refine rdRaw_here (by with_unfolding_all exact rfl) ?_ | with_reducible refine And.intro (by with_unfolding_all decide) ?_ | with_reducible refine isI_mk ?_ | with_reducible refine ownL_here (by with_unfolding_all exact rfl) ?_ | dsimp only))
    exact h ys _ _ hp (.inr rfl) (by dsimp only; omega)
end
end K01
namespace K01
open PySem PySem.Spec PyProof.Rows L2 DL
/-! ### the class Model: ==, len, repr -/
def shp (d : Dat) : Prop := SeqAt.shaped (toP d) = true
def eq3 (ds es : List Dat) : Bool := PyData.eqvAll (toPs ds) (toPs es)
def c_eqM (C : Addr) : ConM := ⟨fun sl P _ => ∃ px xs ys zs s, sl = [.cus false (objX C px fldsM [.tup xs, .tup ys, .tup zs]), s] ∧ (shp (.tup xs) ∧ shp (.tup ys) ∧ shp (.tup zs)) ∧ ((∃ y, s = .d y ∧ P (.bl false)) ∨ ∃ px' xs' ys' zs', s = .cus false (objX C px' fldsM [.tup xs', .tup ys', .tup zs']) ∧ (shp (.tup xs') ∧ shp (.tup ys') ∧ shp (.tup zs')) ∧ P (.bl (eq3 [.tup xs, .tup ys, .tup zs] [.tup xs', .tup ys', .tup zs']))),
  fun _ _ _ _ _ ⟨px, xs, ys, zs, s, e, h, hh⟩ m _ => ⟨px, xs, ys, zs, s, e, h, hh.imp (fun ⟨y, e, h⟩ => ⟨y, e, m _ h⟩) fun ⟨px', xs', ys', zs', e, h, hp⟩ => ⟨px', xs', ys', zs', e, h, m _ hp⟩⟩⟩
def c_lenM (C : Addr) : ConM := ⟨fun sl P _ => ∃ px xs d e, sl = [.cus false (objX C px fldsM [.tup xs, d, e])] ∧ P (.int (xs.length : Nat)), fun _ _ _ _ _ ⟨px, xs, d, e, h, hp⟩ m _ => ⟨px, xs, d, e, h, m _ hp⟩⟩
def reprM (n : Nat) : Str := Str.empty ++ Str.ofString "Model(" ++ Str.ofString (toString (n : Int)) ++ Str.ofString " names)"
def c_reprM (C : Addr) : ConM := ⟨fun sl P _ => ∃ px xs d e, sl = [.cus false (objX C px fldsM [.tup xs, d, e])] ∧ xs.length ≤ 1000 ∧ P (.str (reprM xs.length)), fun _ _ _ _ _ ⟨px, xs, d, e, h, hl, hp⟩ m _ => ⟨px, xs, d, e, h, hl, m _ hp⟩⟩
section
variable {P : Program} {w : World} {K : PySem.W.Frag} {mg : Str → Option Value} {base : Heap} {f C CB : Addr} {fd : FuncData} {k j : Nat}
abbrev s_Model___len__ : Stmt := inClass (topS 29) 10
theorem sc_Model___len__ : FnScope ["self"] ["self"] (defScope s_Model___len__) := ⟨rfl, rfl, rfl, by decide +kernel, rfl, by decide +kernel, by decide +kernel⟩
-- calls [] consts []
theorem ok_Model_len (B : Bt mg) (HC : Cls K C) (NA_names : NoAttr K C "_names") (F : Fun K "__len__" "Model.__len__" s_Model___len__ f fd) : FnOk P w K mg base (L2.CX P w) (k + 1) f fd ["self"] (spM K (c_lenM C)) := by
  refine fn_pureM F sc_Model___len__ (fun sl P X ⟨px, xs, d, e, h, _⟩ => by rw [h]; rfl) fun cdv A outer s H S hS E EX el hr => ?_
  have nd := sc_Model___len__.nd
  refine ⟨_, (db_one (ds_ret (de_len B.len (da_cons (de_fld 0 HC NA_names) da_nil)))), ?_⟩
  rintro sl R ⟨px, xs, d, e, rfl, h⟩
  exact ⟨false, px, _, _, _, rfl, rfl, h⟩
abbrev s_Model___repr__ : Stmt := inClass (topS 29) 11
theorem sc_Model___repr__ : FnScope ["self"] ["self"] (defScope s_Model___repr__) := ⟨rfl, rfl, rfl, by decide +kernel, rfl, by decide +kernel, by decide +kernel⟩
-- calls [] consts []
theorem ok_Model_repr (B : Bt mg) (HC : Cls K C) (NA_names : NoAttr K C "_names") (F : Fun K "__repr__" "Model.__repr__" s_Model___repr__ f fd) : FnOk P w K mg base (L2.CX P w) (k + 1) f fd ["self"] (spM K (c_reprM C)) := by
  refine fn_pureM F sc_Model___repr__ (fun sl P X ⟨px, xs, d, e, h, _⟩ => by rw [h]; rfl) fun cdv A outer s H S hS E EX el hr => ?_
  have nd := sc_Model___repr__.nd
  refine ⟨_, (db_one (ds_ret (de_joined (dj_cons de_str (dj_cons (de_fmt (de_len B.len (da_cons (de_fld 0 HC NA_names) da_nil))) (dj_cons de_str dj_nil)))))), ?_⟩
  rintro sl R ⟨px, xs, d, e, rfl, hl, h⟩
  have hlt : (Str.ofString (toString ((xs.length : Nat) : Int))).length ≤ 4 := PyProof.Rows.toString_length_le (by omega) (by decide) (by omega)
  have h0 : Str.empty.length = 0 := by decide
  have h1 : (Str.ofString "Model(").length = 6 := by decide
  have h2 : (Str.ofString " names)").length = 7 := by decide
  have big : 1000 ≤ sizeLine := by decide
  refine ⟨by decide, ?_⟩
  refine ⟨false, px, _, _, _, rfl, rfl, ?_⟩
  refine ⟨Nat.lt_of_le_of_lt (Nat.log2_le_self _) (by omega), ?_⟩
  refine ⟨by rw [Str.length_append, Str.length_append]; omega, ?_⟩
  exact ⟨by rw [Str.length_append, Str.length_append, Str.length_append]; omega, h⟩
abbrev s_Model___eq__ : Stmt := inClass (topS 29) 9
theorem sc_Model___eq__ : FnScope ["self", "other"] ["self", "other"] (defScope s_Model___eq__) := ⟨rfl, rfl, rfl, by decide +kernel, rfl, by decide +kernel, by decide +kernel⟩
theorem ok_Model_eq (B : Bt mg) (hc : CmpC K C) (M_Model : mg "Model" = some (.ref C)) (NA_names : NoAttr K C "_names") (NA_calls : NoAttr K C "_calls") (NA_props : NoAttr K C "_props") (F : Fun K "__eq__" "Model.__eq__" s_Model___eq__ f fd) : FnOk P w K mg base (L2.CX P w) (k + 1) f fd ["self", "other"] (spM K (c_eqM C)) := by
  have HC := hc.cl
  refine fn_pureM F sc_Model___eq__ (fun sl P X ⟨px, xs, ys, zs, s, h, _⟩ => by rw [h]; rfl) fun cdv A outer s H S hS E EX el hr => ?_
  have nd := sc_Model___eq__.nd
  refine ⟨_, (db_one (ds_ret (de_and (de_isiC hc (dx_any (C := C) 1) B.isinstance M_Model) (de_and (de_eq hr.units (de_fld 0 HC NA_names) (de_fld 1 HC NA_names)) (de_and (de_eq hr.units (de_fld 0 HC NA_calls) (de_fld 1 HC NA_calls)) (de_one (de_eq hr.units (de_fld 0 HC NA_props) (de_fld 1 HC NA_props)))))))), ?_⟩
  rintro sl R ⟨px, xs, ys, zs, s, rfl, ⟨h1, h2, h3⟩, hh⟩
  rcases hh with ⟨y, rfl, hp⟩ | ⟨px', xs', ys', zs', rfl, ⟨g1, g2, g3⟩, hp⟩
  · exact ⟨.d y, rfl, trivial, trivial, hp⟩
  · refine ⟨.cus false (objX C px' fldsM [.tup xs', .tup ys', .tup zs']), rfl, ⟨_, _, _, rfl⟩, ⟨_, _, _, rfl⟩, ?_⟩
    show isB (.bl true) _
    rw [isB_bl, if_pos rfl]
    refine ⟨false, px, _, _, _, rfl, rfl, false, px', _, _, _, rfl, rfl, ?_⟩
    have e : eq3 [.tup xs, .tup ys, .tup zs] [.tup xs', .tup ys', .tup zs'] = (PyData.eqv (toP (.tup xs)) (toP (.tup xs')) && (PyData.eqv (toP (.tup ys)) (toP (.tup ys')) && PyData.eqv (toP (.tup zs)) (toP (.tup zs')))) := by
      unfold eq3
      rw [toPs, toPs, toPs, toPs, toPs, toPs, toPs, toPs, PyData.eqvAll, PyData.eqvAll, PyData.eqvAll, PyData.eqvAll, Bool.and_true]
    rw [e] at hp
    refine ⟨h1, g1, ?_⟩
    dsimp only
    rw [isB_bl]
    cases e1 : PyData.eqv (toP (.tup xs)) (toP (.tup xs')) with
    | false => rw [e1] at hp; exact hp
    | true =>
      rw [if_pos rfl]
      rw [e1] at hp
      refine ⟨false, px, _, _, _, rfl, rfl, false, px', _, _, _, rfl, rfl, h2, g2, ?_⟩
      dsimp only
      rw [isB_bl]
      cases e2 : PyData.eqv (toP (.tup ys)) (toP (.tup ys')) with
      | false => rw [e2] at hp; exact hp
      | true =>
        rw [if_pos rfl]
        rw [e2] at hp
        exact ⟨false, px, _, _, _, rfl, rfl, false, px', _, _, _, rfl, rfl, h3, g3, hp⟩
end
end K01
namespace DL
open PySem PySem.Spec PyProof.Rows L2
/-! ### repr of a tuple, or of a list -/
def okRepr (d : Dat) : Prop := (toP d).canLay0 = true ∧ (toP d).showable = true ∧ (toP d).hasDict = false ∧ (toP d).depth ≤ 60 ∧ (toP d).shown.length ≤ sizeLine
section
variable {G : Ctx} {S : Addr → Prop} {H : Hp} {pos : Pos} {a : Expr}
end
end DL
namespace K01
open PySem PySem.Spec PyProof.Rows L2 DL
/-! ### what may be shown -/
structure Sho (d : Dat) (m n : Nat) : Prop where
  lay : Lay d
  sh : (toP d).showable = true
  dep : (toP d).depth ≤ m
  sho : (toP d).leavesShort 80 = true
  blk : (toP d).bulk ≤ n
theorem Sho.mono {d : Dat} {m n m' n' : Nat} (h : Sho d m n) (h1 : m ≤ m') (h2 : n ≤ n') : Sho d m' n' := ⟨h.lay, h.sh, Nat.le_trans h.dep h1, h.sho, Nat.le_trans h.blk h2⟩
theorem sho_all {xs : List Dat} {m n : Nat} (h : ∀ d ∈ xs, Sho d m n) : PyData.canLayAll0 (toPs xs) = true ∧ PyData.showableAll (toPs xs) = true ∧ PyData.depthAll (toPs xs) ≤ m ∧ PyData.leavesShortAll 80 (toPs xs) = true ∧ PyData.bulkAll (toPs xs) ≤ xs.length * (n + 1) := by
  induction xs with
  | nil => exact ⟨rfl, rfl, Nat.zero_le _, rfl, Nat.zero_le _⟩
  | cons x xs ih =>
    obtain ⟨a, b, c, d, e⟩ := ih fun y hy => h y (List.mem_cons_of_mem _ hy)
    have hx := h x List.mem_cons_self
    have lx : (toP x).canLay0 = true := hx.lay
    rw [toPs]
    refine ⟨by rw [PyData.canLayAll0, lx, a]; rfl, by rw [PyData.showableAll, hx.sh, b]; rfl, ?_, by rw [PyData.leavesShortAll, hx.sho, d]; rfl, ?_⟩
    · have := hx.dep
      rw [PyData.depthAll]; omega
    · have := hx.blk
      rw [PyData.bulkAll, List.length_cons, Nat.succ_mul]; omega
theorem Sho.tup {xs : List Dat} {m n l : Nat} (h : ∀ d ∈ xs, Sho d m n) (hl : xs.length ≤ l) : Sho (.tup xs) (m + 1) (l * (n + 1)) := by
  obtain ⟨a, b, c, d, e⟩ := sho_all h
  have hm : xs.length * (n + 1) ≤ l * (n + 1) := Nat.mul_le_mul_right _ hl
  refine ⟨?_, ?_, ?_, ?_, ?_⟩
  · unfold Lay; rw [toP, PyData.canLay0]; exact a
  · rw [toP, PyData.showable]; exact b
  · rw [toP, PyData.depth]; omega
  · rw [toP, PyData.leavesShort]; exact d
  · rw [toP, PyData.bulk]; omega
theorem Sho.lst {xs : List Dat} {m n l : Nat} (h : ∀ d ∈ xs, Sho d m n) (hl : xs.length ≤ l) : Sho (.lst xs) (m + 1) (l * (n + 1)) := by
  obtain ⟨a, b, c, d, e⟩ := sho_all h
  have hm : xs.length * (n + 1) ≤ l * (n + 1) := Nat.mul_le_mul_right _ hl
  refine ⟨?_, ?_, ?_, ?_, ?_⟩
  · unfold Lay; rw [toP, PyData.canLay0]; exact a
  · rw [toP, PyData.showable]; exact b
  · rw [toP, PyData.depth]; omega
  · rw [toP, PyData.leavesShort]; exact d
  · rw [toP, PyData.bulk]; omega
theorem sho_int {i : Int} (h : i.natAbs < 2 ^ 240) {m n : Nat} : Sho (.int i) m n := by
  refine ⟨rfl, ?_, ?_, ?_, ?_⟩
  · rw [toP, PyData.showable]
    have : i.natAbs.log2 < 240 := by
      by_cases c : i.natAbs = 0
      · rw [c]; decide
      · exact (Nat.log2_lt c).mpr h
    exact decide_eq_true (by omega)
  · rw [toP, PyData.depth]; omega
  · rw [toP, PyData.leavesShort]
    refine decide_eq_true ?_
    have e := PySem.int_text_length_le10 (k := 79) (by decide) (Nat.lt_trans h (by decide))
    show (Str.ofString (toString i)).length ≤ 80
    rw [PySem.ofString_length]; exact e
  · rw [toP, PyData.bulk]; omega
theorem sho_str {z : Str} (h : Lay (.str z)) {m n : Nat} (hl : z.length ≤ n) : Sho (.str z) m n := by
  refine ⟨h, rfl, ?_, ?_, ?_⟩
  · rw [toP, PyData.depth]; omega
  · rw [toP]
    refine PyData.leavesShort_of_canLay0 80 (.str z) ?_ rfl
    have h' : (toP (.str z)).canLay0 = true := h
    rw [toP] at h'
    exact h'
  · rw [toP, PyData.bulk]
    exact hl
theorem Sho.okRepr {d : Dat} {m n : Nat} (h : Sho d m n) (hm : m ≤ 60) (hn : n ≤ 200000) : okRepr d := by
  refine ⟨h.lay, h.sh, PySem.PyData.hasDict_of_canLay _ h.lay, Nat.le_trans h.dep hm, ?_⟩
  have e := PyData.shown_le_bulk 80 (by decide) (toP d) h.sho
  have hb : (toP d).bulk ≤ 200000 := Nat.le_trans h.blk hn
  have : (80 + 2) * (toP d).bulk ≤ 82 * 200000 := Nat.mul_le_mul (by decide) hb
  show (toP d).shown.length ≤ 2 ^ 24
  have e2 : (2 : Nat) ^ 24 = 16777216 := by decide
  omega
theorem Sho.ld {d : Dat} {m n : Nat} (h : Sho d m n) : LD d m := ⟨h.lay, h.dep⟩
/-! ### what is drawn is a value, and may be shown -/
theorem num_sho {d : Dat} (h : NumOk d) : Sho d 2 2 := by
  obtain ⟨a, b, rfl, _⟩ := frac_inv h.1
  have e : (10 : Nat) ^ 20 < 2 ^ 240 := by decide
  refine (Sho.tup (m := 0) (n := 0) (l := 2) (fun x hx => ?_) (Nat.le_refl _)).mono (by decide) (by decide)
  simp only [List.mem_cons, List.not_mem_nil, or_false] at hx
  rcases hx with rfl | rfl
  · exact sho_int (Nat.lt_of_le_of_lt h.2.1 e)
  · exact sho_int (Nat.lt_of_le_of_lt h.2.2 e)
theorem tb_sho : ∀ (n : Nat) (d : Dat), TB n d → Sho d (n + 2) (5 * 4 ^ n)
  | 0, _, h => h.elim
  | n + 1, d, h => by
    have p1 : 1 ≤ (4 : Nat) ^ n := Nat.pow_pos (by decide)
    have p2 : (4 : Nat) ^ (n + 1) = 4 ^ n * 4 := Nat.pow_succ ..
    rcases h with ⟨x, rfl, hx⟩ | ⟨x, y, rfl, hx, hy⟩
    · refine (Sho.tup (m := n + 2) (n := 5 * 4 ^ n) (l := 3) (fun u hu => ?_) (by simp)).mono (by omega) (by omega)
      simp only [List.mem_cons, List.not_mem_nil, or_false] at hu
      rcases hu with rfl | rfl
      · exact sho_str lay_tip (show 3 ≤ _ by omega)
      · exact (num_sho hx).mono (by omega) (by omega)
    · refine (Sho.tup (m := n + 2) (n := 5 * 4 ^ n) (l := 3) (fun u hu => ?_) (by simp)).mono (by omega) (by omega)
      simp only [List.mem_cons, List.not_mem_nil, or_false] at hu
      rcases hu with rfl | rfl | rfl
      · exact sho_str lay_node (show 4 ≤ _ by omega)
      · exact tb_sho n _ hx
      · exact tb_sho n _ hy
theorem fold_two {g : Dat → Int → Option Nat} {room : Int} {x y : Dat} {s1 s2 : Nat} (h1 : g x (room - 1) = some s1) (h2 : g y (room - ((1 + s1 : Nat) : Int)) = some s2) : foldT g room 1 [x, y] = some (1 + s1 + s2) := by
  have a : foldT g room 1 [x, y] = match g x (room - ((1 : Nat) : Int)) with | none => none | some s => foldT g room (1 + s) [y] := rfl
  rw [a, show room - ((1 : Nat) : Int) = room - 1 from rfl, h1]
  have b : foldT g room (1 + s1) [y] = match g y (room - ((1 + s1 : Nat) : Int)) with | none => none | some s => foldT g room (1 + s1 + s) [] := rfl
  show foldT g room (1 + s1) [y] = _
  rw [b, h2]
  rfl
theorem tb_size : ∀ (n : Nat) (d : Dat), TB n d → ∀ (k : Nat) (r : Int), (2 ^ n : Nat) ≤ r → ∃ s, tszV (n + k) d r = some s ∧ s < 2 ^ n
  | 0, _, h, _, _, _ => h.elim
  | n + 1, d, h, k, r, hr => by
    have p2 : (2 : Nat) ^ (n + 1) = 2 ^ n + 2 ^ n := by rw [Nat.pow_succ]; omega
    have p1 : 1 ≤ (2 : Nat) ^ n := Nat.pow_pos (by decide)
    rw [show n + 1 + k = (n + k) + 1 by omega, tsz_succ, if_neg (by omega)]
    rcases h with ⟨x, rfl, hx⟩ | ⟨x, y, rfl, hx, hy⟩
    · refine ⟨1, ?_, by omega⟩
      show (if ("tip" : Str) = "tip" then tipN [x] else if ("tip" : Str) = "node" then nodN (tszV (n + k)) r [x] else none) = some 1
      rw [if_pos rfl]
      show (if fracB x = true then some 1 else none) = some 1
      rw [if_pos hx.1]
    · obtain ⟨s1, e1, l1⟩ := tb_size n x hx k (r - 1) (by omega)
      obtain ⟨s2, e2, l2⟩ := tb_size n y hy k (r - ((1 + s1 : Nat) : Int)) (by omega)
      refine ⟨1 + s1 + s2, ?_, by omega⟩
      show (if ("node" : Str) = "tip" then tipN [x, y] else if ("node" : Str) = "node" then nodN (tszV (n + k)) r [x, y] else none) = some (1 + s1 + s2)
      rw [if_neg (by decide), if_pos rfl]
      exact fold_two e1 e2
theorem p30 : (10 : Nat) ^ 30 < 2 ^ 240 := by decide
theorem p16 : (16 : Nat) < 2 ^ 240 := by decide
theorem sho_30 {i : Int} (h0 : 0 ≤ i) (h1 : i ≤ 10 ^ 30) {m n : Nat} : Sho (.int i) m n := by
  have : i.natAbs ≤ 10 ^ 30 := by omega
  exact sho_int (Nat.lt_of_le_of_lt this p30)
theorem sho_15 {i : Int} (h0 : 0 ≤ i) (h1 : i ≤ 15) {m n : Nat} : Sho (.int i) m n := by
  have : i.natAbs ≤ 16 := by omega
  exact sho_int (Nat.lt_of_le_of_lt this p16)
theorem worth_sho {z : Str} {d : Dat} {deep : Nat} (h : WorthV z deep d) (hd : deep ≤ 3) : Sho d 5 320 := by
  rcases h with ⟨_, i, rfl, h0, h1⟩ | ⟨_, i, rfl, h0, h1⟩ | ⟨_, h⟩ | ⟨_, xs, rfl, hl, hx, _⟩ | ⟨_, h⟩
  · exact sho_30 h0 h1
  · exact sho_15 h0 h1
  · exact (num_sho h).mono (by decide) (by decide)
  · exact (Sho.tup (fun d hd => num_sho (hx d hd)) hl).mono (by decide) (by decide)
  · have hm : (4 : Nat) ^ deep ≤ 64 := Nat.pow_le_pow_right (by decide) hd
    exact (tb_sho deep d h).mono (by omega) (by omega)
theorem worth_val {z : Str} {d : Dat} {deep : Nat} (h : WorthV z deep d) (hd : deep ≤ 3) : valB d z = true := by
  unfold valB
  rcases h with ⟨rfl, i, rfl, h0, h1⟩ | ⟨rfl, i, rfl, h0, h1⟩ | ⟨rfl, h⟩ | ⟨rfl, xs, rfl, hl, hx, hr⟩ | ⟨rfl, h⟩
  · rw [if_neg (by decide), if_neg (by decide), if_neg (by decide)]
    show (decide (0 ≤ i) && (decide (("thing" : Str) = "thing") || decide (i ≤ 15))) = true
    rw [decide_eq_true h0, decide_eq_true rfl]; rfl
  · rw [if_neg (by decide), if_neg (by decide), if_neg (by decide)]
    show (decide (0 ≤ i) && (decide (("bits" : Str) = "thing") || decide (i ≤ 15))) = true
    rw [decide_eq_true h0, decide_eq_true h1, Bool.or_true]; rfl
  · rw [if_pos rfl]; exact h.1
  · rw [if_neg (by decide), if_neg (by decide), if_pos rfl]; exact hr
  · rw [if_neg (by decide), if_pos rfl]
    have h8 : (2 : Nat) ^ deep ≤ 8 := Nat.pow_le_pow_right (by decide) hd
    obtain ⟨s, e, _⟩ := tb_size deep d h (40 - deep) 600 (by omega)
    rw [show deep + (40 - deep) = 40 by omega] at e
    rw [e]; rfl
/-! ### sorted in one way alone -/
def Strict (es : List Dat) : Prop := es.Pairwise fun x y => codeD x < codeD y
theorem srt_strict {κ : Dat → Dat} {es : List Dat} (hk : ∀ x ∈ es, ∀ y ∈ es, codeD (κ y) < codeD (κ x) → codeD y < codeD x) (hs : srtP (toPs es)) (hn : (es.map fun d => codeD (κ d)).Nodup) : Strict es := by
  have hs2 : es.Pairwise fun x y => ¬ codeD y < codeD x := by
    unfold srtP at hs
    rw [toPs_map] at hs
    exact List.pairwise_map.mp hs
  have hn2 : es.Pairwise fun x y => codeD (κ x) ≠ codeD (κ y) := List.pairwise_map.mp hn
  refine List.Pairwise.imp_of_mem (fun {x y} hx hy h => ?_) (hs2.and hn2)
  obtain ⟨h1, h2⟩ := h
  have h3 : ¬ codeD (κ y) < codeD (κ x) := fun z => h1 (hk x hx y hy z)
  rcases List.le_iff_lt_or_eq.mp (List.not_lt.mp h3) with z | z
  · exact hk y hy x hx z
  · exact absurd z h2
theorem strict_uniq : ∀ {xs ys : List Dat}, xs.Perm ys → Strict xs → Strict ys → xs = ys
  | [], ys, hp, _, _ => (List.nil_perm.mp hp).symm
  | x :: xs, [], hp, _, _ => absurd hp.length_eq (by simp)
  | x :: xs, y :: ys, hp, hx, hy => by
    obtain ⟨x1, x2⟩ := List.pairwise_cons.mp hx
    obtain ⟨y1, y2⟩ := List.pairwise_cons.mp hy
    have e : x = y := by
      have m1 : x ∈ y :: ys := hp.mem_iff.mp List.mem_cons_self
      have m2 : y ∈ x :: xs := hp.mem_iff.mpr List.mem_cons_self
      rcases List.mem_cons.mp m1 with e | m1
      · exact e
      · rcases List.mem_cons.mp m2 with e | m2
        · exact e.symm
        · exact absurd (List.lt_trans (y1 x m1) (x1 y m2)) (List.lt_irrefl _)
    subst e
    rw [strict_uniq ((List.perm_cons x).mp hp) x2 y2]
theorem srt_uniq {κ : Dat → Dat} {us xs ys : List Dat} (hk : ∀ x ∈ us, ∀ y ∈ us, codeD (κ y) < codeD (κ x) → codeD y < codeD x) (hn : (us.map fun d => codeD (κ d)).Nodup) (h1 : xs.Perm us) (s1 : srtP (toPs xs)) (h2 : ys.Perm us) (s2 : srtP (toPs ys)) : xs = ys := by
  have st : ∀ {zs : List Dat}, zs.Perm us → srtP (toPs zs) → Strict zs := fun {zs} h s => srt_strict (κ := κ) (fun x hx y hy => hk x (h.mem_iff.mp hx) y (h.mem_iff.mp hy)) s ((h.map _).nodup_iff.mpr hn)
  exact strict_uniq (h1.trans h2.symm) (st h1 s1) (st h2 s2)
end K01
namespace DL
open PySem PySem.Spec PyProof.Rows L2
/-! ### comprehensions with a test, over draws; tests that look at one's own lists -/
section
variable {ι κ : Type} {G : Fam ι} {S S' : Addr → Prop} {σ : L2.St} {H H' H2 : Hp} {ρ : List Slot} {pos : Pos} {a b e : Expr} {Fa : FR ι}
def tWTR (G : Fam ι) (F : FTR ι) : TT := fun σ H Q => ∃ S ρ i P, Gd (G.at i) S σ H ρ ∧ F ρ i P ∧ ∀ b H' j, StpI G j H H' → P b j → Q b H'
theorem DTR.blk {F : FTR ι} {s : Shared} {H9 : Hp} {scope : Scope} {cenv : Env} {fp : List Addr} (h : DTR (G.blk s H9 scope cenv fp) e F) : PT (G.X.blk s H9 scope cenv fp) e (tWTR G F) := by
  obtain ⟨t, h, l⟩ := h.ex
  exact ⟨fun pins s' σ H Q I ⟨S, ρ, i, P, g, hf, q⟩ => h.run pins s' σ H Q I (l S σ H ρ i P Q g.blkI hf fun b H' j st => q b H' j st.unblk)⟩
theorem lift_lcT {w : TI} {F : FItR ι} {Fc : FTR ι} {Fe : FR ι} (n : Nat) (lw : ∀ S σ H ρ i P (R : It → Hp → Prop), Gd (G.at i) S σ H ρ → F ρ i P → (∀ J items H1 j, StpI G j H H1 → (∀ k : ι, WalkOk (G.at k) J items S H1) → P items j → R J H1) → w σ H R) :
    ∀ S σ H ρ i (P : List Dat → ι → Prop) (Q : VK), Gd (G.at i) S σ H ρ → (∃ Inv : List Dat → List Dat → ι → Prop, (F ρ i fun items j => Inv items [] j) ∧ (∀ acc j, Inv [] acc j → P acc j) ∧ ∀ d ds acc j, Inv (d :: ds) acc j → Fc (ρ.set n (.d d)) j fun b j => if b = true then Fe (ρ.set n (.d d)) j fun y k => acc.length < sizeLine ∧ Inv ds (acc ++ [y]) k else Inv ds acc j) →
      (∀ p xs ds H' j, H p = none → StpI G j H H' → H' p = some (.lst xs) → DvL G.X.K (fun a => S a ∨ a = p) H' ds xs → P ds j → Q (.ref p) H') → tLc w (gName n) (tWTR G Fc) (tWR G Fe) [n] σ H Q := by
  intro S σ H ρ i P Q gd ⟨IV, h, k0, ks⟩ q
  refine lw S σ H ρ i _ _ gd h fun J items H1 j0 st wk hp D nD => ?_
  have g1 := gd.stepI st
  have gw : Gd (G.at j0) S (σ.set n none) H1 (ρ.set n .un) := g1.wipe
  have nS : ¬ S D := g1.fresh nD
  have nS0 : ¬ G.S0 D := fun z => nS (gd.sub D z)
  have h0 : G.H0 D = none := g1.fresh0 nD
  have ndH : H D = none := by
    cases e : H D with
    | none => rfl
    | some o =>
      obtain ⟨o', e'⟩ := st.has D o e
      rw [nD] at e'; cases e'
  obtain ⟨g2, fr2⟩ := gw.grow (o := .lst []) nD
  have hn : ∀ (i : Nat) (s : Slot), (ρ.set n .un)[i]? = some s → s.isOwn = true → (σ.set n none)[i]? ≠ some (some (.ref D)) := fun i s hs ho e => by
    have k := gw.slots i s hs
    rw [e] at k
    obtain ⟨a, u, e1, _, e2, _⟩ := SlotOk.addr k ho
    cases e1
    rw [nD] at e2; cases e2
  have wipe1 : L2.wipe σ [n] = σ.set n none := rfl
  let Pv : Nat → Hp → Prop := fun r H' => ∃ acc dacc j, H' D = some (.lst acc) ∧ DvL G.X.K (fun a => S a ∨ a = D) H' dacc acc ∧ Gd (G.at j) (fun a => S a ∨ a = D) (σ.set n none) H' (ρ.set n .un) ∧ Fr S H1 (fun a => S a ∨ a = D) H' ∧ StpI G j H H' ∧ IV (items.drop r) dacc j
  refine ⟨fun r m H' => m = items.length - r ∧ r ≤ items.length ∧ Pv r H', ⟨items.length, rfl, Nat.zero_le _, [], [], j0, upd_same, rfl, g2, fr2, st.trans (StpI.new g1.wld nD), hp⟩, ?_⟩
  rintro r m H' ⟨rfl, hi, acc, dacc, j, eD, hacc, g', fr, st', hf⟩
  by_cases hlt : r < items.length
  · refine .inr ⟨(wk j).go r _ H' hlt fr, Pv (r + 1), fun H2 p => ⟨items.length - (r + 1), by omega, rfl, hlt, p⟩, fun x H2 y => ?_⟩
    obtain ⟨s2, hd⟩ := (wk j).yld r _ _ _ _ H' x H2 (List.getElem?_eq_getElem hlt) g' fr y
    have g3 := g'.step s2
    rw [List.drop_eq_getElem_cons hlt] at hf
    rw [wipe1]
    refine ⟨by show ((σ.set n none).set n (some x)).set n none = σ.set n none; rw [List.set_set, List.set_set], ?_⟩
    have gx : Gd (G.at j) (fun a => S a ∨ a = D) ((σ.set n none).set n (some x)) H2 ((ρ.set n .un).set n (.d items[r])) := g3.set hd
    rw [show (ρ.set n Slot.un).set n (.d items[r]) = ρ.set n (.d items[r]) from List.set_set ..] at gx
    refine ⟨_, _, j, _, gx, ks _ _ _ _ hf, fun b H3 j3 st3 hb => ?_⟩
    have s13 : StpI G j3 H' H3 := (StpI.of s2).trans st3
    cases b with
    | false =>
      replace hb : IV (items.drop (r + 1)) dacc j3 := hb
      exact ⟨acc, dacc, j3, s13.keep D _ nS0 eD, s13.dvl g' hacc, g'.stepI s13, fr.trans (s13.fr g'), st'.trans s13, hb⟩
    | true =>
      replace hb : Fe (ρ.set n (.d items[r])) j3 fun y k => dacc.length < sizeLine ∧ IV (items.drop (r + 1)) (dacc ++ [y]) k := hb
      refine ⟨_, _, j3, _, gx.stepI st3, hb, fun v d H4 k st4 hv ⟨hz, hc⟩ => ?_⟩
      have s14 : StpI G k H' H4 := s13.trans st4
      have g4 := g'.stepI s14
      have eD4 := s14.keep D _ nS0 eD
      obtain ⟨g5, fr5⟩ := g4.acc (o := .lst (acc ++ [v])) (.inr rfl) h0 (fun φ z => by rw [eD4] at z; cases z) hn
      have hacc4 := s14.dvl g' hacc
      refine ⟨acc, eD4, by rw [hacc4.len]; exact hz, acc ++ [v], dacc ++ [d], k, upd_same, (hacc4.append (es := [d]) (us := [v]) ⟨v, [], rfl, hv, rfl⟩).move fr5, g5, (fr.trans (s14.fr g')).trans fr5, ?_, hc⟩
      have ss := st'.trans s14
      refine ⟨g5.wld, fun a o n e => ?_, fun a o e => ?_⟩
      · rw [upd_ne (ne_of_none e ndH)]; exact ss.keep a o n e
      · obtain ⟨o', e'⟩ := ss.has a o e
        exact ⟨o', by rw [upd_ne (ne_of_none e ndH)]; exact e'⟩
  · have e : r = items.length := by omega
    subst e
    rw [List.drop_length] at hf
    exact .inl ⟨(wk j).stop _ H' fr, q D acc dacc H' j ndH st' eD hacc (k0 _ _ hf)⟩
/-- [e for x in .. if c], over draws -/
theorem dr_lcT {elt tg iter c : Expr} {scope : Scope} {x : Str} (n : Nat) {F : FItR ι} {Fc : FTR ι} {Fe : FR ι} (hc : G.X.calm = true) (hN : G.X.N.Nodup) (hi : DIR G tg iter F) (ok : BlkOk G.X.N G.X.env.scope scope [(x, n)])
    (hg : ∀ (s : Shared) (H : Hp) (C : Addr) (cl : List (Str × Addr)) (fp : List Addr), PG (G.X.blk s H scope (compEnvC scope cl C G.X.env) fp) tg (gName n))
    (ht : ∀ (s : Shared) (H : Hp) (C : Addr) (cl : List (Str × Addr)) (fp : List Addr), DTR (G.blk s H scope (compEnvC scope cl C G.X.env) fp) c Fc)
    (he : ∀ (s : Shared) (H : Hp) (C : Addr) (cl : List (Str × Addr)) (fp : List Addr), DR (G.blk s H scope (compEnvC scope cl C G.X.env) fp) elt Fe) (hs : ∀ x, foldedSetIterable iter G.X.env x = pure x := by intro _; rfl) :
    DR G (.ListComp elt [⟨tg, iter, [c], 0⟩] scope pos) (fun ρ i P => ∃ Inv : List Dat → List Dat → ι → Prop, (F ρ i fun items j => Inv items [] j) ∧ (∀ acc j, Inv [] acc j → P (.lst acc) j) ∧ ∀ d ds acc j, Inv (d :: ds) acc j → Fc (ρ.set n (.d d)) j fun b j => if b = true then Fe (ρ.set n (.d d)) j fun y k => acc.length < sizeLine ∧ Inv ds (acc ++ [y]) k else Inv ds acc j) := by
  obtain ⟨w, h1, l1⟩ := hi.ex
  refine ⟨⟨_, pe_lc (own := [(x, n)]) hc hN h1 ok hg (fun s H C cl fp => pts_one (ht s H C cl fp).blk) (fun s H C cl fp => (he s H C cl fp).blk) hs, fun S σ H ρ i P Q g h q => ?_⟩⟩
  refine lift_lcT n l1 S σ H ρ i (fun ds j => P (.lst ds) j) Q g h fun p xs ds H' j np st e hv hp => ?_
  have nS : ¬ S p := g.fresh np
  exact q _ (.lst ds) H' j st ⟨p, xs, rfl, nS, e, hv.move fun a o n e => ⟨fun z => n (.inl z), e⟩⟩ hp
end
section
variable {G : Ctx} {e : Expr}
/-- a test that looks at one's own lists as data -/
theorem dt_frz {F : FT} (h : DT G e F) : DT G e (fun ρ P => F (ρ.map Slot.freeze) P) := by
  obtain ⟨t, h, l⟩ := h.ex
  refine ⟨⟨t, h, fun S σ H ρ P Q g hf q => ?_⟩⟩
  obtain ⟨g1, fr⟩ := g.freeze
  exact l G.S0 σ H _ P Q g1 hf q
end
section
variable {ι κ : Type} {G : Fam ι} {S S' : Addr → Prop} {σ : L2.St} {H H' H2 : Hp} {ρ : List Slot} {pos : Pos}
/-- x, y = [], [] -/
theorem dsr_parOwnL {x y : Str} {px py pt p1 p2 pv : Pos} {kt k2} (n m : Nat) (hN : G.X.N.Nodup) (hc : G.X.calm = true := by rfl) (hi : G.X.N[n]? = some x := by rfl) (hj : G.X.N[m]? = some y := by rfl) (hij : n ≠ m := by decide)
    (hx : G.X.env.scope.names.lookup x = some .local := by rfl) (hy : G.X.env.scope.names.lookup y = some .local := by rfl)
    (hw : swappedStores [.Tuple [.Name x px, .Name y py] kt pt] (.Tuple [.List [] p1, .List [] p2] k2 pv) G.X.env = pure (some [x, y]) := by rfl)
    (hs : swapsWithSole [.Tuple [.Name x px, .Name y py] kt pt] (.Tuple [.List [] p1, .List [] p2] k2 pv) pos.line G.X.env = pure false := by rfl)
    (hst : starEach [.List [] p1, .List [] p2] G.X.env = (false, eval (.List [] p1) G.X.env) :: starEach [.List [] p2] G.X.env := by rfl) (hst2 : starEach [.List [] p2] G.X.env = (false, eval (.List [] p2) G.X.env) :: starEach [] G.X.env := by rfl) :
    DSR G (.Assign [.Tuple [.Name x px, .Name y py] kt pt] (.Tuple [.List [] p1, .List [] p2] k2 pv) pos) (fun D ρ i => D.nx ((ρ.set n (.own [])).set m (.own [])) i) := by
  refine ⟨⟨_, ps_par hc hN hi hj hij hx hy (pa_cons (pe_lst pa_nil) (pa_cons (pe_lst pa_nil) pa_nil hst2) hst) hw hs, fun S σ H ρ i D Dh g h q => ?_⟩⟩
  refine ⟨by decide, fun a na => ⟨by decide, fun b nb => ?_⟩⟩
  have fr1 := (g.grow (o := .lst []) na).2
  have g1 := g.setOwn (i := n) (s := .own []) na rfl ⟨a, [], rfl, .inr rfl, g.fresh0 na, upd_same, rfl⟩
  have fr2 := (g1.grow (o := .lst []) nb).2
  have g2 := g1.setOwn (i := m) (s := .own []) nb rfl ⟨b, [], rfl, .inr rfl, g1.fresh0 nb, upd_same, rfl⟩
  exact ⟨.ref a, .ref b, rfl, q.nx _ _ _ _ i g2 (Fr.trans fr1 fr2) h⟩
end
end DL
namespace K01
open PySem PySem.Spec PyProof.Rows L2 DL
/-! ### rows that are drawn -/
structure Gud (d : Dat) : Prop where
  ok : OkD d
  nl : noLst d = true
  sho : Sho d 8 8000
theorem noLsts_iff : ∀ {ds : List Dat}, noLsts ds = true ↔ ∀ d ∈ ds, noLst d = true
  | [] => ⟨fun _ _ h => (List.not_mem_nil h).elim, fun _ => rfl⟩
  | d :: ds => by
    rw [noLsts, Bool.and_eq_true, noLsts_iff]
    exact ⟨fun h x hx => (List.mem_cons.mp hx).elim (fun e => e ▸ h.1) (h.2 x), fun h => ⟨h d List.mem_cons_self, fun x hx => h x (List.mem_cons_of_mem _ hx)⟩⟩
structure Gd0 (d : Dat) : Prop where
  ok : OkD d
  nl : noLst d = true
theorem gd0_tup {xs : List Dat} (h : ∀ d ∈ xs, Gd0 d) : Gd0 (.tup xs) := ⟨okD_tup.mpr fun d hd => (h d hd).ok, by rw [noLst]; exact noLsts_iff.mpr fun d hd => (h d hd).nl⟩
theorem gd0_int {i : Int} (h : i.natAbs < 2 ^ 240) : Gd0 (.int i) := ⟨⟨trivial, h⟩, rfl⟩
theorem gd0_str {z : Str} (h : z.length ≤ 10000) : Gd0 (.str z) := ⟨⟨h, trivial⟩, rfl⟩
theorem num_gd {d : Dat} (h : NumOk d) : Gd0 d := by
  have r := num_smR h
  obtain ⟨a, b, rfl, _⟩ := frac_inv h.1
  refine gd0_tup fun x hx => ?_
  simp only [List.mem_cons, List.not_mem_nil, or_false] at hx
  rcases hx with rfl | rfl
  · exact gd0_int r.1
  · exact gd0_int r.2
theorem tb_gd : ∀ (n : Nat) (d : Dat), TB n d → Gd0 d
  | 0, _, h => h.elim
  | n + 1, d, h => by
    rcases h with ⟨x, rfl, hx⟩ | ⟨x, y, rfl, hx, hy⟩
    · refine gd0_tup fun u hu => ?_
      simp only [List.mem_cons, List.not_mem_nil, or_false] at hu
      rcases hu with rfl | rfl
      · exact gd0_str (by decide)
      · exact num_gd hx
    · refine gd0_tup fun u hu => ?_
      simp only [List.mem_cons, List.not_mem_nil, or_false] at hu
      rcases hu with rfl | rfl | rfl
      · exact gd0_str (by decide)
      · exact tb_gd n _ hx
      · exact tb_gd n _ hy
theorem worth_gd {z : Str} {d : Dat} {deep : Nat} (h : WorthV z deep d) : Gd0 d := by
  rcases h with ⟨_, i, rfl, h0, h1⟩ | ⟨_, i, rfl, h0, h1⟩ | ⟨_, h⟩ | ⟨_, xs, rfl, hl, hx, _⟩ | ⟨_, h⟩
  · have : i.natAbs ≤ 10 ^ 30 := by omega
    exact gd0_int (Nat.lt_of_le_of_lt this p30)
  · have : i.natAbs ≤ 16 := by omega
    exact gd0_int (Nat.lt_of_le_of_lt this p16)
  · exact num_gd h
  · exact gd0_tup fun x h => num_gd (hx x h)
  · exact tb_gd deep d h
theorem nameLen {z : Str} (h : isName (.str z) = true) : 1 ≤ z.length ∧ z.length ≤ 6 := by
  have : (decide (1 ≤ z.length) && decide (z.length ≤ 6) && z.cps.toList.all small) = true := h
  simp only [Bool.and_eq_true, decide_eq_true_eq] at this
  exact this.1
theorem name_gd {z : Str} (h : isName (.str z) = true) : Gd0 (.str z) := gd0_str (by have := nameLen h; omega)
theorem sort_gd {z : Str} (h : z ∈ sorts) : Gd0 (.str z) := by
  simp only [sorts, List.mem_cons, List.not_mem_nil, or_false] at h
  rcases h with rfl | rfl | rfl | rfl | rfl <;> exact gd0_str (by decide)
theorem name_sho {z : Str} (h : isName (.str z) = true) {m : Nat} : Sho (.str z) m 6 := sho_str (lay_name h) (nameLen h).2
theorem sort_sho {z : Str} (h : z ∈ sorts) {m : Nat} : Sho (.str z) m 6 := by
  have hl := sort_lay h
  simp only [sorts, List.mem_cons, List.not_mem_nil, or_false] at h
  rcases h with rfl | rfl | rfl | rfl | rfl <;> exact sho_str hl (by decide)
theorem val_of {z : Str} {d : Dat} {deep : Nat} (hz : z ∈ sorts) (h : WorthV z deep d) (hd : deep ≤ 3) : valD d (.str z) = true := by
  unfold valD
  have hs : isSort (.str z) = true := by
    simp only [sorts, List.mem_cons, List.not_mem_nil, or_false] at hz
    rcases hz with rfl | rfl | rfl | rfl | rfl <;> decide
  rw [if_pos hs]
  exact worth_val h hd
/-- a row of names, its name z -/
structure NamOk (z : Str) (d : Dat) : Prop where
  row : rowN d = true
  g : Gud d
  hd : ∃ r, d = .tup (.str z :: r)
structure CalOk (z : Str) (d : Dat) : Prop where
  row : rowC d = true
  g : Gud d
  hd : ∃ r, d = .tup (.str z :: r)
theorem nam_mk {z s : Str} {v : Dat} {deep : Nat} (hz : isName (.str z) = true) (hs : s ∈ sorts) (h : WorthV s deep v) (hd : deep ≤ 3) : NamOk z (.tup [.str z, .str s, v]) := by
  refine ⟨?_, ⟨?_, ?_, ?_⟩, _, rfl⟩
  · show (isName (.str z) && valD v (.str s)) = true
    rw [hz, val_of hs h hd]; rfl
  · refine (gd0_tup fun u hu => ?_).ok
    simp only [List.mem_cons, List.not_mem_nil, or_false] at hu
    rcases hu with rfl | rfl | rfl
    · exact name_gd hz
    · exact sort_gd hs
    · exact worth_gd h
  · refine (gd0_tup fun u hu => ?_).nl
    simp only [List.mem_cons, List.not_mem_nil, or_false] at hu
    rcases hu with rfl | rfl | rfl
    · exact name_gd hz
    · exact sort_gd hs
    · exact worth_gd h
  · refine (Sho.tup (m := 5) (n := 320) (l := 3) (fun u hu => ?_) (by simp)).mono (by decide) (by decide)
    simp only [List.mem_cons, List.not_mem_nil, or_false] at hu
    rcases hu with rfl | rfl | rfl
    · exact (name_sho hz).mono (Nat.le_refl _) (by decide)
    · exact (sort_sho hs).mono (Nat.le_refl _) (by decide)
    · exact worth_sho h hd
/-- a pair of a sort and a value -/
def PairOk (d : Dat) : Prop := ∃ s v, d = .tup [.str s, v] ∧ s ∈ sorts ∧ ∃ deep ≤ 3, WorthV s deep v
theorem pair_ok {d : Dat} (h : PairOk d) : pairC d = true ∧ Gd0 d ∧ Sho d 6 642 := by
  obtain ⟨s, v, rfl, hs, deep, hd, hw⟩ := h
  refine ⟨val_of hs hw hd, gd0_tup fun u hu => ?_, (Sho.tup (m := 5) (n := 320) (l := 2) (fun u hu => ?_) (by simp)).mono (by decide) (by decide)⟩
  · simp only [List.mem_cons, List.not_mem_nil, or_false] at hu
    rcases hu with rfl | rfl
    · exact sort_gd hs
    · exact worth_gd hw
  · simp only [List.mem_cons, List.not_mem_nil, or_false] at hu
    rcases hu with rfl | rfl
    · exact (sort_sho hs).mono (Nat.le_refl _) (by decide)
    · exact worth_sho hw hd
theorem cal_mk {z s : Str} {v : Dat} {ps : List Dat} {deep : Nat} (hz : isName (.str z) = true) (hs : s ∈ sorts) (h : WorthV s deep v) (hd : deep ≤ 3) (hp : ∀ p ∈ ps, PairOk p) (h1 : 1 ≤ ps.length) (h3 : ps.length ≤ 3) : CalOk z (.tup [.str z, .tup ps, .str s, v]) := by
  have hg : Gd0 (.tup [.str z, .tup ps, .str s, v]) := gd0_tup fun u hu => by
    simp only [List.mem_cons, List.not_mem_nil, or_false] at hu
    rcases hu with rfl | rfl | rfl | rfl
    · exact name_gd hz
    · exact gd0_tup fun p q => (pair_ok (hp p q)).2.1
    · exact sort_gd hs
    · exact worth_gd h
  refine ⟨?_, ⟨hg.ok, hg.nl, ?_⟩, _, rfl⟩
  · show (isName (.str z) && valD v (.str s) && decide (1 ≤ ps.length) && decide (ps.length ≤ 3) && ps.all pairC) = true
    rw [hz, val_of hs h hd, decide_eq_true h1, decide_eq_true h3, List.all_eq_true.mpr fun p q => (pair_ok (hp p q)).1]; rfl
  · have hps : Sho (.tup ps) 7 1929 := (Sho.tup (fun p q => (pair_ok (hp p q)).2.2) h3).mono (by decide) (by decide)
    refine (Sho.tup (m := 7) (n := 1929) (l := 4) (fun u hu => ?_) (by simp)).mono (by decide) (by decide)
    simp only [List.mem_cons, List.not_mem_nil, or_false] at hu
    rcases hu with rfl | rfl | rfl | rfl
    · exact (name_sho hz).mono (Nat.le_refl _) (by decide)
    · exact hps
    · exact (sort_sho hs).mono (Nat.le_refl _) (by decide)
    · exact (worth_sho h hd).mono (by decide) (by decide)
theorem kinds_in (n : Nat) : kinds5.getD (n % 5) "thing" ∈ sorts := by
  have h : n % 5 < 5 := Nat.mod_lt _ (by decide)
  match n % 5, h with
  | 0, _ => decide
  | 1, _ => decide
  | 2, _ => decide
  | 3, _ => decide
  | 4, _ => decide
theorem tuple_mk {xs : List Dat} {P : Dat → Prop} (q : P (.tup xs)) : tupleD [.lst xs] P := q
theorem at_name {ws : List Str} {k : Nat} (h : k < ws.length) : atI (ws.map Dat.str) ((k : Nat) : Int) = some (.str ws[k]) := atI_nat (by rw [List.getElem?_map, List.getElem?_eq_getElem h]; rfl)
def conRow : ConS Nat := ⟨fun st n sl P => ∃ (v : V) (ws : List Str) (k : Nat), IsDraw st v ∧ sl = [.raw v, .d (.lst (ws.map Dat.str)), .d (.int (k : Nat))] ∧ (∀ z ∈ ws, isName (.str z) = true) ∧ k < ws.length ∧ n + 1100 < manyDraws ∧ ∀ (z : Str) (d : Dat) (j : Nat), ws[k]? = some z → CalOk z d → j ≤ n + 1100 → P d j,
  fun _ _ _ _ _ ⟨v, ws, k, h0, e, h1, h2, h3, h⟩ m => ⟨v, ws, k, h0, e, h1, h2, h3, fun z d j a b c => m _ _ (h z d j a b c)⟩⟩
theorem kind_use {n : Nat} {P : Dat → Prop} (h : ∀ s ∈ sorts, P (.str s)) : c_law_kind.C [.int (n : Nat)] P (fun _ => False) := conE_use (args := fun a : Nat => [Dat.int (a : Nat)]) n trivial (h _ (kinds_in n))
theorem worth_use {sd : Sta Nat} {n : Nat} {v : V} {s : Str} {P : Dat → Nat → Prop} (hd : IsDraw sd v) (hs : s ∈ sorts) (hn : n + 270 < manyDraws) (h : ∀ d j, WorthV s 3 d → j ≤ n + 270 → P d j) : (conWorth 4).C sd n [.raw v, .d (.str s), .d (.int 3)] P := by
  have hw : wc s 3 ≤ 270 := by
    simp only [sorts, List.mem_cons, List.not_mem_nil, or_false] at hs
    rcases hs with rfl | rfl | rfl | rfl | rfl <;> decide
  have hr : rk s 3 < 4 := by
    simp only [sorts, List.mem_cons, List.not_mem_nil, or_false] at hs
    rcases hs with rfl | rfl | rfl | rfl | rfl <;> decide
  exact ⟨v, s, 3, hd, rfl, hs, by decide, hr, by omega, fun d j hd hj => h d j hd.2 (by omega)⟩
section
variable {P : Program} {w : World} {K : PySem.W.Frag} {mg : Str → Option Value} {base : Heap} {f f2 : Addr} {fd fd2 : FuncData} {k : Nat}
abbrev s__law_call_row : Stmt := topS 42
theorem sc__law_call_row : FnScope ["m", "w", "k", "pairs", "j", "kind"] ["m", "w", "k"] (defScope s__law_call_row) := ⟨rfl, rfl, rfl, by decide +kernel, rfl, by decide +kernel, by decide +kernel⟩
-- calls ['_law_draw', '_law_kind', '_law_worth'] consts []
theorem ok_law_call_row (B : Bt mg) (F__law_draw : CalleeS P w K mg base "_law_draw" k ["m", "top"] conDraw) (F__law_kind : Callee P w K mg base "_law_kind" k ["k"] c_law_kind) (F__law_worth : CalleeS P w K mg base "_law_worth" k ["m", "kind", "deep"] (conWorth 4)) (F : Fun K "_law_call_row" "_law_call_row" s__law_call_row f fd) : FnOk P w K mg base CX0 (k + 1) f fd ["m", "w", "k"] (spS K conRow) := by
  refine fn_pureS F sc__law_call_row (fun st i sl P ⟨v, ws, k, _, e, _⟩ => by rw [e]; rfl) fun cdv A outer s H S hS st i0 h0 hf hr sl R hc => ?_
  have nd := sc__law_call_row.nd
  have gs := gs_self (P := P) (w := w) (K := K) (mg := mg) (base := base) (N := ["m", "w", "k", "pairs", "j", "kind"]) (qual := "_law_call_row") (sc := defScope s__law_call_row) (f := f) (cdv := cdv) (A := A) (outer := outer) (s := s) (hS := hS) (h0 := h0) hf
  refine ⟨_, (dbr_cons (dsr_setOwn 3 dar_nil nd) (dbr_cons (dsr_forRange 4 B.range PassesOwn.never rfl (dar_cons (dr_add (dr_of fun i => de_int) (dr_fnS gs F__law_draw hr (dsl_raw 0 (dsl_d (dr_of fun i => de_int) dsl_nil)) (by omega))) dar_nil) (dbr_cons (dsr_set 5 (dr_fnD F__law_kind hr (dar_cons (dr_fnS gs F__law_draw hr (dsl_raw 0 (dsl_d (dr_of fun i => de_int) dsl_nil)) (by omega)) dar_nil) (by omega)) nd) (dbr_one (dsr_append 3 (dr_tup (dar_cons (dr_of fun i => (de_var 5)) (dar_cons (dr_fnS gs F__law_worth hr (dsl_raw 0 (dsl_d (dr_of fun i => (de_var 5)) (dsl_d (dr_of fun i => de_int) dsl_nil))) (by omega)) dar_nil)))))) nd) (dbr_cons (dsr_set 5 (dr_fnD F__law_kind hr (dar_cons (dr_fnS gs F__law_draw hr (dsl_raw 0 (dsl_d (dr_of fun i => de_int) dsl_nil)) (by omega)) dar_nil) (by omega)) nd) (dbr_one (dsr_freeze (dsr_ret (dr_tup (dar_cons (dr_of fun i => (de_ix (de_var 1) (de_var 2))) (dar_cons (dr_of fun i => (de_tuple B.tuple (da_cons (de_var 3) da_nil))) (dar_cons (dr_of fun i => (de_var 5)) (dar_cons (dr_fnS gs F__law_worth hr (dsl_raw 0 (dsl_d (dr_of fun i => (de_var 5)) (dsl_d (dr_of fun i => de_int) dsl_nil))) (by omega)) dar_nil))))))))))), ?_⟩
  obtain ⟨v, ws, k0, hd, rfl, hws, hk, hn, h⟩ := hc
  (try dsimp only [startS, List.length_cons, List.length_nil, List.set_cons_succ, List.set_cons_zero, List.cons_append, List.nil_append, Nat.reduceAdd, Nat.reduceSub, List.replicate])
  refine ⟨show 0 ≤ sizeLine by decide, ?_⟩
  (try dsimp only [startS, List.length_cons, List.length_nil, List.set_cons_succ, List.set_cons_zero, List.cons_append, List.nil_append, Nat.reduceAdd, Nat.reduceSub, List.replicate])
  refine ⟨fun items ρ j => ∃ (ps : List Dat) (s4 s5 : DL.Slot), ρ = [.raw v, .d (.lst (ws.map Dat.str)), .d (.int (k0 : Nat)), .own ps, s4, s5] ∧ (∀ p ∈ ps, PairOk p) ∧ 1 ≤ ps.length + items.length ∧ ps.length + items.length ≤ 3 ∧ j ≤ i0 + 1 + 271 * ps.length, ?_, fun ρ j hi => ?_, fun d ds ρ j hi => ?_⟩
  · (repeat (first | with_reducible refine rd_here (by with_unfolding_all exact rfl) ?_ | with_reducible refine rdRaw_here (by with_unfolding_all exact rfl) ?_ | with_reducible refine And.intro (by with_unfolding_all decide) ?_ | with_reducible refine isI_mk ?_ | with_reducible refine ownL_here (by with_unfolding_all exact rfl) ?_ | dsimp only))
    refine draw_use (top := 3) hd (by decide) (by decide) (by omega) fun x hx0 hx1 => ?_
    (repeat (first | with_reducible refine rd_here (by with_unfolding_all exact rfl) ?_ | with_reducible refine rdRaw_here (by with_unfolding_all exact rfl) ?_ | with_reducible refine And.intro (by with_unfolding_all decide) ?_ | with_reducible refine isI_mk ?_ | with_reducible refine ownL_here (by with_unfolding_all exact rfl) ?_ | dsimp only))
    rw [addD_int]
    refine ⟨⟨by omega, by omega⟩, [], _, _, rfl, (fun p hp => (List.not_mem_nil hp).elim), ?_, ?_, by simp⟩
    · simp [rints]; omega
    · simp [rints]; omega
  · obtain ⟨ps, s4, s5, rfl, hp, h1, h3, hj⟩ := hi
    simp only [List.length_nil, Nat.add_zero] at h1 h3
    (repeat (first | with_reducible refine rd_here (by with_unfolding_all exact rfl) ?_ | with_reducible refine rdRaw_here (by with_unfolding_all exact rfl) ?_ | with_reducible refine And.intro (by with_unfolding_all decide) ?_ | with_reducible refine isI_mk ?_ | with_reducible refine ownL_here (by with_unfolding_all exact rfl) ?_ | dsimp only))
    refine draw_use (top := 5) hd (by decide) (by decide) (by omega) fun x hx0 hx1 => ?_
    obtain ⟨q, rfl⟩ : ∃ q : Nat, x = (q : Int) := ⟨x.toNat, by omega⟩
    refine kind_use fun s hs => ?_
    (try dsimp only [startS, List.length_cons, List.length_nil, List.set_cons_succ, List.set_cons_zero, List.cons_append, List.nil_append, Nat.reduceAdd, Nat.reduceSub, List.replicate])
    (repeat (first | with_reducible refine rd_here (by with_unfolding_all exact rfl) ?_ | with_reducible refine rdRaw_here (by with_unfolding_all exact rfl) ?_ | with_reducible refine And.intro (by with_unfolding_all decide) ?_ | with_reducible refine isI_mk ?_ | with_reducible refine ownL_here (by with_unfolding_all exact rfl) ?_ | dsimp only))
    refine ix_lst (at_name hk) ?_
    (repeat (first | with_reducible refine rd_here (by with_unfolding_all exact rfl) ?_ | with_reducible refine rdRaw_here (by with_unfolding_all exact rfl) ?_ | with_reducible refine And.intro (by with_unfolding_all decide) ?_ | with_reducible refine isI_mk ?_ | with_reducible refine ownL_here (by with_unfolding_all exact rfl) ?_ | dsimp only))
    refine tuple_mk ?_
    (repeat (first | with_reducible refine rd_here (by with_unfolding_all exact rfl) ?_ | with_reducible refine rdRaw_here (by with_unfolding_all exact rfl) ?_ | with_reducible refine And.intro (by with_unfolding_all decide) ?_ | with_reducible refine isI_mk ?_ | with_reducible refine ownL_here (by with_unfolding_all exact rfl) ?_ | dsimp only))
    refine worth_use hd hs (by omega) fun d j2 hdv hj2 => ?_
    refine ⟨show 4 ≤ sizeLine by decide, ?_⟩
    exact h _ _ j2 (List.getElem?_eq_getElem hk) (cal_mk (hws _ (List.getElem_mem hk)) hs hdv (Nat.le_refl _) hp h1 h3) (by omega)
  · obtain ⟨ps, s4, s5, rfl, hp, h1, h3, hj⟩ := hi
    simp only [List.length_cons] at h1 h3
    (try dsimp only [startS, List.length_cons, List.length_nil, List.set_cons_succ, List.set_cons_zero, List.cons_append, List.nil_append, Nat.reduceAdd, Nat.reduceSub, List.replicate])
    (repeat (first | with_reducible refine rd_here (by with_unfolding_all exact rfl) ?_ | with_reducible refine rdRaw_here (by with_unfolding_all exact rfl) ?_ | with_reducible refine And.intro (by with_unfolding_all decide) ?_ | with_reducible refine isI_mk ?_ | with_reducible refine ownL_here (by with_unfolding_all exact rfl) ?_ | dsimp only))
    refine draw_use (top := 5) hd (by decide) (by decide) (by omega) fun x hx0 hx1 => ?_
    obtain ⟨q, rfl⟩ : ∃ q : Nat, x = (q : Int) := ⟨x.toNat, by omega⟩
    refine kind_use fun s hs => ?_
    (try dsimp only [startS, List.length_cons, List.length_nil, List.set_cons_succ, List.set_cons_zero, List.cons_append, List.nil_append, Nat.reduceAdd, Nat.reduceSub, List.replicate])
    (repeat (first | with_reducible refine rd_here (by with_unfolding_all exact rfl) ?_ | with_reducible refine rdRaw_here (by with_unfolding_all exact rfl) ?_ | with_reducible refine And.intro (by with_unfolding_all decide) ?_ | with_reducible refine isI_mk ?_ | with_reducible refine ownL_here (by with_unfolding_all exact rfl) ?_ | dsimp only))
    refine worth_use hd hs (by omega) fun d2 j2 hdv hj2 => ?_
    refine ⟨by decide, Nat.lt_of_le_of_lt (show ps.length ≤ 3 by omega) (by decide), ps ++ [.tup [.str s, d2]], _, _, rfl, fun p hpm => ?_, ?_, ?_, ?_⟩
    · rcases List.mem_append.mp hpm with z | z
      · exact hp p z
      · rw [List.mem_singleton.mp z]; exact ⟨s, d2, rfl, hs, 3, Nat.le_refl _, hdv⟩
    · simp only [List.length_append, List.length_singleton]; omega
    · simp only [List.length_append, List.length_singleton]; omega
    · simp only [List.length_append, List.length_singleton]; omega
end
end K01
namespace K01
open PySem PySem.Spec PyProof.Rows L2 DL
/-! ### three rows of rows -/
structure ThreeOk (ws : List Str) (A B C : List Dat) : Prop where
  a : ∀ d ∈ A, ∃ z, NamOk z d
  ah : A.map headD = (ws.take A.length).map Dat.str
  al : A.length ≤ 8
  b : ∀ d ∈ B, ∃ z ∈ ws.take 4, CalOk z d
  bh : (B.map fun d => codeD (frontD d)).Nodup
  bl : B.length ≤ 8
  c : C.Sublist (ws.map Dat.str)
def conThree : ConS Nat := ⟨fun st n sl P => ∃ (v : V) (ws : List Str), IsDraw st v ∧ sl = [.raw v, .d (.lst (ws.map Dat.str))] ∧ (∀ z ∈ ws, isName (.str z) = true) ∧ ws.length = 20 ∧ n + 12000 < manyDraws ∧ ∀ (A B C : List Dat) (j : Nat), ThreeOk ws A B C → j ≤ n + 12000 → P (.lst [.lst A, .lst B, .lst C]) j,
  fun _ _ _ _ _ ⟨v, ws, h0, e, h1, h2, h3, h⟩ m => ⟨v, ws, h0, e, h1, h2, h3, fun A B C j a b => m _ _ (h A B C j a b)⟩⟩
theorem cal_four {z : Str} {d : Dat} (h : CalOk z d) : ∃ ps s v, d = .tup [.str z, .tup ps, s, v] := by
  obtain ⟨n, ps, s, v, rfl, _⟩ := rowC_inv h.row
  obtain ⟨r, e⟩ := h.hd
  cases e
  exact ⟨ps, s, v, rfl⟩
theorem front_use {z : Str} {d : Dat} {P : Dat → Prop} (h : CalOk z d) (q : P (frontD d)) : slD d none (some 3) P := by
  obtain ⟨ps, s, v, rfl⟩ := cal_four h
  rw [slD_tup, show (3 : Int) = ((3 : Nat) : Int) from rfl, cut_to _ 3 (by simp)]
  exact q
theorem front_sho {z : Str} {d : Dat} (h : CalOk z d) : Lay (frontD d) ∧ (toP (frontD d)).depth ≤ 45 := by
  have l := ld_rowC h.row
  have lx := layC h.row
  refine ⟨lx.1, ?_⟩
  obtain ⟨n, ps, s, v, rfl, h1, h2, _, _, h3⟩ := rowC_inv h.row
  have : LD (.tup [n, .tup ps, s]) 45 := ld_three (ld_of_name h1) ((LD.tup fun p hp => ld_pairC (h3 p hp)).mono (by decide)) ((ld_sv h2).1.mono (by decide))
  exact this.2
theorem fronts_shaped {ws : List Str} {B : List Dat} (h : ∀ d ∈ B, ∃ z ∈ ws, CalOk z d) : SeqAt.shaped (toP (.lst (B.map frontD))) = true := by
  refine shaped_of ?_ ?_
  · refine lay_lst.mpr fun d hd => ?_
    obtain ⟨x, hx, rfl⟩ := List.mem_map.mp hd
    obtain ⟨z, _, hz⟩ := h x hx
    exact (front_sho hz).1
  · rw [toP, PyData.depth]
    have := depths_le (ds := B.map frontD) (m := 45) fun d hd => by
      obtain ⟨x, hx, rfl⟩ := List.mem_map.mp hd
      obtain ⟨z, _, hz⟩ := h x hx
      exact (front_sho hz).2
    omega
theorem rints_get {lo : Int} {n q : Nat} {d : Dat} (h : (rints lo n)[q]? = some d) : d = .int (lo + (q : Int)) ∧ q < n := by
  unfold rints at h
  rw [List.getElem?_map] at h
  by_cases c : q < n
  · rw [List.getElem?_range c] at h
    exact ⟨(Option.some.inj h).symm, c⟩
  · rw [List.getElem?_eq_none (by simp; omega)] at h
    cases h
section
variable {P : Program} {w : World} {K : PySem.W.Frag} {mg : Str → Option Value} {base : Heap} {f f2 : Addr} {fd fd2 : FuncData} {k : Nat}
abbrev s__law_three : Stmt := topS 43
theorem sc__law_three : FnScope ["m", "w", "first", "second", "k", "kind", "row", "old"] ["m", "w"] (defScope s__law_three) := ⟨rfl, rfl, rfl, by decide +kernel, rfl, by decide +kernel, by decide +kernel⟩
-- calls ['_law_draw', '_law_kind', '_law_worth', '_law_call_row'] consts []
theorem ok_law_three (B : Bt mg) (F__law_draw : CalleeS P w K mg base "_law_draw" k ["m", "top"] conDraw) (F__law_kind : Callee P w K mg base "_law_kind" k ["k"] c_law_kind) (F__law_worth : CalleeS P w K mg base "_law_worth" k ["m", "kind", "deep"] (conWorth 4)) (F__law_call_row : CalleeS P w K mg base "_law_call_row" k ["m", "w", "k"] conRow) (F : Fun K "_law_three" "_law_three" s__law_three f fd) : FnOk P w K mg base CX0 (k + 1) f fd ["m", "w"] (spS K conThree) := by
  refine fn_pureS F sc__law_three (fun st i sl P ⟨v, ws, _, e, _⟩ => by rw [e]; rfl) fun cdv A outer s H S hS st i0 h0 hf hr sl R hc => ?_
  have nd := sc__law_three.nd
  have gs := gs_self (P := P) (w := w) (K := K) (mg := mg) (base := base) (N := ["m", "w", "first", "second", "k", "kind", "row", "old"]) (qual := "_law_three") (sc := defScope s__law_three) (f := f) (cdv := cdv) (A := A) (outer := outer) (s := s) (hS := hS) (h0 := h0) hf
  refine ⟨_, (dbr_cons (dsr_parOwnL 2 3 nd) (dbr_cons (dsr_forRange 4 B.range PassesOwn.never rfl (dar_cons (dr_fnS gs F__law_draw hr (dsl_raw 0 (dsl_d (dr_of fun i => de_int) dsl_nil)) (by omega)) dar_nil) (dbr_cons (dsr_set 5 (dr_fnD F__law_kind hr (dar_cons (dr_fnS gs F__law_draw hr (dsl_raw 0 (dsl_d (dr_of fun i => de_int) dsl_nil)) (by omega)) dar_nil) (by omega)) nd) (dbr_one (dsr_append 2 (dr_tup (dar_cons (dr_of fun i => (de_ix (de_var 1) (de_var 4))) (dar_cons (dr_of fun i => (de_var 5)) (dar_cons (dr_fnS gs F__law_worth hr (dsl_raw 0 (dsl_d (dr_of fun i => (de_var 5)) (dsl_d (dr_of fun i => de_int) dsl_nil))) (by omega)) dar_nil))))))) nd) (dbr_cons (dsr_forRange 4 B.range PassesOwn.never rfl (dar_cons (dr_fnS gs F__law_draw hr (dsl_raw 0 (dsl_d (dr_of fun i => de_int) dsl_nil)) (by omega)) dar_nil) (dbr_cons (dsr_set 6 (dr_fnS gs F__law_call_row hr (dsl_raw 0 (dsl_d (dr_of fun i => (de_var 1)) (dsl_d (dr_fnS gs F__law_draw hr (dsl_raw 0 (dsl_d (dr_of fun i => de_int) dsl_nil)) (by omega)) dsl_nil))) (by omega)) nd) (dbr_one (dsr_if (dtr_of fun i => (dt_frz (dt_ninD (hu65 hr) (de_sl (de_var 6) do_none (do_some de_int)) (de_lc 7 (x := "old") rfl nd (di_seq (de_var 3)) (blkOk_by (own := [("old", 7)]) (N := ["m", "w", "first", "second", "k", "kind", "row", "old"]) (sc := defScope s__law_three) (by decide +kernel)) (fun _ _ _ _ _ => pg_name (i := 7) nd rfl (Or.inl rfl)) (fun _ _ _ _ _ => dts_nil) (fun _ _ _ _ _ => (de_sl (de_var 7) do_none (do_some de_int))))))) (dbr_one (dsr_of fun i => (ds_append 3 (he := (de_var 6))))) dbr_nil))) nd) (dbr_one (dsr_freeze (dsr_ret (dr_lst (dar_cons (dr_of fun i => (de_var 2)) (dar_cons (dr_of fun i => (de_var 3)) (dar_cons (dr_lcT 4 (x := "k") rfl nd (dir_range B.range (dar_cons (dr_of fun i => de_int) dar_nil)) (blkOk_by (own := [("k", 4)]) (N := ["m", "w", "first", "second", "k", "kind", "row", "old"]) (sc := defScope s__law_three) (by decide +kernel)) (fun _ _ _ _ _ => pg_name (i := 4) nd rfl (Or.inl rfl)) (fun _ _ _ _ _ => (dtr_eq hr.units (dr_fnS (gs_blk gs) F__law_draw hr (dsl_raw 0 (dsl_d (dr_of fun i => de_int) dsl_nil)) (by omega)) (dr_of fun i => de_int))) (fun _ _ _ _ _ => (dr_of fun i => (de_ix (de_var 1) (de_var 4))))) dar_nil)))))))))), ?_⟩
  obtain ⟨v, ws, hd, rfl, hws, hlen, hn, h⟩ := hc
  (try dsimp only [startS, List.length_cons, List.length_nil, List.set_cons_succ, List.set_cons_zero, List.cons_append, List.nil_append, Nat.reduceAdd, Nat.reduceSub, List.replicate])
  refine ⟨fun items ρ j => ∃ (rows : List Dat) (s4 s5 : DL.Slot), ρ = [.raw v, .d (.lst (ws.map Dat.str)), .own rows, .own [], s4, s5, .un, .un] ∧ (∀ d ∈ rows, ∃ z, NamOk z d) ∧ rows.map headD = (ws.take rows.length).map Dat.str ∧ (∀ (q : Nat) (d : Dat), items[q]? = some d → d = .int ((rows.length + q : Nat) : Int)) ∧ rows.length + items.length ≤ 8 ∧ j ≤ i0 + 1 + 271 * rows.length, ?_, fun ρ j hi => ?_, fun d ds ρ j hi => ?_⟩
  · (repeat (first | with_reducible refine rd_here (by with_unfolding_all exact rfl) ?_ | with_reducible refine rdRaw_here (by with_unfolding_all exact rfl) ?_ | with_reducible refine And.intro (by with_unfolding_all decide) ?_ | with_reducible refine isI_mk ?_ | with_reducible refine ownL_here (by with_unfolding_all exact rfl) ?_ | dsimp only))
    refine draw_use (top := 9) hd (by decide) (by decide) (by omega) fun x hx0 hx1 => ?_
    refine ⟨⟨by omega, by omega⟩, [], _, _, rfl, (fun p hp => (List.not_mem_nil hp).elim), rfl, fun q d hq => ?_, ?_, by simp⟩
    · have := (rints_get hq).1
      rw [this]
      simp
    · simp [rints]; omega
  rotate_left
  · obtain ⟨rows, s4, s5, rfl, hr, hh, hit, hl, hj⟩ := hi
    have e0 := hit 0 d rfl
    subst e0
    simp only [List.length_cons] at hl
    have hk : rows.length < ws.length := by omega
    (try dsimp only [startS, List.length_cons, List.length_nil, List.set_cons_succ, List.set_cons_zero, List.cons_append, List.nil_append, Nat.reduceAdd, Nat.reduceSub, List.replicate])
    (repeat (first | with_reducible refine rd_here (by with_unfolding_all exact rfl) ?_ | with_reducible refine rdRaw_here (by with_unfolding_all exact rfl) ?_ | with_reducible refine And.intro (by with_unfolding_all decide) ?_ | with_reducible refine isI_mk ?_ | with_reducible refine ownL_here (by with_unfolding_all exact rfl) ?_ | dsimp only))
    refine draw_use (top := 5) hd (by decide) (by decide) (by omega) fun x hx0 hx1 => ?_
    obtain ⟨q, rfl⟩ : ∃ q : Nat, x = (q : Int) := ⟨x.toNat, by omega⟩
    refine kind_use fun s hs => ?_
    (try dsimp only [startS, List.length_cons, List.length_nil, List.set_cons_succ, List.set_cons_zero, List.cons_append, List.nil_append, Nat.reduceAdd, Nat.reduceSub, List.replicate])
    (repeat (first | with_reducible refine rd_here (by with_unfolding_all exact rfl) ?_ | with_reducible refine rdRaw_here (by with_unfolding_all exact rfl) ?_ | with_reducible refine And.intro (by with_unfolding_all decide) ?_ | with_reducible refine isI_mk ?_ | with_reducible refine ownL_here (by with_unfolding_all exact rfl) ?_ | dsimp only))
    refine ix_lst (at_name hk) ?_
    (repeat (first | with_reducible refine rd_here (by with_unfolding_all exact rfl) ?_ | with_reducible refine rdRaw_here (by with_unfolding_all exact rfl) ?_ | with_reducible refine And.intro (by with_unfolding_all decide) ?_ | with_reducible refine isI_mk ?_ | with_reducible refine ownL_here (by with_unfolding_all exact rfl) ?_ | dsimp only))
    refine worth_use hd hs (by omega) fun d2 j2 hdv hj2 => ?_
    refine ⟨by decide, Nat.lt_of_le_of_lt (show rows.length ≤ 8 by omega) (by decide), rows ++ [_], _, _, rfl, fun y hy => ?_, ?_, fun q2 d3 hq => ?_, ?_, ?_⟩
    · rcases List.mem_append.mp hy with z | z
      · exact hr y z
      · rw [List.mem_singleton.mp z]
        exact ⟨_, nam_mk (hws _ (List.getElem_mem hk)) hs hdv (Nat.le_refl _)⟩
    · rw [List.map_append, hh, List.length_append, List.length_singleton, List.take_add_one, List.getElem?_eq_getElem hk, List.map_append]
      rfl
    · have := hit (q2 + 1) d3 (by simpa using hq)
      rw [this, List.length_append, List.length_singleton]
      congr 2
      omega
    · rw [List.length_append, List.length_singleton]; omega
    · rw [List.length_append, List.length_singleton]; omega
  obtain ⟨A0, s4, s5, rfl, hA, hAh, _, hAl, hj⟩ := hi
  simp only [List.length_nil, Nat.add_zero] at hAl
  refine ⟨fun items ρ j2 => ∃ (rows : List Dat) (s4 s6 : DL.Slot), ρ = [.raw v, .d (.lst (ws.map Dat.str)), .own A0, .own rows, s4, s5, s6, .un] ∧ (∀ d ∈ rows, ∃ z ∈ ws.take 4, CalOk z d) ∧ (rows.map fun d => codeD (frontD d)).Nodup ∧ rows.length + items.length ≤ 8 ∧ j2 + 1101 * items.length ≤ j + 1 + 1101 * 8, ?_, fun ρ j2 hi => ?_, fun d ds ρ j2 hi => ?_⟩
  · (repeat (first | with_reducible refine rd_here (by with_unfolding_all exact rfl) ?_ | with_reducible refine rdRaw_here (by with_unfolding_all exact rfl) ?_ | with_reducible refine And.intro (by with_unfolding_all decide) ?_ | with_reducible refine isI_mk ?_ | with_reducible refine ownL_here (by with_unfolding_all exact rfl) ?_ | dsimp only))
    refine draw_use (top := 9) hd (by decide) (by decide) (by omega) fun x hx0 hx1 => ?_
    refine ⟨⟨by omega, by omega⟩, [], _, _, rfl, (fun p hp => (List.not_mem_nil hp).elim), List.nodup_nil, ?_, ?_⟩
    · simp [rints]; omega
    · simp [rints]; omega
  rotate_left
  · obtain ⟨rows, s4, s6, rfl, hr, hh, hl, hj2⟩ := hi
    simp only [List.length_cons] at hl hj2
    (try dsimp only [startS, List.length_cons, List.length_nil, List.set_cons_succ, List.set_cons_zero, List.cons_append, List.nil_append, Nat.reduceAdd, Nat.reduceSub, List.replicate])
    (repeat (first | with_reducible refine rd_here (by with_unfolding_all exact rfl) ?_ | with_reducible refine rdRaw_here (by with_unfolding_all exact rfl) ?_ | with_reducible refine And.intro (by with_unfolding_all decide) ?_ | with_reducible refine isI_mk ?_ | with_reducible refine ownL_here (by with_unfolding_all exact rfl) ?_ | dsimp only))
    refine draw_use (top := 4) hd (by decide) (by decide) (by omega) fun x hx0 hx1 => ?_
    obtain ⟨q, rfl⟩ : ∃ q : Nat, x = (q : Int) := ⟨x.toNat, by omega⟩
    refine ⟨v, ws, q, hd, rfl, hws, by omega, by omega, fun z row j3 hz hrow hj3 => ?_⟩
    have hz4 : z ∈ ws.take 4 := by
      have : (ws.take 4)[q]? = some z := by rw [List.getElem?_take, if_pos (by omega)]; exact hz
      exact List.mem_of_getElem? this
    (try dsimp only [startS, List.length_cons, List.length_nil, List.set_cons_succ, List.set_cons_zero, List.cons_append, List.nil_append, Nat.reduceAdd, Nat.reduceSub, List.replicate])
    refine ⟨fun b j4 => j4 = j3 ∧ b = !((toPs (rows.map frontD)).any fun y => PyData.eqv y (toP (frontD row))), ?_, fun j4 hb => ?_, fun j4 hb => ?_⟩
    · dsimp only [List.map_cons, DL.Slot.freeze]
      (repeat (first | with_reducible refine rd_here (by with_unfolding_all exact rfl) ?_ | with_reducible refine rdRaw_here (by with_unfolding_all exact rfl) ?_ | with_reducible refine And.intro (by with_unfolding_all decide) ?_ | with_reducible refine isI_mk ?_ | with_reducible refine ownL_here (by with_unfolding_all exact rfl) ?_ | dsimp only))
      refine front_use hrow ?_
      (repeat (first | with_reducible refine rd_here (by with_unfolding_all exact rfl) ?_ | with_reducible refine rdRaw_here (by with_unfolding_all exact rfl) ?_ | with_reducible refine And.intro (by with_unfolding_all decide) ?_ | with_reducible refine isI_mk ?_ | with_reducible refine ownL_here (by with_unfolding_all exact rfl) ?_ | dsimp only))
      rw [seqOf_lst]
      refine compF_map (f := frontD) (fun x hx Q q => ?_) (by have := line_big; simp; omega) ?_
      · obtain ⟨z2, _, hz2⟩ := hr x hx
        (try dsimp only [startS, List.length_cons, List.length_nil, List.set_cons_succ, List.set_cons_zero, List.cons_append, List.nil_append, Nat.reduceAdd, Nat.reduceSub, List.replicate])
        (repeat (first | with_reducible refine rd_here (by with_unfolding_all exact rfl) ?_ | with_reducible refine rdRaw_here (by with_unfolding_all exact rfl) ?_ | with_reducible refine And.intro (by with_unfolding_all decide) ?_ | with_reducible refine isI_mk ?_ | with_reducible refine ownL_here (by with_unfolding_all exact rfl) ?_ | dsimp only))
        exact front_use hz2 q
      · rw [List.nil_append]
        exact ⟨shaped_of (front_sho hrow).1 (Nat.le_trans (front_sho hrow).2 (by decide)), fronts_shaped hr, rfl, rfl⟩
    · obtain ⟨rfl, hb⟩ := hb
      have hnot : ((toPs (rows.map frontD)).any fun y => PyData.eqv y (toP (frontD row))) = false := by simpa using hb.symm
      (repeat (first | with_reducible refine rd_here (by with_unfolding_all exact rfl) ?_ | with_reducible refine rdRaw_here (by with_unfolding_all exact rfl) ?_ | with_reducible refine And.intro (by with_unfolding_all decide) ?_ | with_reducible refine isI_mk ?_ | with_reducible refine ownL_here (by with_unfolding_all exact rfl) ?_ | dsimp only))
      refine ⟨Nat.lt_of_le_of_lt (show rows.length ≤ 8 by omega) (by decide), rows ++ [row], _, _, rfl, fun y hy => ?_, ?_, ?_, ?_⟩
      · rcases List.mem_append.mp hy with e | e
        · exact hr y e
        · rw [List.mem_singleton.mp e]; exact ⟨z, hz4, hrow⟩
      · rw [List.map_append, List.nodup_append]
        refine ⟨hh, by simp, fun c hc c2 hc2 e => ?_⟩
        rw [List.map_cons, List.map_nil, List.mem_singleton] at hc2
        obtain ⟨x, hx, rfl⟩ := List.mem_map.mp hc
        obtain ⟨z2, _, hz2⟩ := hr x hx
        have e2 := (code_eqv (front_sho hz2).1 (front_sho hrow).1).mpr (e.trans hc2)
        rw [toPs_map, List.map_map] at hnot
        have := List.any_eq_false.mp hnot (toP (frontD x)) (List.mem_map.mpr ⟨x, hx, rfl⟩)
        exact this e2
      · rw [List.length_append, List.length_singleton]; omega
      · omega
    · obtain ⟨rfl, hb⟩ := hb
      exact ⟨rows, _, _, rfl, hr, hh, by omega, by omega⟩
  obtain ⟨B0, s4, s6, rfl, hB, hBh, hBl, hj2⟩ := hi
  simp only [List.length_nil, Nat.add_zero, Nat.mul_zero] at hBl hj2
  (try dsimp only [startS, List.length_cons, List.length_nil, List.set_cons_succ, List.set_cons_zero, List.cons_append, List.nil_append, Nat.reduceAdd, Nat.reduceSub, List.replicate])
  (repeat (first | with_reducible refine rd_here (by with_unfolding_all exact rfl) ?_ | with_reducible refine rdRaw_here (by with_unfolding_all exact rfl) ?_ | with_reducible refine And.intro (by with_unfolding_all decide) ?_ | with_reducible refine isI_mk ?_ | with_reducible refine ownL_here (by with_unfolding_all exact rfl) ?_ | dsimp only))
  refine ⟨fun items acc j3 => ∃ n : Nat, items = rints (n : Int) (20 - n) ∧ n ≤ 20 ∧ acc.Sublist ((ws.take n).map Dat.str) ∧ j3 ≤ j2 + n, ?_, fun acc j3 hi => ?_, fun d ds acc j3 hi => ?_⟩
  · exact ⟨⟨by decide, by decide⟩, 0, rfl, by decide, List.Sublist.refl _, Nat.le_refl _⟩
  · obtain ⟨n, he, hn20, hs, hj3⟩ := hi
    have hn : n = 20 := by
      have := congrArg List.length he
      simp [rints] at this
      omega
    subst hn
    rw [List.take_of_length_le (by omega)] at hs
    exact ⟨by decide, h A0 B0 acc j3 ⟨hA, hAh, hAl, hB, hBh, hBl, hs⟩ (by omega)⟩
  · obtain ⟨n, he, hn20, hs, hj3⟩ := hi
    have hlt : n < 20 := by
      have := congrArg List.length he
      simp [rints] at this
      omega
    obtain ⟨rfl, rfl⟩ : d = .int (n : Int) ∧ ds = rints ((n + 1 : Nat) : Int) (20 - (n + 1)) := by
      rw [show 20 - n = (20 - (n + 1)) + 1 by omega, rints_cons] at he
      obtain ⟨e1, e2⟩ := List.cons.inj he
      exact ⟨e1, e2⟩
    have hk : n < ws.length := by omega
    have step : (ws.take (n + 1)).map Dat.str = (ws.take n).map Dat.str ++ [.str ws[n]] := by rw [List.take_add_one, List.getElem?_eq_getElem hk, List.map_append]; rfl
    dsimp only [List.map_cons, List.map_nil, DL.Slot.freeze]
    (try dsimp only [startS, List.length_cons, List.length_nil, List.set_cons_succ, List.set_cons_zero, List.cons_append, List.nil_append, Nat.reduceAdd, Nat.reduceSub, List.replicate])
    (repeat (first | with_reducible refine rd_here (by with_unfolding_all exact rfl) ?_ | with_reducible refine rdRaw_here (by with_unfolding_all exact rfl) ?_ | with_reducible refine And.intro (by with_unfolding_all decide) ?_ | with_reducible refine isI_mk ?_ | with_reducible refine ownL_here (by with_unfolding_all exact rfl) ?_ | dsimp only))
    refine draw_use (top := 3) hd (by decide) (by decide) (by omega) fun x hx0 hx1 => ?_
    rw [eqD_int, isB_bl]
    have hacc : acc.length ≤ 20 := Nat.le_trans hs.length_le (by rw [List.length_map, List.length_take]; omega)
    by_cases c : x = 0
    · rw [decide_eq_true c, if_pos rfl]
      (repeat (first | with_reducible refine rd_here (by with_unfolding_all exact rfl) ?_ | with_reducible refine rdRaw_here (by with_unfolding_all exact rfl) ?_ | with_reducible refine And.intro (by with_unfolding_all decide) ?_ | with_reducible refine isI_mk ?_ | with_reducible refine ownL_here (by with_unfolding_all exact rfl) ?_ | dsimp only))
      refine ix_lst (at_name hk) ?_
      exact ⟨Nat.lt_of_le_of_lt hacc (by decide), n + 1, rfl, hlt, by rw [step]; exact hs.append_right _, by omega⟩
    · rw [decide_eq_false c, if_neg (by decide)]
      exact ⟨n + 1, rfl, hlt, by rw [step]; exact hs.trans (List.sublist_append_left _ _), by omega⟩
end
end K01
namespace K01
open PySem PySem.Spec PyProof.Rows L2 DL
/-! ### Model by three names, the first last; Model() -/
def rot {α : Type} (l : List α) : List α := l.drop 1 ++ l.take 1
theorem vals_rot {vs : List V} {us : List Value} (h : Vals vs us) : Vals (rot vs) (rot us) := by
  cases h with
  | nil => exact .nil
  | @cons v0 u0 vs0 us0 r t => exact (show Vals vs0 us0 from t).append (.cons r .nil)
theorem dvl_three {K : PySem.W.Frag} {S : Addr → Prop} {H : Hp} {ds : List Dat} {v u w : V} (h : DvL K S H ds [v, u, w]) : ∃ d e g, ds = [d, e, g] ∧ Dv K S H d v ∧ Dv K S H e u ∧ Dv K S H g w := by
  match ds, h with
  | [], h => cases h
  | d :: ds, ⟨x, r, e, h1, h2⟩ => cases e; obtain ⟨d2, d3, rfl, h3, h4⟩ := dvl_two h2; exact ⟨d, d2, d3, rfl, h1, h3, h4⟩
section
variable {P : Program} {w : World} {K : PySem.W.Frag} {mg : Str → Option Value} {base : Heap} {f C CB : Addr} {fd : FuncData} {k : Nat} {v a b : V} {CI : ConI}
theorem kb_pnc (F : FunD K "__init__" "Model.__init__" (defArgs s_Model___init__) (defBody s_Model___init__) (defScope s_Model___init__) [v] [("calls", a), ("props", b)] f fd) :
    ∃ its mv : List Value, KBn K fd ["self", "names", "calls", "props"] 1 ["props", "names", "calls"] (fun us ws => us ++ rot ws) (fun vs zs => vs ++ rot zs) :=
  F.kbinds 1 ["props", "names", "calls"] [] (fun us its mv ws => us ++ rot ws) (by simp) (by simp) (fun q h => by cases h) (fun r1 r2 r3 r4 => (r1.append (vals_rot r4))) fun T D doc pm an cdv ct us its mv ws l1 l2 l3 l4 => by
    match us, its, mv, ws, l1, l2, l3, l4 with
    | [u0], [d0], [], [w0, w1, w2], _, _, _, _ => exact ⟨_, rfl, rfl⟩
theorem mkc_pnc (M : ModelK K mg C f fd v a b) (F : FnOk P w K mg base (L2.CX P w) k f fd ["self", "names", "calls", "props"] (spNew K C CI)) : MkC P w K mg base "Model" k C CI 0 ["props", "names", "calls"] (fun us zs => us ++ rot zs) := by
  obtain ⟨its, mv, h⟩ := kb_pnc M.F
  refine ⟨⟨f, fd, _, M.mkC, M.mgC, F, _, _, fun vs zs => vs ++ rot zs, h, fun x vs zs _ _ => rfl, fun S H ds es vs zs hd he l1 l2 => ?_⟩⟩
  match vs, zs, l1, l2 with
  | [], [y0, y1, y2], _, _ =>
    have := dvl_no hd; subst this
    obtain ⟨e0, e1, e2, rfl, he0, he1, he2⟩ := dvl_three he
    exact dvl1 he1 (dvl1 he2 (dvl1 he0 rfl))
theorem kb_none (F : FunD K "__init__" "Model.__init__" (defArgs s_Model___init__) (defBody s_Model___init__) (defScope s_Model___init__) [v] [("calls", a), ("props", b)] f fd) :
    ∃ its mv : List Value, KBn K fd ["self", "names", "calls", "props"] 1 [] (fun us ws => us ++ its ++ mv) (fun vs zs => vs ++ [v] ++ [a, b]) :=
  F.kbinds 1 [] [("calls", a), ("props", b)] (fun us its mv ws => us ++ its ++ mv) (by simp) (by simp) (fun q h => h) (fun r1 r2 r3 r4 => ((r1.append r2).append r3)) fun T D doc pm an cdv ct us its mv ws l1 l2 l3 l4 => by
    match us, its, mv, ws, l1, l2, l3, l4 with
    | [u0], [d0], [m0, m1], [], _, _, _, _ => exact ⟨_, rfl, _, _, _, _, _, _, rfl, rfl, _, _, _, _, _, _, rfl, rfl, rfl⟩
theorem mkc_none (M : ModelK K mg C f fd v a b) (F : FnOk P w K mg base (L2.CX P w) k f fd ["self", "names", "calls", "props"] (spNew K C CI)) : MkC P w K mg base "Model" k C CI 0 [] (fun us zs => us ++ [t0] ++ [t0, t0]) := by
  obtain ⟨its, mv, h⟩ := kb_none M.F
  refine ⟨⟨f, fd, _, M.mkC, M.mgC, F, _, _, fun vs zs => vs ++ [v] ++ [a, b], h, fun x vs zs _ _ => rfl, fun S H ds es vs zs hd he l1 l2 => ?_⟩⟩
  match vs, zs, l1, l2 with
  | [], [], _, _ =>
    have := dvl_no hd; subst this
    have := dvl_no he; subst this
    exact dvl1 (M.wv S H) (dvl1 (M.wa S H) (dvl1 (M.wb S H) rfl))
end
end K01
namespace DL
open PySem PySem.Spec PyProof.Rows L2
section
variable {ι : Type} {G : Fam ι} {pos : Pos} {e : Expr}
end
end DL
namespace K01
open PySem PySem.Spec PyProof.Rows L2 DL
/-! ### what is told, told again: _law_right -/
def conToldR : ConS Nat := ⟨fun st n sl P => ∃ (v v3 : V) (ws : List Str) (A B C : List Dat), IsDraw st v ∧ sl = [.raw v, .cus false (knownX v3 (.lst [.lst A, .lst B, .lst C]))] ∧ (∀ z ∈ ws, isName (.str z) = true) ∧ ws.length = 20 ∧ ws.Nodup ∧ ThreeOk ws A B C ∧ n + 100 < manyDraws ∧ ∀ j : Nat, j ≤ n + 100 → P (.bl true) j,
  fun _ _ _ _ _ ⟨v, v3, ws, A, B, C, h0, e, h1, h2, h3, h4, h5, h⟩ m => ⟨v, v3, ws, A, B, C, h0, e, h1, h2, h3, h4, h5, fun j a => m _ _ (h j a)⟩⟩
def HandedOf (xs : List Dat) (d : Dat) : Prop := ∃ ys, ys.Perm xs ∧ (d = .lst ys ∨ d = .tup ys)
theorem handed_use {sd : Sta Nat} {n : Nat} {v : V} {xs : List Dat} {P : Dat → Nat × Unit → Prop} (hd : IsDraw sd v) (hl : xs.length ≤ 1000) (hld : ∀ x ∈ xs, LD x 50) (hn : n + xs.length + 1 < manyDraws) (h : ∀ r j', HandedOf xs r → j'.1 ≤ n + xs.length + 1 → P r j') :
    ∀ q us, ¬ sd.fp q → conHanded.C (staAnd sd (heldSta q us)) (n, ()) [.raw v, .cus false (lentX q us xs)] P := fun q us hq =>
  ⟨v, sd, q, us, xs, hd, rfl, hq, rfl, hl, hld, hn, fun ys r j hp hr hj => h r j ⟨ys, hp, hr⟩ hj⟩
theorem repr_use {xs : List Dat} {m n : Nat} {P : Dat → Prop} (h : Sho (.lst xs) m n) (hm : m ≤ 60) (hn : n ≤ 200000) (q : P (.str (toP (.lst xs)).shown)) : reprD [.lst xs] P := by
  obtain ⟨a, b, c, d, e⟩ := h.okRepr hm hn
  exact ⟨a, b, c, d, e, q⟩
theorem rows_use {CB : Addr} {r : Dat → Bool} {κ : Dat → Dat} {what : Str} {d : Dat} {us : List Dat} {P : Dat → Prop} {X : Exc → Prop} (hd : HandedOf us d) (hok : ∀ x ∈ us, OkD x) (hr : ∀ x ∈ us, r x = true) (hn : (us.map fun x => codeD (κ x)).Nodup) (hl : us.length ≤ 1000)
    (q : ∀ es : List Dat, es.Perm us → srtP (toPs es) → P (.tup es)) : (c_rowsOf CB r κ what).C [d] P X := by
  obtain ⟨ys, hp, hd⟩ := hd
  have hi : itemsOf d = ys := by rcases hd with rfl | rfl <;> rfl
  have hok2 : ∀ x ∈ ys, OkD x := fun x hx => hok x (hp.mem_iff.mp hx)
  have hB : rowsB r d = true := by
    have : ys.all r = true := List.all_eq_true.mpr fun x hx => hr x (hp.mem_iff.mp hx)
    rcases hd with rfl | rfl <;> exact this
  refine ⟨d, rfl, ?_, ?_, ?_, fun z => ?_, fun _ z => ?_, fun _ _ es h1 h2 => ?_⟩
  · rcases hd with rfl | rfl
    · exact okD_lst.mpr hok2
    · exact okD_tup.mpr hok2
  · rcases hd with rfl | rfl <;> exact fun z => nomatch z
  · rw [hi, hp.length_eq]; omega
  · rw [hB] at z; cases z
  · rw [hi] at z
    exact absurd ((hp.map _).nodup_iff.mpr hn) z
  · rw [hi] at h1
    exact q es (h1.trans hp) h2
theorem code_str {x y : Str} (hx : Lay (.str x)) (hy : Lay (.str y)) (h : codeD (.str x) = codeD (.str y)) : x = y := by
  have := (code_eqv hx hy).mpr h
  simpa [toP, PyData.eqv] using this
theorem nodup_codes {ws : List Str} (hws : ∀ z ∈ ws, isName (.str z) = true) (hn : ws.Nodup) : (ws.map fun z => codeD (.str z)).Nodup := by
  refine List.pairwise_map.mpr (List.Pairwise.imp_of_mem (fun {x y} hx hy h e => h ?_) hn)
  exact code_str (lay_name (hws x hx)) (lay_name (hws y hy)) e
/-- three rows: what is known of them -/
structure Rows3 (A B C : List Dat) : Prop where
  ra : ∀ d ∈ A, rowN d = true
  rb : ∀ d ∈ B, rowC d = true
  rc : ∀ d ∈ C, isName d = true
  ka : (A.map fun d => codeD (headD d)).Nodup
  kb : (B.map fun d => codeD (frontD d)).Nodup
  kc : (C.map fun d => codeD (id d)).Nodup
  ga : ∀ d ∈ A, Gud d
  gb : ∀ d ∈ B, Gud d
  gc : ∀ d ∈ C, Gud d
theorem name_gud {d : Dat} (h : isName d = true) : Gud d := by
  obtain ⟨z, rfl⟩ := name_inv h
  have g := name_gd h
  exact ⟨g.ok, g.nl, (name_sho h).mono (Nat.le_refl _) (by decide)⟩
theorem ThreeOk.rows {ws : List Str} {A B C : List Dat} (h : ThreeOk ws A B C) (hws : ∀ z ∈ ws, isName (.str z) = true) (hn : ws.Nodup) : Rows3 A B C := by
  have hc : ∀ d ∈ C, isName d = true := fun d hd => by
    obtain ⟨z, hz, rfl⟩ := List.mem_map.mp (h.c.subset hd)
    exact hws z hz
  refine ⟨fun d hd => ?_, fun d hd => ?_, hc, ?_, h.bh, ?_, fun d hd => ?_, fun d hd => ?_, fun d hd => name_gud (hc d hd)⟩
  · obtain ⟨z, hz⟩ := h.a d hd; exact hz.row
  · obtain ⟨z, _, hz⟩ := h.b d hd; exact hz.row
  · have e : (A.map fun d => codeD (headD d)) = (ws.take A.length).map fun z => codeD (.str z) := by
      have := congrArg (List.map codeD) h.ah
      rw [List.map_map, List.map_map] at this
      exact this
    rw [e]
    exact nodup_codes (fun z hz => hws z (List.mem_of_mem_take hz)) (hn.sublist (List.take_sublist _ _))
  · have := (nodup_codes hws hn)
    have e : (ws.map fun z => codeD (.str z)) = (ws.map Dat.str).map fun d => codeD (id d) := by rw [List.map_map]; rfl
    rw [e] at this
    exact this.sublist (h.c.map _)
  · obtain ⟨z, hz⟩ := h.a d hd; exact hz.g
  · obtain ⟨z, _, hz⟩ := h.b d hd; exact hz.g
theorem ThreeOk.cl {ws : List Str} {A B C : List Dat} (h : ThreeOk ws A B C) (hl : ws.length = 20) : C.length ≤ 20 := by
  have := h.c.length_le
  rw [List.length_map] at this; omega
theorem hand_sho {us : List Dat} {d : Dat} {m n l : Nat} (h : HandedOf us d) (hs : ∀ x ∈ us, Sho x m n) (hl : us.length ≤ l) : Sho d (m + 1) (l * (n + 1)) := by
  obtain ⟨ys, hp, hd⟩ := h
  have h2 : ∀ x ∈ ys, Sho x m n := fun x hx => hs x (hp.mem_iff.mp hx)
  have h3 : ys.length ≤ l := by rw [hp.length_eq]; exact hl
  rcases hd with rfl | rfl
  · exact Sho.lst h2 h3
  · exact Sho.tup h2 h3
theorem sho_three {x y z : Dat} (hx : Sho x 9 64008) (hy : Sho y 9 64008) (hz : Sho z 9 64008) : Sho (.lst [x, y, z]) 10 192027 := by
  refine (Sho.lst (m := 9) (n := 64008) (l := 3) (fun d hd => ?_) (by simp)).mono (by decide) (by decide)
  simp only [List.mem_cons, List.not_mem_nil, or_false] at hd
  rcases hd with rfl | rfl | rfl <;> assumption
theorem compF_one {Fg : FG} {Ft : FT} {Fe : FE} {ρ : List DL.Slot} {d : Dat} {ds acc : List Dat} {P : List Dat → Prop} (h : Fg d ρ fun ρ2 => Ft ρ2 fun b => if b = true then Fe ρ2 fun y => acc.length < sizeLine ∧ compF Fg Ft Fe ρ ds (acc ++ [y]) P else compF Fg Ft Fe ρ ds acc P) : compF Fg Ft Fe ρ (d :: ds) acc P := h
theorem twoB_use {f : Bool → Bool → Bool} {x y : Bool} {P : Dat → Prop} (q : P (.bl (f x y))) : twoB f (.bl x) (.bl y) P := q
theorem empty_app (x : Str) : Str.empty ++ x = x := by
  obtain ⟨a⟩ := x
  show (⟨#[] ++ a⟩ : Str) = ⟨a⟩
  rw [Array.empty_append]
theorem compF_end {Fg : FG} {Ft : FT} {Fe : FE} {ρ : List DL.Slot} {acc : List Dat} {P : List Dat → Prop} (h : P acc) : compF Fg Ft Fe ρ [] acc P := h
theorem shp_rows {es : List Dat} (h : ∀ d ∈ es, Gud d) : shp (.tup es) := shaped_ld (m := 9) (LD.tup fun d hd => (h d hd).sho.ld) (by decide)
theorem eq3_self {ds : List Dat} (h : ∀ d ∈ ds, Lay d) : eq3 ds ds = true := by
  have := (code_eqv (lay_tup.mpr h) (lay_tup.mpr h)).mpr rfl
  rw [toP, PyData.eqv] at this
  exact this
section
variable {P : Program} {w : World} {K : PySem.W.Frag} {mg : Str → Option Value} {base : Heap} {f f2 CM CB : Addr} {fd fd2 : FuncData} {k j : Nat}
abbrev s__law_right : Stmt := topS 45
theorem sc__law_right : FnScope ["m", "three", "a", "b", "c", "some", "kept", "one", "two", "due", "odd"] ["m", "three"] (defScope s__law_right) := ⟨rfl, rfl, rfl, by decide +kernel, rfl, by decide +kernel, by decide +kernel⟩
theorem ok_law_right (B : Bt mg) (HC : CmpC K CM) (hj : j + 3 ≤ k) (M_full : MkC P w K mg base "Model" j CM (c_init CB) 1 ["calls", "props"] (fun us zs => us ++ zs)) (M_pnc : MkC P w K mg base "Model" j CM (c_init CB) 0 ["props", "names", "calls"] (fun us zs => us ++ rot zs))
    (M_names : CalleeM P w K mg base CM "names" j ["self"] (c_fldM CM 0)) (M_calls : CalleeM P w K mg base CM "calls" j ["self"] (c_fldM CM 1)) (M_props : CalleeM P w K mg base CM "props" j ["self"] (c_fldM CM 2)) (S_eq : CalleeSp P w K mg base CM "__eq__" j ["self", "other"] (c_eqM CM)) (S_len : CalleeSp P w K mg base CM "__len__" j ["self"] (c_lenM CM)) (S_repr : CalleeSp P w K mg base CM "__repr__" j ["self"] (c_reprM CM))
    (F__law_handed : CalleeS P w K mg base "_law_handed" k ["m", "some"] conHanded) (F : Fun K "_law_right" "_law_right" s__law_right f fd) : FnG P w K mg base CX0 (k + 1) f fd ["m", "three"] (spS K conToldR) := by
  refine fn_pureSTG F sc__law_right (fun st i sl P ⟨v, v3, ws, A, B, C, _, e, _⟩ => by rw [e]; rfl) fun cdv A0 outer s H S hS st i0 h0 hgd hf hr sl R hc vs hv => ?_
  have nd := sc__law_right.nd
  have gs := gs_self (P := P) (w := w) (K := K) (mg := mg) (base := base) (N := ["m", "three", "a", "b", "c", "some", "kept", "one", "two", "due", "odd"]) (qual := "_law_right") (sc := defScope s__law_right) (f := f) (cdv := cdv) (A := A0) (outer := outer) (s := s) (hS := hS) (h0 := h0) hf
  refine ⟨_, dbt_cons (dsr_unpack3 2 3 4 5 (x := "some") rfl nd (dir_lst (dr_of fun i => (de_known 1))) (blkOk_by (own := [("some", 5)]) (N := ["m", "three", "a", "b", "c", "some", "kept", "one", "two", "due", "odd"]) (sc := defScope s__law_right) (by decide +kernel)) (fun _ _ _ _ _ => pg_name (i := 5) nd rfl (Or.inl rfl)) (fun _ _ _ _ _ => drz_fnLent (gs_blk gs) F__law_handed 0 hr (dr_of fun i => (de_var 5)) (by omega)))
    (dbt_cons (dsr_set 6 (dr_of fun i => (de_repr hgd hr.units B.repr (da_cons (de_lst (da_cons (de_known 2) (da_cons (de_known 3) (da_cons (de_known 4) da_nil)))) da_nil))) nd)
    (dbt_cons (dsr_setX 7 (dxr_make M_full hr (fun i => (da_cons (de_known 2) da_nil)) (fun i => (dk_cons (de_known 3) (dk_cons (de_known 4) dk_nil))) (by omega)) nd)
    (dbt_cons (dsr_setX 8 (dxr_makeR0 M_pnc hr (dkr_cons (drz_fnLent gs F__law_handed 0 hr (dr_of fun i => (de_ix (de_known 1) de_int)) (by omega)).dr (dkr_cons (dr_of fun i => (de_known 2)) (dkr_cons (drz_fnLent gs F__law_handed 0 hr (dr_of fun i => (de_ix (de_known 1) de_int)) (by omega)).dr dkr_nil))) (by omega)) nd)
    (dbt_cons (dsr_if (dtr_of fun i => (dt_ne hr.units (de_repr hgd hr.units B.repr (da_cons (de_lst (da_cons (de_known 2) (da_cons (de_known 3) (da_cons (de_known 4) da_nil)))) da_nil)) (de_var 6))) (dbr_one (dsr_ret (dr_of fun i => de_bl))) dbr_nil)
    (dbt_append3 2 3 4 5 (dbt_of (dbr_cons (dsr_set 9 (dr_of fun i => (de_repr hgd hr.units B.repr (da_cons (de_lc 5 (x := "some") rfl nd (di_seq (de_known 1)) (blkOk_by (own := [("some", 5)]) (N := ["m", "three", "a", "b", "c", "some", "kept", "one", "two", "due", "odd"]) (sc := defScope s__law_right) (by decide +kernel)) (fun _ _ _ _ _ => pg_name (i := 5) nd rfl (Or.inl rfl)) (fun _ _ _ _ _ => dts_nil) (fun _ _ _ _ _ => (de_tuple B.tuple (da_cons (de_sortedL (hu100 hr) B.sorted (da_cons (de_var 5) da_nil)) da_nil)))) da_nil))) nd)
    (dbr_cons (dsr_if (dtr_of fun i => (dt_w (dw_or (dt_ne hr.units (de_repr hgd hr.units B.repr (da_cons (de_lst (da_cons (de_meth0 7 M_names HC.cl hr (by omega)) (da_cons (de_meth0 7 M_calls HC.cl hr (by omega)) (da_cons (de_meth0 7 M_props HC.cl hr (by omega)) da_nil)))) da_nil)) (de_var 9)) (dw_or1 (dt_ne hr.units (de_repr hgd hr.units B.repr (da_cons (de_lst (da_cons (de_meth0 8 M_names HC.cl hr (by omega)) (da_cons (de_meth0 8 M_calls HC.cl hr (by omega)) (da_cons (de_meth0 8 M_props HC.cl hr (by omega)) da_nil)))) da_nil)) (de_var 9)))))) (dbr_one (dsr_ret (dr_of fun i => de_bl))) dbr_nil)
    (dbr_cons (dsr_if (dtr_of fun i => (dt_w (dw_or (dt_ne hr.units (de_lenOwnI S_len hr B.len (dx_var 7) (by omega)) (de_len B.len (da_cons (de_ix (de_known 1) de_int) da_nil))) (dw_or1 (dt_ne hr.units (de_reprOwnI S_repr hr B.repr (dx_var 7) (by omega)) (de_add (de_add de_str (de_strI B.str (da_cons (de_len B.len (da_cons (de_ix (de_known 1) de_int) da_nil)) da_nil))) de_str)))))) (dbr_one (dsr_ret (dr_of fun i => de_bl))) dbr_nil)
    (dbr_cons (dsr_forSeq 10 PassesOwn.never rfl (dr_of fun i => (de_tup (da_cons de_non (da_cons de_int (da_cons (de_tup da_nil) (da_cons de_dnew (da_cons (de_lst da_nil) (da_cons de_str (da_cons (de_meth0 7 M_names HC.cl hr (by omega)) (da_cons (de_reprOwnI S_repr hr B.repr (dx_var 7) (by omega)) da_nil)))))))))) (dbr_one (dsr_if (dtr_of fun i => (dt_w (dw_or (dt_cmp op_isnot_bl serves_twoB (de_eqOwn S_eq HC hr (dx_var 7) (dx_of (de_var 10)) (by omega)) de_bl) (dw_or1 (dt_cmp op_isnot_bl serves_twoB (de_neOwn S_eq HC hr (dx_var 7) (dx_of (de_var 10)) (by omega)) de_bl))))) (dbr_one (dsr_ret (dr_of fun i => de_bl))) dbr_nil)) nd)
    (dbr_one (dsr_ret (dr_of fun i => (de_and (de_eqOwn S_eq HC hr (dx_var 7) (dx_var 8) (by omega)) (de_and (de_eqOwn S_eq HC hr (dx_var 8) (dx_var 7) (by omega)) (de_one (de_isB (de_neOwn S_eq HC hr (dx_var 7) (dx_var 8) (by omega)) de_bl)))))))))))) (fun j' H' h a o n e => h.1 a o (fun z => n (hf a z)) e) PassesOwn.never rfl nd B.isinstance B.list))))), ?_⟩
  obtain ⟨v, v3, ws, A, B', C, hd, rfl, hws, hlen, hnd, hT, hn, h⟩ := hc
  obtain ⟨u0, r0, rfl, _, u1, r1, rfl, ⟨_, hu1, hDv⟩, _⟩ := (hv : ∃ x r, vs = x :: r ∧ ArgOk K S H (.raw v) x ∧ ∃ y r2, r = y :: r2 ∧ (false = false ∧ y = v3 ∧ Dv K S H (.lst [.lst A, .lst B', .lst C]) y) ∧ r2 = [])
  subst hu1
  have R := hT.rows hws hnd
  have la : A.length ≤ 8 := hT.al
  have lb : B'.length ≤ 8 := hT.bl
  have lc : C.length ≤ 20 := hT.cl hlen
  have na : noLsts A = true := noLsts_iff.mpr fun d hd => (R.ga d hd).nl
  have nb : noLsts B' = true := noLsts_iff.mpr fun d hd => (R.gb d hd).nl
  have nc : noLsts C = true := noLsts_iff.mpr fun d hd => (R.gc d hd).nl
  (try dsimp only [startS, List.length_cons, List.length_nil, List.set_cons_succ, List.set_cons_zero, List.cons_append, List.nil_append, Nat.reduceAdd, Nat.reduceSub, List.replicate])
  refine ⟨fun items acc j => (acc = [] ∧ items = [.lst A, .lst B', .lst C] ∧ j ≤ i0) ∨ (∃ a, acc = [a] ∧ HandedOf A a ∧ items = [.lst B', .lst C] ∧ j ≤ i0 + 9) ∨ (∃ a b, acc = [a, b] ∧ HandedOf A a ∧ HandedOf B' b ∧ items = [.lst C] ∧ j ≤ i0 + 18) ∨ (∃ a b c, acc = [a, b, c] ∧ HandedOf A a ∧ HandedOf B' b ∧ HandedOf C c ∧ items = [] ∧ j ≤ i0 + 39), ?_, fun acc j1 hi => ?_, fun d ds acc j1 hi => ?_⟩
  · exact ⟨_, _, rfl, .inl ⟨rfl, rfl, Nat.le_refl _⟩⟩
  rotate_left
  · rcases hi with ⟨rfl, he, hj⟩ | ⟨a, rfl, ha, he, hj⟩ | ⟨a, b, rfl, ha, hb, he, hj⟩ | ⟨a, b, c, rfl, ha, hb, hc2, he, hj⟩
    · cases he
      (try dsimp only [startS, List.length_cons, List.length_nil, List.set_cons_succ, List.set_cons_zero, List.cons_append, List.nil_append, Nat.reduceAdd, Nat.reduceSub, List.replicate])
      (repeat (first | with_reducible refine rd_here (by with_unfolding_all exact rfl) ?_ | with_reducible refine rdRaw_here (by with_unfolding_all exact rfl) ?_ | with_reducible refine And.intro (by with_unfolding_all decide) ?_ | with_reducible refine isI_mk ?_ | with_reducible refine ownL_here (by with_unfolding_all exact rfl) ?_ | dsimp only))
      refine ⟨A, rfl, na, handed_use hd (by omega) (fun x hx => (R.ga x hx).sho.ld.mono (by decide)) (by omega) fun r j2 hr2 hj2 => ⟨by decide, .inr (.inl ⟨r, rfl, hr2, rfl, by omega⟩)⟩⟩
    · cases he
      (try dsimp only [startS, List.length_cons, List.length_nil, List.set_cons_succ, List.set_cons_zero, List.cons_append, List.nil_append, Nat.reduceAdd, Nat.reduceSub, List.replicate])
      (repeat (first | with_reducible refine rd_here (by with_unfolding_all exact rfl) ?_ | with_reducible refine rdRaw_here (by with_unfolding_all exact rfl) ?_ | with_reducible refine And.intro (by with_unfolding_all decide) ?_ | with_reducible refine isI_mk ?_ | with_reducible refine ownL_here (by with_unfolding_all exact rfl) ?_ | dsimp only))
      refine ⟨B', rfl, nb, handed_use hd (by omega) (fun x hx => (R.gb x hx).sho.ld.mono (by decide)) (by omega) fun r j2 hr2 hj2 => ⟨by decide, .inr (.inr (.inl ⟨a, r, rfl, ha, hr2, rfl, by omega⟩))⟩⟩
    · cases he
      (try dsimp only [startS, List.length_cons, List.length_nil, List.set_cons_succ, List.set_cons_zero, List.cons_append, List.nil_append, Nat.reduceAdd, Nat.reduceSub, List.replicate])
      (repeat (first | with_reducible refine rd_here (by with_unfolding_all exact rfl) ?_ | with_reducible refine rdRaw_here (by with_unfolding_all exact rfl) ?_ | with_reducible refine And.intro (by with_unfolding_all decide) ?_ | with_reducible refine isI_mk ?_ | with_reducible refine ownL_here (by with_unfolding_all exact rfl) ?_ | dsimp only))
      refine ⟨C, rfl, nc, handed_use hd (by omega) (fun x hx => (R.gc x hx).sho.ld.mono (by decide)) (by omega) fun r j2 hr2 hj2 => ⟨by decide, .inr (.inr (.inr ⟨a, b, r, rfl, ha, hb, hr2, rfl, by omega⟩))⟩⟩
    · cases he
  obtain ⟨a, b, c, rfl, ha, hb, hc, hj1⟩ : ∃ a b c, acc = [a, b, c] ∧ HandedOf A a ∧ HandedOf B' b ∧ HandedOf C c ∧ j1 ≤ i0 + 39 := by
    rcases hi with ⟨_, he, _⟩ | ⟨_, _, _, he, _⟩ | ⟨_, _, _, _, _, he, _⟩ | ⟨a, b, c, rfl, ha, hb, hc2, he, hj⟩
    · cases he
    · cases he
    · cases he
    · exact ⟨a, b, c, rfl, ha, hb, hc2, hj⟩
  refine ⟨a, b, c, rfl, fun va vb vc hva hvb hvc => ?_⟩
  (try dsimp only [startS, List.length_cons, List.length_nil, List.set_cons_succ, List.set_cons_zero, List.cons_append, List.nil_append, Nat.reduceAdd, Nat.reduceSub, List.replicate])
  have sa : Sho a 9 64008 := hand_sho ha (fun x hx => (R.ga x hx).sho) la
  have sb : Sho b 9 64008 := hand_sho hb (fun x hx => (R.gb x hx).sho) lb
  have sc : Sho c 9 64008 := (hand_sho hc (fun x hx => (show Sho x 0 6 from by obtain ⟨z, rfl⟩ := name_inv (R.rc x hx); exact name_sho (R.rc _ hx))) lc).mono (by decide) (by decide)
  have sabc := sho_three sa sb sc
  refine ⟨_, _, rfl, _, _, rfl, _, _, rfl, ?_⟩
  refine ⟨by decide, repr_use sabc (by decide) (by decide) ?_⟩
  (try dsimp only [startS, List.length_cons, List.length_nil, List.set_cons_succ, List.set_cons_zero, List.cons_append, List.nil_append, Nat.reduceAdd, Nat.reduceSub, List.replicate])
  generalize hkept : (toP (.lst [a, b, c])).shown = kept
  refine ⟨_, _, rfl, _, _, rfl, _, _, rfl, rfl, rfl, ?_⟩
  refine ⟨a, b, c, rfl, rows_use ha (fun x hx => (R.ga x hx).ok) R.ra R.ka (by omega) fun e1 p1 s1 => rows_use hb (fun x hx => (R.gb x hx).ok) R.rb R.kb (by omega) fun e2 p2 s2 => rows_use hc (fun x hx => (R.gc x hx).ok) R.rc R.kc (by omega) fun e3 p3 s3 => ?_⟩
  (try dsimp only [startS, List.length_cons, List.length_nil, List.set_cons_succ, List.set_cons_zero, List.cons_append, List.nil_append, Nat.reduceAdd, Nat.reduceSub, List.replicate])
  (repeat (first | with_reducible refine rd_here (by with_unfolding_all exact rfl) ?_ | with_reducible refine rdRaw_here (by with_unfolding_all exact rfl) ?_ | with_reducible refine And.intro (by with_unfolding_all decide) ?_ | with_reducible refine isI_mk ?_ | with_reducible refine ownL_here (by with_unfolding_all exact rfl) ?_ | dsimp only))
  refine ⟨_, _, rfl, ix_lst rfl ⟨C, rfl, nc, handed_use hd (by omega) (fun x hx => (R.gc x hx).sho.ld.mono (by decide)) (by omega) fun c2 j2 hc2 hj2 => ?_⟩⟩
  refine ⟨_, _, rfl, ?_⟩
  (repeat (first | with_reducible refine rd_here (by with_unfolding_all exact rfl) ?_ | with_reducible refine rdRaw_here (by with_unfolding_all exact rfl) ?_ | with_reducible refine And.intro (by with_unfolding_all decide) ?_ | with_reducible refine isI_mk ?_ | with_reducible refine ownL_here (by with_unfolding_all exact rfl) ?_ | dsimp only))
  refine ⟨_, _, rfl, ix_lst rfl ⟨B', rfl, nb, handed_use hd (by omega) (fun x hx => (R.gb x hx).sho.ld.mono (by decide)) (by omega) fun b2 j3 hb2 hj3 => ?_⟩⟩
  refine ⟨rfl, a, b2, c2, rfl, rows_use ha (fun x hx => (R.ga x hx).ok) R.ra R.ka (by omega) fun e1' p1' s1' => rows_use hb2 (fun x hx => (R.gb x hx).ok) R.rb R.kb (by omega) fun e2' p2' s2' => rows_use hc2 (fun x hx => (R.gc x hx).ok) R.rc R.kc (by omega) fun e3' p3' s3' => ?_⟩
  have q1 : e1' = e1 := srt_uniq (fun x hx y hy => keyN (R.ra x hx) (R.ra y hy)) R.ka p1' s1' p1 s1
  have q2 : e2' = e2 := srt_uniq (fun x hx y hy => keyC (R.rb x hx) (R.rb y hy)) R.kb p2' s2' p2 s2
  have q3 : e3' = e3 := srt_uniq (κ := id) (fun x hx y hy z => z) R.kc p3' s3' p3 s3
  subst q1; subst q2; subst q3
  (try dsimp only [startS, List.length_cons, List.length_nil, List.set_cons_succ, List.set_cons_zero, List.cons_append, List.nil_append, Nat.reduceAdd, Nat.reduceSub, List.replicate])
  refine ⟨fun b j => b = false ∧ j = j3.1, ?_, fun j z => (nomatch z.1), fun j z => ?_⟩
  · refine ⟨_, _, rfl, _, _, rfl, _, _, rfl, ?_⟩
    refine ⟨by decide, repr_use sabc (by decide) (by decide) ?_⟩
    (repeat (first | with_reducible refine rd_here (by with_unfolding_all exact rfl) ?_ | with_reducible refine rdRaw_here (by with_unfolding_all exact rfl) ?_ | with_reducible refine And.intro (by with_unfolding_all decide) ?_ | with_reducible refine isI_mk ?_ | with_reducible refine ownL_here (by with_unfolding_all exact rfl) ?_ | dsimp only))
    rw [hkept, neD_str, isB_bl, decide_eq_true rfl]
    exact ⟨rfl, rfl⟩
  obtain ⟨_, rfl⟩ := z
  have hNA : ∀ {us : List Dat} {d : Dat}, HandedOf us d → ∃ ys, d = .lst ys ∨ d = .tup ys := fun ⟨ys, _, h⟩ => ⟨ys, h⟩
  have hln : ∀ {us : List Dat} {d : Dat}, HandedOf us d → us.length ≤ 20 → ∀ ys, d = .lst ys → ys.length ≤ 1000 := fun {us d} ⟨ys, hp, h⟩ hl zs e => by
    rcases h with rfl | rfl
    · cases e; rw [hp.length_eq]; omega
    · cases e
  have n1 : noLsts e1' = true := noLsts_iff.mpr fun d hd => (R.ga d (p1'.mem_iff.mp hd)).nl
  have n2 : noLsts e2' = true := noLsts_iff.mpr fun d hd => (R.gb d (p2'.mem_iff.mp hd)).nl
  have n3 : noLsts e3' = true := noLsts_iff.mpr fun d hd => (R.gc d (p3'.mem_iff.mp hd)).nl
  have nl3 : noLsts [.tup e1', .tup e2', .tup e3'] = true := by
    rw [noLsts, noLsts, noLsts, noLsts, noLst, noLst, noLst, n1, n2, n3]; rfl
  refine ⟨by decide, va, a, vb, b, vc, c, ⟨rfl, hNA ha, hva⟩, ⟨rfl, hNA hb, hvb⟩, ⟨rfl, hNA hc, hvc⟩, fun e he => ?_, [.raw v, .cus false (knownX u1 (.lst [.lst A, .lst B', .lst C])), .un, .un, .un, .un, .d (.str kept), .cus false (objX CM none fldsM [.tup e1', .tup e2', .tup e3']), .cus false (objX CM none fldsM [.tup e1', .tup e2', .tup e3']), .un, .un], rfl, fun k s hk => ?_, ?_⟩
  · simp only [List.mem_cons, List.not_mem_nil, or_false] at he
    rcases he with rfl | rfl | rfl
    · exact hln ha (by omega)
    · exact hln hb (by omega)
    · exact hln hc (by omega)
  · match k, hk with
    | 0, hk => cases hk; exact .inr ⟨by decide, rfl, .inr (.inl ⟨_, rfl⟩)⟩
    | 1, hk => cases hk; exact .inr ⟨by decide, rfl, .inr (.inr (.inr (.inr ⟨_, _, rfl, hDv⟩)))⟩
    | 2, hk => cases hk; exact .inl rfl
    | 3, hk => cases hk; exact .inl rfl
    | 4, hk => cases hk; exact .inl rfl
    | 5, hk => cases hk; exact .inl rfl
    | 6, hk => cases hk; exact .inr ⟨by decide, rfl, .inr (.inr (.inl ⟨_, rfl, rfl⟩))⟩
    | 7, hk => cases hk; exact .inr ⟨by decide, rfl, .inr (.inr (.inr (.inl ⟨_, _, _, _, rfl, nl3⟩)))⟩
    | 8, hk => cases hk; exact .inr ⟨by decide, rfl, .inr (.inr (.inr (.inl ⟨_, _, _, _, rfl, nl3⟩)))⟩
    | 9, hk => cases hk; exact .inl rfl
    | 10, hk => cases hk; exact .inl rfl
    | k + 11, hk => cases hk
  (try dsimp only [startS, List.length_cons, List.length_nil, List.set_cons_succ, List.set_cons_zero, List.cons_append, List.nil_append, Nat.reduceAdd, Nat.reduceSub, List.replicate])
  have t1 : Sho (.tup e1') 9 64008 := hand_sho ⟨e1', p1', .inr rfl⟩ (fun x hx => (R.ga x hx).sho) la
  have t2 : Sho (.tup e2') 9 64008 := hand_sho ⟨e2', p2', .inr rfl⟩ (fun x hx => (R.gb x hx).sho) lb
  have t3 : Sho (.tup e3') 9 64008 := (hand_sho ⟨e3', p3', .inr rfl⟩ (fun x hx => (show Sho x 0 6 from by obtain ⟨z, rfl⟩ := name_inv (R.rc x hx); exact name_sho (R.rc _ hx))) lc).mono (by decide) (by decide)
  have t123 := sho_three t1 t2 t3
  have sh1 : shp (.tup e1') := shp_rows fun d hd => R.ga d (p1'.mem_iff.mp hd)
  have sh2 : shp (.tup e2') := shp_rows fun d hd => R.gb d (p2'.mem_iff.mp hd)
  have sh3 : shp (.tup e3') := shp_rows fun d hd => R.gc d (p3'.mem_iff.mp hd)
  have hself : eq3 [.tup e1', .tup e2', .tup e3'] [.tup e1', .tup e2', .tup e3'] = true := eq3_self fun d hd => by
    simp only [List.mem_cons, List.not_mem_nil, or_false] at hd
    rcases hd with rfl | rfl | rfl
    · exact t1.lay
    · exact t2.lay
    · exact t3.lay
  have le1 : e1'.length = A.length := p1'.length_eq
  refine ⟨_, _, rfl, ?_⟩
  rw [seqOf_lst]
  refine compF_one ?_
  (try dsimp only [startS, List.length_cons, List.length_nil, List.set_cons_succ, List.set_cons_zero, List.cons_append, List.nil_append, Nat.reduceAdd, Nat.reduceSub, List.replicate])
  (repeat (first | with_reducible refine rd_here (by with_unfolding_all exact rfl) ?_ | with_reducible refine rdRaw_here (by with_unfolding_all exact rfl) ?_ | with_reducible refine And.intro (by with_unfolding_all decide) ?_ | with_reducible refine isI_mk ?_ | with_reducible refine ownL_here (by with_unfolding_all exact rfl) ?_ | dsimp only))
  refine ⟨sortP_N R.ra, fun f1 pf1 sf1 => tuple_mk ?_⟩
  obtain rfl : f1 = e1' := srt_uniq (fun x hx y hy => keyN (R.ra x hx) (R.ra y hy)) R.ka pf1 sf1 p1' s1'
  refine ⟨by decide, compF_one ?_⟩
  (try dsimp only [startS, List.length_cons, List.length_nil, List.set_cons_succ, List.set_cons_zero, List.cons_append, List.nil_append, Nat.reduceAdd, Nat.reduceSub, List.replicate])
  (repeat (first | with_reducible refine rd_here (by with_unfolding_all exact rfl) ?_ | with_reducible refine rdRaw_here (by with_unfolding_all exact rfl) ?_ | with_reducible refine And.intro (by with_unfolding_all decide) ?_ | with_reducible refine isI_mk ?_ | with_reducible refine ownL_here (by with_unfolding_all exact rfl) ?_ | dsimp only))
  refine ⟨sortP_C R.rb, fun f2 pf2 sf2 => tuple_mk ?_⟩
  obtain rfl : f2 = e2' := srt_uniq (fun x hx y hy => keyC (R.rb x hx) (R.rb y hy)) R.kb pf2 sf2 p2' s2'
  refine ⟨by decide, compF_one ?_⟩
  (try dsimp only [startS, List.length_cons, List.length_nil, List.set_cons_succ, List.set_cons_zero, List.cons_append, List.nil_append, Nat.reduceAdd, Nat.reduceSub, List.replicate])
  (repeat (first | with_reducible refine rd_here (by with_unfolding_all exact rfl) ?_ | with_reducible refine rdRaw_here (by with_unfolding_all exact rfl) ?_ | with_reducible refine And.intro (by with_unfolding_all decide) ?_ | with_reducible refine isI_mk ?_ | with_reducible refine ownL_here (by with_unfolding_all exact rfl) ?_ | dsimp only))
  refine ⟨sortP_P R.rc, fun f3 pf3 sf3 => tuple_mk ?_⟩
  obtain rfl : f3 = e3' := srt_uniq (κ := id) (fun x hx y hy z => z) R.kc pf3 sf3 p3' s3'
  refine ⟨by decide, compF_end ?_⟩
  refine repr_use t123 (by decide) (by decide) ?_
  generalize hdue : (toP (.lst [.tup f1, .tup f2, .tup f3])).shown = due
  (try dsimp only [startS, List.length_cons, List.length_nil, List.set_cons_succ, List.set_cons_zero, List.cons_append, List.nil_append, Nat.reduceAdd, Nat.reduceSub, List.replicate])
  refine ⟨fun b j => b = false ∧ j = j3.1, ?_, fun j z => (nomatch z.1), fun j z => ?_⟩
  · refine ⟨none, fldsM, _, rfl, by decide, none, _, _, rfl, rfl, rfl, ?_⟩
    refine ⟨none, fldsM, _, rfl, by decide, none, _, _, rfl, rfl, rfl, ?_⟩
    refine ⟨none, fldsM, _, rfl, by decide, none, _, _, rfl, rfl, rfl, ?_⟩
    refine ⟨by decide, repr_use t123 (by decide) (by decide) ?_⟩
    (repeat (first | with_reducible refine rd_here (by with_unfolding_all exact rfl) ?_ | with_reducible refine rdRaw_here (by with_unfolding_all exact rfl) ?_ | with_reducible refine And.intro (by with_unfolding_all decide) ?_ | with_reducible refine isI_mk ?_ | with_reducible refine ownL_here (by with_unfolding_all exact rfl) ?_ | dsimp only))
    rw [hdue, neD_str, isB_bl, decide_eq_true rfl, if_neg (by decide)]
    refine ⟨none, fldsM, _, rfl, by decide, none, _, _, rfl, rfl, rfl, ?_⟩
    refine ⟨none, fldsM, _, rfl, by decide, none, _, _, rfl, rfl, rfl, ?_⟩
    refine ⟨none, fldsM, _, rfl, by decide, none, _, _, rfl, rfl, rfl, ?_⟩
    refine ⟨by decide, repr_use t123 (by decide) (by decide) ?_⟩
    (repeat (first | with_reducible refine rd_here (by with_unfolding_all exact rfl) ?_ | with_reducible refine rdRaw_here (by with_unfolding_all exact rfl) ?_ | with_reducible refine And.intro (by with_unfolding_all decide) ?_ | with_reducible refine isI_mk ?_ | with_reducible refine ownL_here (by with_unfolding_all exact rfl) ?_ | dsimp only))
    rw [hdue, neD_str, isB_bl, decide_eq_true rfl]
    exact ⟨rfl, rfl⟩
  obtain ⟨_, rfl⟩ := z
  (try dsimp only [startS, List.length_cons, List.length_nil, List.set_cons_succ, List.set_cons_zero, List.cons_append, List.nil_append, Nat.reduceAdd, Nat.reduceSub, List.replicate])
  refine ⟨fun b j => b = false ∧ j = j3.1, ?_, fun j z => (nomatch z.1), fun j z => ?_⟩
  · refine ⟨_, rfl, ⟨_, _, _, rfl⟩, none, f1, _, _, rfl, ?_⟩
    refine ⟨⟨by omega, by omega⟩, ?_⟩
    refine ⟨_, _, rfl, ix_lst rfl ?_⟩
    (repeat (first | with_reducible refine rd_here (by with_unfolding_all exact rfl) ?_ | with_reducible refine rdRaw_here (by with_unfolding_all exact rfl) ?_ | with_reducible refine And.intro (by with_unfolding_all decide) ?_ | with_reducible refine isI_mk ?_ | with_reducible refine ownL_here (by with_unfolding_all exact rfl) ?_ | dsimp only))
    rw [lenD_lst, neD_int, isB_bl, le1, decide_eq_true rfl, if_neg (by decide)]
    refine ⟨_, rfl, ⟨_, _, _, rfl⟩, none, f1, _, _, rfl, by omega, ?_⟩
    refine ⟨_, _, rfl, ix_lst rfl ?_⟩
    (repeat (first | with_reducible refine rd_here (by with_unfolding_all exact rfl) ?_ | with_reducible refine rdRaw_here (by with_unfolding_all exact rfl) ?_ | with_reducible refine And.intro (by with_unfolding_all decide) ?_ | with_reducible refine isI_mk ?_ | with_reducible refine ownL_here (by with_unfolding_all exact rfl) ?_ | dsimp only))
    rw [lenD_lst]
    refine ⟨Nat.lt_of_le_of_lt (Nat.log2_le_self _) (by omega), ?_⟩
    have hlt : (Str.ofString (toString ((A.length : Nat) : Int))).length ≤ 4 := PyProof.Rows.toString_length_le (by omega) (by decide) (by omega)
    have z1 : (Str.ofString "Model(").length = 6 := by decide
    have z2 : (Str.ofString " names)").length = 7 := by decide
    have big : 1000 ≤ sizeLine := by decide
    refine ⟨by omega, ?_⟩
    refine ⟨by rw [Str.length_append]; omega, ?_⟩
    dsimp only
    rw [neD_str, isB_bl]
    have e : reprM f1.length = Str.ofString "Model(" ++ Str.ofString (toString ((A.length : Nat) : Int)) ++ Str.ofString " names)" := by
      unfold reprM
      rw [le1, empty_app]
    rw [e, decide_eq_true rfl]
    exact ⟨rfl, rfl⟩
  obtain ⟨_, rfl⟩ := z
  (try dsimp only [startS, List.length_cons, List.length_nil, List.set_cons_succ, List.set_cons_zero, List.cons_append, List.nil_append, Nat.reduceAdd, Nat.reduceSub, List.replicate])
  refine ⟨fun items ρ j => (∀ y ∈ items, ∃ d, y = d) ∧ j = j3.1 ∧ ∃ t : DL.Slot, ρ = [.raw v, .cus false (knownX u1 (.lst [.lst A, .lst B', .lst C])), .un, .un, .un, .un, .d (.str kept), .cus false (objX CM none fldsM [.tup f1, .tup f2, .tup f3]), .cus false (objX CM none fldsM [.tup f1, .tup f2, .tup f3]), .d (.str due), t], ?_, fun ρ j hi => ?_, fun d ds ρ j hi => ?_⟩
  · refine ⟨by decide, by decide, ?_⟩
    refine ⟨none, fldsM, _, rfl, by decide, none, _, _, rfl, rfl, rfl, ?_⟩
    refine ⟨_, rfl, ⟨_, _, _, rfl⟩, none, f1, _, _, rfl, by omega, ?_⟩
    exact ⟨by decide, fun y hy => ⟨y, rfl⟩, rfl, _, rfl⟩
  rotate_left
  · obtain ⟨hall, rfl, t, rfl⟩ := hi
    (try dsimp only [startS, List.length_cons, List.length_nil, List.set_cons_succ, List.set_cons_zero, List.cons_append, List.nil_append, Nat.reduceAdd, Nat.reduceSub, List.replicate])
    refine ⟨fun b j => b = false ∧ j = j3.1, ?_, fun j z => (nomatch z.1), fun j z => ?_⟩
    · refine ⟨_, rfl, ⟨_, _, _, rfl⟩, ?_⟩
      refine rd_here rfl ?_
      refine ⟨trivial, none, f1, f2, f3, _, rfl, ⟨sh1, sh2, sh3⟩, .inl ⟨d, rfl, ?_⟩⟩
      refine twoB_use ?_
      rw [isB_bl, if_neg (by decide)]
      refine ⟨_, rfl, ⟨_, _, _, rfl⟩, ?_⟩
      refine rd_here rfl ?_
      refine ⟨trivial, none, f1, f2, f3, _, rfl, ⟨sh1, sh2, sh3⟩, .inl ⟨d, rfl, ?_⟩⟩
      dsimp only
      rw [isB_bl]
      refine twoB_use ?_
      rw [isB_bl]
      exact ⟨rfl, rfl⟩
    · obtain ⟨_, rfl⟩ := z
      exact ⟨fun y _ => ⟨y, rfl⟩, rfl, _, rfl⟩
  obtain ⟨_, rfl, t, rfl⟩ := hi
  refine ⟨_, rfl, ⟨_, _, _, rfl⟩, _, rfl, ⟨_, _, _, rfl⟩, none, f1, f2, f3, _, rfl, ⟨sh1, sh2, sh3⟩, .inr ⟨none, f1, f2, f3, rfl, ⟨sh1, sh2, sh3⟩, ?_⟩⟩
  rw [hself]
  show isB (.bl true) _
  rw [isB_bl, if_pos rfl]
  refine ⟨_, rfl, ⟨_, _, _, rfl⟩, _, rfl, ⟨_, _, _, rfl⟩, none, f1, f2, f3, _, rfl, ⟨sh1, sh2, sh3⟩, .inr ⟨none, f1, f2, f3, rfl, ⟨sh1, sh2, sh3⟩, ?_⟩⟩
  rw [hself]
  show isB (.bl true) _
  rw [isB_bl, if_pos rfl]
  refine ⟨_, rfl, ⟨_, _, _, rfl⟩, _, rfl, ⟨_, _, _, rfl⟩, none, f1, f2, f3, _, rfl, ⟨sh1, sh2, sh3⟩, .inr ⟨none, f1, f2, f3, rfl, ⟨sh1, sh2, sh3⟩, ?_⟩⟩
  rw [hself]
  exact h j3.1 (by omega)
end
end K01
namespace K01
open PySem PySem.Spec PyProof.Rows L2 DL
/-! ### one thing otherwise: _law_other_right -/
def conOther : ConS Nat := ⟨fun st n sl P => ∃ (v : V) (ws : List Str) (A B C : List Dat), IsDraw st v ∧ sl = [.raw v, .d (.lst (ws.map Dat.str)), .d (.lst [.lst A, .lst B, .lst C])] ∧ (∀ z ∈ ws, isName (.str z) = true) ∧ ws.length = 20 ∧ ws.Nodup ∧ ThreeOk ws A B C ∧ n + 300 < manyDraws ∧ ∀ j : Nat, j ≤ n + 300 → P (.bl true) j,
  fun _ _ _ _ _ ⟨v, ws, A, B, C, h0, e, h1, h2, h3, h4, h5, h⟩ m => ⟨v, ws, A, B, C, h0, e, h1, h2, h3, h4, h5, fun j a => m _ _ (h j a)⟩⟩
theorem eq3_symm {ds es : List Dat} (hd : ∀ d ∈ ds, Lay d) (he : ∀ d ∈ es, Lay d) : eq3 ds es = eq3 es ds := by
  have a := code_eqv (lay_tup.mpr hd) (lay_tup.mpr he)
  have b := code_eqv (lay_tup.mpr he) (lay_tup.mpr hd)
  rw [toP, toP, PyData.eqv] at a b
  have : eq3 ds es = true ↔ eq3 es ds = true := a.trans (Iff.trans ⟨Eq.symm, Eq.symm⟩ b.symm)
  cases h1 : eq3 ds es <;> cases h2 : eq3 es ds <;> simp_all
theorem eq3_lst {a b c d e f : List Dat} : PyData.eqv (toP (.lst [.lst a, .lst b, .lst c])) (toP (.lst [.lst d, .lst e, .lst f])) = eq3 [.tup a, .tup b, .tup c] [.tup d, .tup e, .tup f] := by
  unfold eq3
  simp only [toP, toPs, PyData.eqv, PyData.eqvAll]
structure OtherOk (A B C : List Dat) : Prop where
  r : Rows3 A B C
  la : A.length ≤ 10
  lb : B.length ≤ 10
  lc : C.length ≤ 20
theorem ThreeOk.other {ws : List Str} {A B C : List Dat} (h : ThreeOk ws A B C) (hws : ∀ z ∈ ws, isName (.str z) = true) (hn : ws.Nodup) (hl : ws.length = 20) : OtherOk A B C := ⟨h.rows hws hn, Nat.le_trans h.al (by decide), Nat.le_trans h.bl (by decide), h.cl hl⟩
theorem code_name {z : Str} {d : Dat} (h : NamOk z d) : codeD (headD d) = codeD (.str z) := by
  obtain ⟨r, rfl⟩ := h.hd
  rfl
/-- a row of a new name more -/
theorem other_name {A B C : List Dat} {z : Str} {d : Dat} (h : OtherOk A B C) (hl : A.length ≤ 8) (hd : NamOk z d) (hn : ∀ x ∈ A, codeD (headD x) ≠ codeD (.str z)) : OtherOk (A ++ [d]) B C := by
  have all : ∀ {p : Dat → Prop}, (∀ x ∈ A, p x) → p d → ∀ x ∈ A ++ [d], p x := fun {p} a b x hx => by
    rcases List.mem_append.mp hx with e | e
    · exact a x e
    · rw [List.mem_singleton.mp e]; exact b
  refine ⟨⟨all h.r.ra hd.row, h.r.rb, h.r.rc, ?_, h.r.kb, h.r.kc, all h.r.ga hd.g, h.r.gb, h.r.gc⟩, by rw [List.length_append, List.length_singleton]; omega, h.lb, h.lc⟩
  rw [List.map_append, List.nodup_append]
  refine ⟨h.r.ka, by simp, fun c hc c2 hc2 e => ?_⟩
  rw [List.map_cons, List.map_nil, List.mem_singleton] at hc2
  obtain ⟨x, hx, rfl⟩ := List.mem_map.mp hc
  exact hn x hx (e.trans (hc2.trans (code_name hd)))
theorem front_head {z : Str} {d : Dat} (h : CalOk z d) : ∃ a b, frontD d = .tup [.str z, a, b] := by
  obtain ⟨ps, s, v, rfl⟩ := cal_four h
  exact ⟨_, _, rfl⟩
theorem front_ne {z z2 : Str} {d d2 : Dat} (h : CalOk z d) (h2 : CalOk z2 d2) (hz : z ≠ z2) : codeD (frontD d) ≠ codeD (frontD d2) := fun e => by
  have q := (code_eqv (front_sho h).1 (front_sho h2).1).mpr e
  obtain ⟨a, b, e1⟩ := front_head h
  obtain ⟨a2, b2, e2⟩ := front_head h2
  rw [e1, e2] at q
  simp only [toP, toPs, PyData.eqv, PyData.eqvAll, Bool.and_eq_true] at q
  exact hz (by simpa using q.1)
theorem other_call {A B C : List Dat} {z : Str} {d : Dat} (h : OtherOk A B C) (hl : B.length ≤ 8) (hd : CalOk z d) (hn : ∀ x ∈ B, ∃ y, y ≠ z ∧ CalOk y x) : OtherOk A (B ++ [d]) C := by
  have all : ∀ {p : Dat → Prop}, (∀ x ∈ B, p x) → p d → ∀ x ∈ B ++ [d], p x := fun {p} a b x hx => by
    rcases List.mem_append.mp hx with e | e
    · exact a x e
    · rw [List.mem_singleton.mp e]; exact b
  refine ⟨⟨h.r.ra, all h.r.rb hd.row, h.r.rc, h.r.ka, ?_, h.r.kc, h.r.ga, all h.r.gb hd.g, h.r.gc⟩, h.la, by rw [List.length_append, List.length_singleton]; omega, h.lc⟩
  rw [List.map_append, List.nodup_append]
  refine ⟨h.r.kb, by simp, fun c hc c2 hc2 e => ?_⟩
  rw [List.map_cons, List.map_nil, List.mem_singleton] at hc2
  obtain ⟨x, hx, rfl⟩ := List.mem_map.mp hc
  obtain ⟨y, hy, hcy⟩ := hn x hx
  exact front_ne hcy hd hy (e.trans hc2)
theorem other_props {A B C D : List Dat} (h : OtherOk A B C) (hd : ∀ d ∈ D, isName d = true) (hk : (D.map fun d => codeD (id d)).Nodup) (hl : D.length ≤ 20) : OtherOk A B D := ⟨⟨h.r.ra, h.r.rb, hd, h.r.ka, h.r.kb, hk, h.r.ga, h.r.gb, fun d q => name_gud (hd d q)⟩, h.la, h.lb, hl⟩
theorem other_dropA {A B C : List Dat} (h : OtherOk A B C) : OtherOk (A.drop 1) B C := by
  have sub : ∀ x ∈ A.drop 1, x ∈ A := fun x hx => List.mem_of_mem_drop hx
  exact ⟨⟨fun x hx => h.r.ra x (sub x hx), h.r.rb, h.r.rc, h.r.ka.sublist ((List.drop_sublist 1 A).map _), h.r.kb, h.r.kc, fun x hx => h.r.ga x (sub x hx), h.r.gb, h.r.gc⟩, by rw [List.length_drop]; have := h.la; omega, h.lb, h.lc⟩
theorem other_dropB {A B C : List Dat} (h : OtherOk A B C) : OtherOk A (B.drop 1) C := by
  have sub : ∀ x ∈ B.drop 1, x ∈ B := fun x hx => List.mem_of_mem_drop hx
  exact ⟨⟨h.r.ra, fun x hx => h.r.rb x (sub x hx), h.r.rc, h.r.ka, h.r.kb.sublist ((List.drop_sublist 1 B).map _), h.r.kc, h.r.ga, fun x hx => h.r.gb x (sub x hx), h.r.gc⟩, h.la, by rw [List.length_drop]; have := h.lb; omega, h.lc⟩
theorem p40 : (10 : Nat) ^ 40 < 2 ^ 240 := by decide
/-- the row with a great number -/
theorem cal_great {z : Str} (hz : isName (.str z) = true) : CalOk z (.tup [.str z, .tup [.tup [.str "thing", .int (10 ^ 40)]], .str "num", .tup [.int 1, .int 7]]) := by
  have h40 : ((10 : Int) ^ 40).natAbs < 2 ^ 240 := by
    rw [Int.natAbs_pow]; exact p40
  have g1 : Gd0 (.tup [.str "thing", .int (10 ^ 40)]) := gd0_tup fun u hu => by
    simp only [List.mem_cons, List.not_mem_nil, or_false] at hu
    rcases hu with rfl | rfl
    · exact gd0_str (by decide)
    · exact gd0_int h40
  have g2 : Gd0 (.tup [.int 1, .int 7]) := gd0_tup fun u hu => by
    simp only [List.mem_cons, List.not_mem_nil, or_false] at hu
    rcases hu with rfl | rfl
    · exact gd0_int (by decide)
    · exact gd0_int (by decide)
  have g : Gd0 (.tup [.str z, .tup [.tup [.str "thing", .int (10 ^ 40)]], .str "num", .tup [.int 1, .int 7]]) := gd0_tup fun u hu => by
    simp only [List.mem_cons, List.not_mem_nil, or_false] at hu
    rcases hu with rfl | rfl | rfl | rfl
    · exact name_gd hz
    · exact gd0_tup fun u hu => by rw [List.mem_singleton.mp hu]; exact g1
    · exact gd0_str (by decide)
    · exact g2
  have hth : ("thing" : Str) ∈ sorts := by decide
  have hnum : ("num" : Str) ∈ sorts := by decide
  have s1 : Sho (.tup [.str "thing", .int (10 ^ 40)]) 1 20 := (Sho.tup (m := 0) (n := 6) (l := 2) (fun u hu => by
    simp only [List.mem_cons, List.not_mem_nil, or_false] at hu
    rcases hu with rfl | rfl
    · exact sort_sho hth
    · exact sho_int h40) (by simp)).mono (by decide) (by decide)
  have s2 : Sho (.tup [.int 1, .int 7]) 2 30 := (Sho.tup (m := 0) (n := 6) (l := 2) (fun u hu => by
    simp only [List.mem_cons, List.not_mem_nil, or_false] at hu
    rcases hu with rfl | rfl
    · exact sho_int (by decide)
    · exact sho_int (by decide)) (by simp)).mono (by decide) (by decide)
  have s3 : Sho (.tup [.tup [.str "thing", .int (10 ^ 40)]]) 2 30 := (Sho.tup (m := 1) (n := 20) (l := 1) (fun u hu => by rw [List.mem_singleton.mp hu]; exact s1) (by simp)).mono (by decide) (by decide)
  refine ⟨?_, ⟨g.ok, g.nl, ?_⟩, _, rfl⟩
  · show (isName (.str z) && valD (.tup [.int 1, .int 7]) (.str "num") && decide (1 ≤ 1) && decide (1 ≤ 3) && (valD (.int (10 ^ 40)) (.str "thing") && true)) = true
    rw [hz]
    decide +kernel
  · refine (Sho.tup (m := 2) (n := 30) (l := 4) (fun u hu => ?_) (by simp)).mono (by decide) (by decide)
    simp only [List.mem_cons, List.not_mem_nil, or_false] at hu
    rcases hu with rfl | rfl | rfl | rfl
    · exact (name_sho hz).mono (Nat.le_refl _) (by decide)
    · exact s3
    · exact (sort_sho hnum).mono (Nat.le_refl _) (by decide)
    · exact s2
theorem drop1_use {xs : List Dat} {P : Dat → Prop} (q : P (.lst (xs.drop 1))) : slD (.lst xs) (some 1) none P := by
  rw [slD_lst, show (1 : Int) = ((1 : Nat) : Int) from rfl, cut_from _ 1]
  exact q
theorem not_late {ws : List Str} {k n : Nat} (hn : ws.Nodup) (hk : k < ws.length) (hnk : n ≤ k) (h : ws[k] ∈ ws.take n) : False := by
  obtain ⟨i, hi, e⟩ := List.mem_iff_getElem.mp h
  rw [List.getElem_take] at e
  rw [List.length_take] at hi
  have hi2 : i < ws.length := by omega
  have hik : i < k := by omega
  exact (List.pairwise_iff_getElem.mp (List.nodup_iff_pairwise_ne.mp hn)) i k hi2 hk hik e
theorem two_mk {α : Type} {d e : α} {P : α → α → Prop} (h : P d e) : two [d, e] P := h
theorem in_use {x : Str} {zs : List Str} {P : Dat → Prop} (q : P (.bl (decide (x ∈ zs)))) : inD false (.str x) (.lst (zs.map Dat.str)) P := by
  show inOf false x (zs.map Dat.str) P
  unfold inOf
  rw [strsOf_map]
  exact q
theorem ne_bl {a b : Bool} {P : Dat → Prop} (q : P (.bl (a != b))) : neD (.bl a) (.bl b) P := by
  have e : PyData.eqv (toP (.bl a)) (toP (.bl b)) = (a == b) := by cases a <;> cases b <;> rfl
  refine ⟨by cases a <;> rfl, by cases b <;> rfl, ?_⟩
  rw [e]
  exact q
theorem sho_bl {b : Bool} {m n : Nat} : Sho (.bl b) m n := by
  refine ⟨rfl, rfl, ?_, rfl, ?_⟩
  · rw [toP, PyData.depth]; omega
  · rw [toP, PyData.bulk]; omega
theorem worth_use2 {sd : Sta Nat} {n : Nat} {v : V} {s : Str} {P : Dat → Nat → Prop} (hd : IsDraw sd v) (hs : s ∈ sorts) (hn : n + 90 < manyDraws) (h : ∀ d j, WorthV s 2 d → j ≤ n + 90 → P d j) : (conWorth 4).C sd n [.raw v, .d (.str s), .d (.int 2)] P := by
  have hw : wc s 2 ≤ 90 := by
    simp only [sorts, List.mem_cons, List.not_mem_nil, or_false] at hs
    rcases hs with rfl | rfl | rfl | rfl | rfl <;> decide
  have hr : rk s 2 < 4 := by
    simp only [sorts, List.mem_cons, List.not_mem_nil, or_false] at hs
    rcases hs with rfl | rfl | rfl | rfl | rfl <;> decide
  exact ⟨v, s, 2, hd, rfl, hs, by decide, hr, by omega, fun d j hd hj => h d j hd.2 (by omega)⟩
section
variable {P : Program} {w : World} {K : PySem.W.Frag} {mg : Str → Option Value} {base : Heap} {f f2 CM CB : Addr} {fd fd2 : FuncData} {k j : Nat}
abbrev s__law_other_right : Stmt := topS 46
theorem sc__law_other_right : FnScope ["m", "w", "three", "first", "second", "third", "road", "kind", "row", "flags", "flag", "some", "other", "one", "two", "same", "part"] ["m", "w", "three"] (defScope s__law_other_right) := ⟨rfl, rfl, rfl, by decide +kernel, rfl, by decide +kernel, by decide +kernel⟩
-- calls ['_law_kind', '_law_draw', '_law_worth'] consts []
theorem ok_law_other_right (B : Bt mg) (HC : CmpC K CM) (hj : j + 3 ≤ k) (M_full : MkC P w K mg base "Model" j CM (c_init CB) 1 ["calls", "props"] (fun us zs => us ++ zs)) (S_eq : CalleeSp P w K mg base CM "__eq__" j ["self", "other"] (c_eqM CM))
    (F__law_draw : CalleeS P w K mg base "_law_draw" k ["m", "top"] conDraw) (F__law_kind : Callee P w K mg base "_law_kind" k ["k"] c_law_kind) (F__law_worth : CalleeS P w K mg base "_law_worth" k ["m", "kind", "deep"] (conWorth 4)) (F : Fun K "_law_other_right" "_law_other_right" s__law_other_right f fd) : FnG P w K mg base CX0 (k + 1) f fd ["m", "w", "three"] (spS K conOther) := by
  refine fn_pureSG F sc__law_other_right (fun st i sl P ⟨v, ws, A, B, C, _, e, _⟩ => by rw [e]; rfl) fun cdv A0 outer s H S hS st i0 h0 hgd hf hr sl R hc => ?_
  have nd := sc__law_other_right.nd
  have gs := gs_self (P := P) (w := w) (K := K) (mg := mg) (base := base) (N := ["m", "w", "three", "first", "second", "third", "road", "kind", "row", "flags", "flag", "some", "other", "one", "two", "same", "part"]) (qual := "_law_other_right") (sc := defScope s__law_other_right) (f := f) (cdv := cdv) (A := A0) (outer := outer) (s := s) (hS := hS) (h0 := h0) hf
  refine ⟨_, (dbr_cons (dsr_of fun i => (ds_asg (de_var 2) (dg_lst 3 rfl (dgs_cons (dg_name 3 nd) (dgs_cons (dg_name 4 nd) (dgs_cons (dg_name 5 nd) dgs_nil)))))) (dbr_cons (dsr_par 6 7 (dar_cons (dr_fnS gs F__law_draw hr (dsl_raw 0 (dsl_d (dr_of fun i => de_int) dsl_nil)) (by omega)) (dar_cons (dr_fnD F__law_kind hr (dar_cons (dr_fnS gs F__law_draw hr (dsl_raw 0 (dsl_d (dr_of fun i => de_int) dsl_nil)) (by omega)) dar_nil) (by omega)) dar_nil)) nd) (dbr_cons (dsr_set 8 (dr_tup (dar_cons (dr_of fun i => (de_ix (de_var 1) de_int)) (dar_cons (dr_of fun i => (de_var 7)) (dar_cons (dr_fnS gs F__law_worth hr (dsl_raw 0 (dsl_d (dr_of fun i => (de_var 7)) (dsl_d (dr_of fun i => de_int) dsl_nil))) (by omega)) dar_nil)))) nd) (dbr_cons (dsr_of fun i => (ds_setLc 9 10 (x := "flag") rfl nd (sw_true rfl rfl rfl (by decide +kernel)) (di_seq (de_var 1)) (blkOk_by (own := [("flag", 10)]) (N := ["m", "w", "three", "first", "second", "third", "road", "kind", "row", "flags", "flag", "some", "other", "one", "two", "same", "part"]) (sc := defScope s__law_other_right) (by decide +kernel)) (fun _ _ _ _ _ => pg_name (i := 10) nd rfl (Or.inl rfl)) (fun _ _ _ _ _ => (dts_one (dt_ne hr.units (de_in (de_var 10) (de_var 5)) (de_eq hr.units (de_var 10) (de_ix (de_var 1) de_int))))) (fun _ _ _ _ _ => (de_var 10)))) (dbr_cons (dsr_set 11 (dr_of fun i => (de_lst (da_cons (de_lst (da_cons (de_add (de_var 3) (de_lst (da_cons (de_var 8) da_nil))) (da_cons (de_var 4) (da_cons (de_var 5) da_nil)))) (da_cons (de_lst (da_cons (de_var 3) (da_cons (de_add (de_var 4) (de_lst (da_cons (de_tup (da_cons (de_ix (de_var 1) de_int) (da_cons (de_tup (da_cons (de_tup (da_cons de_str (da_cons (de_pow de_int de_int) da_nil))) da_nil)) (da_cons de_str (da_cons (de_tup (da_cons de_int (da_cons de_int da_nil))) da_nil))))) da_nil))) (da_cons (de_var 5) da_nil)))) da_nil)))) nd) (dbr_cons (dsr_set 11 (dr_of fun i => (de_add (de_var 11) (de_lst (da_cons (de_lst (da_cons (de_var 3) (da_cons (de_var 4) (da_cons (de_var 9) da_nil)))) (da_cons (de_lst (da_cons (de_sl (de_var 3) (do_some de_int) do_none) (da_cons (de_var 4) (da_cons (de_var 5) da_nil)))) (da_cons (de_lst (da_cons (de_var 3) (da_cons (de_sl (de_var 4) (do_some de_int) do_none) (da_cons (de_var 5) da_nil)))) da_nil)))))) nd) (dbr_cons (dsr_set 12 (dr_of fun i => (de_ix (de_var 11) (de_var 6))) nd) (dbr_cons (dsr_parX 13 14 (dsl_x (dxr_make M_full hr (fun i => (da_cons (de_var 3) da_nil)) (fun i => (dk_cons (de_var 4) (dk_cons (de_var 5) dk_nil))) (by omega)) (dsl_x (dxr_make M_full hr (fun i => (da_cons (de_ix (de_var 12) de_int) da_nil)) (fun i => (dk_cons (de_ix (de_var 12) de_int) (dk_cons (de_ix (de_var 12) de_int) dk_nil))) (by omega)) dsl_nil)) nd) (dbr_cons (dsr_set 15 (dr_of fun i => (de_eq hr.units (de_lc 16 (x := "part") rfl nd (di_seq (de_var 2)) (blkOk_by (own := [("part", 16)]) (N := ["m", "w", "three", "first", "second", "third", "road", "kind", "row", "flags", "flag", "some", "other", "one", "two", "same", "part"]) (sc := defScope s__law_other_right) (by decide +kernel)) (fun _ _ _ _ _ => pg_name (i := 16) nd rfl (Or.inl rfl)) (fun _ _ _ _ _ => dts_nil) (fun _ _ _ _ _ => (de_sortedL (hu100 hr) B.sorted (da_cons (de_var 16) da_nil)))) (de_lc 16 (x := "part") rfl nd (di_seq (de_var 12)) (blkOk_by (own := [("part", 16)]) (N := ["m", "w", "three", "first", "second", "third", "road", "kind", "row", "flags", "flag", "some", "other", "one", "two", "same", "part"]) (sc := defScope s__law_other_right) (by decide +kernel)) (fun _ _ _ _ _ => pg_name (i := 16) nd rfl (Or.inl rfl)) (fun _ _ _ _ _ => dts_nil) (fun _ _ _ _ _ => (de_sortedL (hu100 hr) B.sorted (da_cons (de_var 16) da_nil)))))) nd) (dbr_one (dsr_ret (dr_of fun i => (de_eq hr.units (de_repr hgd hr.units B.repr (da_cons (de_lst (da_cons (de_eqOwn S_eq HC hr (dx_var 13) (dx_var 14) (by omega)) (da_cons (de_eqOwn S_eq HC hr (dx_var 14) (dx_var 13) (by omega)) (da_cons (de_neOwn S_eq HC hr (dx_var 13) (dx_var 14) (by omega)) da_nil)))) da_nil)) (de_repr hgd hr.units B.repr (da_cons (de_lst (da_cons (de_var 15) (da_cons (de_var 15) (da_cons (de_not (de_var 15)) da_nil)))) da_nil))))))))))))))), ?_⟩
  obtain ⟨v, ws, A, B', C, hd, rfl, hws, hlen, hnd, hT, hn, h⟩ := hc
  have hO := hT.other hws hnd hlen
  obtain ⟨cs, hcs, rfl⟩ : ∃ cs : List Str, cs.Sublist ws ∧ C = cs.map Dat.str := by
    obtain ⟨l, h1, h2⟩ := List.sublist_map_iff.mp hT.c
    exact ⟨l, h1, h2⟩
  (try dsimp only [startS, List.length_cons, List.length_nil, List.set_cons_succ, List.set_cons_zero, List.cons_append, List.nil_append, Nat.reduceAdd, Nat.reduceSub, List.replicate])
  (repeat (first | with_reducible refine rd_here (by with_unfolding_all exact rfl) ?_ | with_reducible refine rdRaw_here (by with_unfolding_all exact rfl) ?_ | with_reducible refine And.intro (by with_unfolding_all decide) ?_ | with_reducible refine isI_mk ?_ | with_reducible refine ownL_here (by with_unfolding_all exact rfl) ?_ | dsimp only))
  refine ⟨rfl, ?_⟩
  (try dsimp only [startS, List.length_cons, List.length_nil, List.set_cons_succ, List.set_cons_zero, List.cons_append, List.nil_append, Nat.reduceAdd, Nat.reduceSub, List.replicate])
  refine ⟨rfl, ?_⟩
  (try dsimp only [startS, List.length_cons, List.length_nil, List.set_cons_succ, List.set_cons_zero, List.cons_append, List.nil_append, Nat.reduceAdd, Nat.reduceSub, List.replicate])
  (repeat (first | with_reducible refine rd_here (by with_unfolding_all exact rfl) ?_ | with_reducible refine rdRaw_here (by with_unfolding_all exact rfl) ?_ | with_reducible refine And.intro (by with_unfolding_all decide) ?_ | with_reducible refine isI_mk ?_ | with_reducible refine ownL_here (by with_unfolding_all exact rfl) ?_ | dsimp only))
  refine draw_use (top := 5) hd (by decide) (by decide) (by omega) fun road hx0 hx1 => ?_
  (repeat (first | with_reducible refine rd_here (by with_unfolding_all exact rfl) ?_ | with_reducible refine rdRaw_here (by with_unfolding_all exact rfl) ?_ | with_reducible refine And.intro (by with_unfolding_all decide) ?_ | with_reducible refine isI_mk ?_ | with_reducible refine ownL_here (by with_unfolding_all exact rfl) ?_ | dsimp only))
  refine draw_use (top := 5) hd (by decide) (by decide) (by omega) fun x hy0 hy1 => ?_
  obtain ⟨q, rfl⟩ : ∃ q : Nat, x = (q : Int) := ⟨x.toNat, by omega⟩
  refine kind_use fun s hs => ?_
  (try dsimp only [startS, List.length_cons, List.length_nil, List.set_cons_succ, List.set_cons_zero, List.cons_append, List.nil_append, Nat.reduceAdd, Nat.reduceSub, List.replicate])
  refine two_mk ?_
  (try dsimp only [startS, List.length_cons, List.length_nil, List.set_cons_succ, List.set_cons_zero, List.cons_append, List.nil_append, Nat.reduceAdd, Nat.reduceSub, List.replicate])
  (repeat (first | with_reducible refine rd_here (by with_unfolding_all exact rfl) ?_ | with_reducible refine rdRaw_here (by with_unfolding_all exact rfl) ?_ | with_reducible refine And.intro (by with_unfolding_all decide) ?_ | with_reducible refine isI_mk ?_ | with_reducible refine ownL_here (by with_unfolding_all exact rfl) ?_ | dsimp only))
  have at19 : atI (ws.map Dat.str) (19 : Int) = some (.str ws[19]) := at_name (k := 19) (by omega)
  have at18 : atI (ws.map Dat.str) (18 : Int) = some (.str ws[18]) := at_name (k := 18) (by omega)
  have at5 : atI (ws.map Dat.str) (5 : Int) = some (.str ws[5]) := at_name (k := 5) (by omega)
  refine ix_lst at19 ?_
  (repeat (first | with_reducible refine rd_here (by with_unfolding_all exact rfl) ?_ | with_reducible refine rdRaw_here (by with_unfolding_all exact rfl) ?_ | with_reducible refine And.intro (by with_unfolding_all decide) ?_ | with_reducible refine isI_mk ?_ | with_reducible refine ownL_here (by with_unfolding_all exact rfl) ?_ | dsimp only))
  refine worth_use2 hd hs (by omega) fun dv j2 hdv hj2 => ?_
  have hrow := nam_mk (hws ws[19] (List.getElem_mem _)) hs hdv (by decide)
  generalize hrw : Dat.tup [.str ws[19], .str s, dv] = row at *
  refine ⟨by decide, ?_⟩
  (try dsimp only [startS, List.length_cons, List.length_nil, List.set_cons_succ, List.set_cons_zero, List.cons_append, List.nil_append, Nat.reduceAdd, Nat.reduceSub, List.replicate])
  (repeat (first | with_reducible refine rd_here (by with_unfolding_all exact rfl) ?_ | with_reducible refine rdRaw_here (by with_unfolding_all exact rfl) ?_ | with_reducible refine And.intro (by with_unfolding_all decide) ?_ | with_reducible refine isI_mk ?_ | with_reducible refine ownL_here (by with_unfolding_all exact rfl) ?_ | dsimp only))
  rw [seqOf_lst]
  let pD : Dat → Bool := fun d => match d with
    | .str z => decide (z ∈ cs) != decide (z = ws[5])
    | _ => false
  refine compF_filter (p := pD) (f := fun x => x) (fun y hy Q hQ => ?_) (fun y hy _ Q hQ => ?_) (by have := line_big; simp; omega) ?_
  · obtain ⟨z, hz, rfl⟩ := List.mem_map.mp hy
    (try dsimp only [startS, List.length_cons, List.length_nil, List.set_cons_succ, List.set_cons_zero, List.cons_append, List.nil_append, Nat.reduceAdd, Nat.reduceSub, List.replicate])
    (repeat (first | with_reducible refine rd_here (by with_unfolding_all exact rfl) ?_ | with_reducible refine rdRaw_here (by with_unfolding_all exact rfl) ?_ | with_reducible refine And.intro (by with_unfolding_all decide) ?_ | with_reducible refine isI_mk ?_ | with_reducible refine ownL_here (by with_unfolding_all exact rfl) ?_ | dsimp only))
    refine in_use ?_
    (repeat (first | with_reducible refine rd_here (by with_unfolding_all exact rfl) ?_ | with_reducible refine rdRaw_here (by with_unfolding_all exact rfl) ?_ | with_reducible refine And.intro (by with_unfolding_all decide) ?_ | with_reducible refine isI_mk ?_ | with_reducible refine ownL_here (by with_unfolding_all exact rfl) ?_ | dsimp only))
    refine ix_lst at5 ?_
    rw [eqD_str]
    exact ne_bl hQ
  · (try dsimp only [startS, List.length_cons, List.length_nil, List.set_cons_succ, List.set_cons_zero, List.cons_append, List.nil_append, Nat.reduceAdd, Nat.reduceSub, List.replicate])
    (repeat (first | with_reducible refine rd_here (by with_unfolding_all exact rfl) ?_ | with_reducible refine rdRaw_here (by with_unfolding_all exact rfl) ?_ | with_reducible refine And.intro (by with_unfolding_all decide) ?_ | with_reducible refine isI_mk ?_ | with_reducible refine ownL_here (by with_unfolding_all exact rfl) ?_ | dsimp only))
    exact hQ
  rw [List.nil_append, List.map_id']
  have hfl : ((ws.map Dat.str).filter pD).Sublist (ws.map Dat.str) := List.filter_sublist
  generalize hfg : (ws.map Dat.str).filter pD = flags at *
  (try dsimp only [startS, List.length_cons, List.length_nil, List.set_cons_succ, List.set_cons_zero, List.cons_append, List.nil_append, Nat.reduceAdd, Nat.reduceSub, List.replicate])
  (repeat (first | with_reducible refine rd_here (by with_unfolding_all exact rfl) ?_ | with_reducible refine rdRaw_here (by with_unfolding_all exact rfl) ?_ | with_reducible refine And.intro (by with_unfolding_all decide) ?_ | with_reducible refine isI_mk ?_ | with_reducible refine ownL_here (by with_unfolding_all exact rfl) ?_ | dsimp only))
  have hAl := hT.al
  have hBl := hT.bl
  have big : 1000 ≤ sizeLine := by decide
  rw [addD_lst]
  refine ⟨Nat.le_trans (show A.length + 1 ≤ 1000 by omega) big, ?_⟩
  (repeat (first | with_reducible refine rd_here (by with_unfolding_all exact rfl) ?_ | with_reducible refine rdRaw_here (by with_unfolding_all exact rfl) ?_ | with_reducible refine And.intro (by with_unfolding_all decide) ?_ | with_reducible refine isI_mk ?_ | with_reducible refine ownL_here (by with_unfolding_all exact rfl) ?_ | dsimp only))
  refine ix_lst at18 ?_
  refine ⟨show CPow _ _ from ⟨by decide, by decide, by decide⟩, ?_⟩
  dsimp only
  rw [show ((10 : Int) ^ (40 : Int).toNat) = 10 ^ 40 from rfl]
  (repeat (first | with_reducible refine rd_here (by with_unfolding_all exact rfl) ?_ | with_reducible refine rdRaw_here (by with_unfolding_all exact rfl) ?_ | with_reducible refine And.intro (by with_unfolding_all decide) ?_ | with_reducible refine isI_mk ?_ | with_reducible refine ownL_here (by with_unfolding_all exact rfl) ?_ | dsimp only))
  rw [addD_lst]
  refine ⟨Nat.le_trans (show B'.length + 1 ≤ 1000 by omega) big, ?_⟩
  (repeat (first | with_reducible refine rd_here (by with_unfolding_all exact rfl) ?_ | with_reducible refine rdRaw_here (by with_unfolding_all exact rfl) ?_ | with_reducible refine And.intro (by with_unfolding_all decide) ?_ | with_reducible refine isI_mk ?_ | with_reducible refine ownL_here (by with_unfolding_all exact rfl) ?_ | dsimp only))
  have hgr := cal_great (hws ws[18] (List.getElem_mem _))
  generalize hgw : Dat.tup [.str ws[18], .tup [.tup [.str "thing", .int (10 ^ 40)]], .str "num", .tup [.int 1, .int 7]] = grow at *
  (try dsimp only [startS, List.length_cons, List.length_nil, List.set_cons_succ, List.set_cons_zero, List.cons_append, List.nil_append, Nat.reduceAdd, Nat.reduceSub, List.replicate])
  (repeat (first | with_reducible refine rd_here (by with_unfolding_all exact rfl) ?_ | with_reducible refine rdRaw_here (by with_unfolding_all exact rfl) ?_ | with_reducible refine And.intro (by with_unfolding_all decide) ?_ | with_reducible refine isI_mk ?_ | with_reducible refine ownL_here (by with_unfolding_all exact rfl) ?_ | dsimp only))
  refine drop1_use ?_
  (repeat (first | with_reducible refine rd_here (by with_unfolding_all exact rfl) ?_ | with_reducible refine rdRaw_here (by with_unfolding_all exact rfl) ?_ | with_reducible refine And.intro (by with_unfolding_all decide) ?_ | with_reducible refine isI_mk ?_ | with_reducible refine ownL_here (by with_unfolding_all exact rfl) ?_ | dsimp only))
  refine drop1_use ?_
  (repeat (first | with_reducible refine rd_here (by with_unfolding_all exact rfl) ?_ | with_reducible refine rdRaw_here (by with_unfolding_all exact rfl) ?_ | with_reducible refine And.intro (by with_unfolding_all decide) ?_ | with_reducible refine isI_mk ?_ | with_reducible refine ownL_here (by with_unfolding_all exact rfl) ?_ | dsimp only))
  rw [addD_lst]
  refine ⟨Nat.le_trans (show 5 ≤ 1000 by decide) big, ?_⟩
  (try dsimp only [startS, List.length_cons, List.length_nil, List.set_cons_succ, List.set_cons_zero, List.cons_append, List.nil_append, Nat.reduceAdd, Nat.reduceSub, List.replicate])
  (repeat (first | with_reducible refine rd_here (by with_unfolding_all exact rfl) ?_ | with_reducible refine rdRaw_here (by with_unfolding_all exact rfl) ?_ | with_reducible refine And.intro (by with_unfolding_all decide) ?_ | with_reducible refine isI_mk ?_ | with_reducible refine ownL_here (by with_unfolding_all exact rfl) ?_ | dsimp only))
  have hother : ∀ d ∈ ([.lst [.lst (A ++ [row]), .lst B', .lst (cs.map Dat.str)], .lst [.lst A, .lst (B' ++ [grow]), .lst (cs.map Dat.str)], .lst [.lst A, .lst B', .lst flags], .lst [.lst (A.drop 1), .lst B', .lst (cs.map Dat.str)], .lst [.lst A, .lst (B'.drop 1), .lst (cs.map Dat.str)]] : List Dat), ∃ O1 O2 O3, d = .lst [.lst O1, .lst O2, .lst O3] ∧ OtherOk O1 O2 O3 := fun d hdd => by
    simp only [List.mem_cons, List.not_mem_nil, or_false] at hdd
    rcases hdd with rfl | rfl | rfl | rfl | rfl
    · refine ⟨_, _, _, rfl, other_name hO hAl hrow fun x hx e => ?_⟩
      have hm : headD x ∈ (ws.take A.length).map Dat.str := by rw [← hT.ah]; exact List.mem_map.mpr ⟨x, hx, rfl⟩
      obtain ⟨z, hz, hzx⟩ := List.mem_map.mp hm
      rw [← hzx] at e
      have hz2 := List.mem_of_mem_take hz
      have e2 := code_str (lay_name (hws z hz2)) (lay_name (hws _ (List.getElem_mem (show 19 < ws.length by omega)))) e
      subst e2
      exact not_late hnd (by omega) (by omega) hz
    · refine ⟨_, _, _, rfl, other_call hO hBl hgr fun x hx => ?_⟩
      obtain ⟨z, hz, hzx⟩ := hT.b x hx
      refine ⟨z, fun e => ?_, hzx⟩
      subst e
      exact not_late (n := 4) hnd (by omega) (by omega) hz
    · refine ⟨_, _, _, rfl, other_props hO (fun d hd => ?_) ?_ ?_⟩
      · obtain ⟨z, hz, rfl⟩ := List.mem_map.mp (hfl.subset hd)
        exact hws z hz
      · have := nodup_codes hws hnd
        have e : (ws.map fun z => codeD (.str z)) = (ws.map Dat.str).map fun d => codeD (id d) := by rw [List.map_map]; rfl
        rw [e] at this
        exact this.sublist (hfl.map _)
      · have := hfl.length_le
        rw [List.length_map] at this; omega
    · exact ⟨_, _, _, rfl, other_dropA hO⟩
    · exact ⟨_, _, _, rfl, other_dropB hO⟩
  refine ixL_use hx0 hx1 fun other hoth => ?_
  obtain ⟨O1, O2, O3, rfl, hX⟩ := hother other hoth
  clear hother hoth
  generalize hsome : Dat.lst ([.lst [.lst (A ++ [row]), .lst B', .lst (cs.map Dat.str)], .lst [.lst A, .lst (B' ++ [grow]), .lst (cs.map Dat.str)], .lst [.lst A, .lst B', .lst flags], .lst [.lst (A.drop 1), .lst B', .lst (cs.map Dat.str)], .lst [.lst A, .lst (B'.drop 1), .lst (cs.map Dat.str)]] : List Dat) = someD
  generalize cs.map Dat.str = C at *
  (try dsimp only [startS, List.length_cons, List.length_nil, List.set_cons_succ, List.set_cons_zero, List.cons_append, List.nil_append, Nat.reduceAdd, Nat.reduceSub, List.replicate])
  (repeat (first | with_reducible refine rd_here (by with_unfolding_all exact rfl) ?_ | with_reducible refine rdRaw_here (by with_unfolding_all exact rfl) ?_ | with_reducible refine And.intro (by with_unfolding_all decide) ?_ | with_reducible refine isI_mk ?_ | with_reducible refine ownL_here (by with_unfolding_all exact rfl) ?_ | dsimp only))
  have hl := hO.la
  have hl2 := hO.lb
  have hl3 := hO.lc
  have gl := hX.la
  have gl2 := hX.lb
  have gl3 := hX.lc
  refine ⟨_, _, _, rfl, rows_use ⟨A, .refl _, .inl rfl⟩ (fun x hx => (hO.r.ga x hx).ok) hO.r.ra hO.r.ka (by omega) fun e1 p1 s1 => rows_use ⟨B', .refl _, .inl rfl⟩ (fun x hx => (hO.r.gb x hx).ok) hO.r.rb hO.r.kb (by omega) fun e2 p2 s2 => rows_use ⟨C, .refl _, .inl rfl⟩ (fun x hx => (hO.r.gc x hx).ok) hO.r.rc hO.r.kc (by omega) fun e3 p3 s3 => ?_⟩
  (repeat (first | with_reducible refine rd_here (by with_unfolding_all exact rfl) ?_ | with_reducible refine rdRaw_here (by with_unfolding_all exact rfl) ?_ | with_reducible refine And.intro (by with_unfolding_all decide) ?_ | with_reducible refine isI_mk ?_ | with_reducible refine ownL_here (by with_unfolding_all exact rfl) ?_ | dsimp only))
  refine ix_lst rfl ?_
  (repeat (first | with_reducible refine rd_here (by with_unfolding_all exact rfl) ?_ | with_reducible refine rdRaw_here (by with_unfolding_all exact rfl) ?_ | with_reducible refine And.intro (by with_unfolding_all decide) ?_ | with_reducible refine isI_mk ?_ | with_reducible refine ownL_here (by with_unfolding_all exact rfl) ?_ | dsimp only))
  refine ix_lst rfl ?_
  (repeat (first | with_reducible refine rd_here (by with_unfolding_all exact rfl) ?_ | with_reducible refine rdRaw_here (by with_unfolding_all exact rfl) ?_ | with_reducible refine And.intro (by with_unfolding_all decide) ?_ | with_reducible refine isI_mk ?_ | with_reducible refine ownL_here (by with_unfolding_all exact rfl) ?_ | dsimp only))
  refine ix_lst rfl ?_
  refine ⟨rfl, rfl, _, _, _, rfl, rows_use ⟨O1, .refl _, .inl rfl⟩ (fun x hx => (hX.r.ga x hx).ok) hX.r.ra hX.r.ka (by omega) fun o1 q1 t1 => rows_use ⟨O2, .refl _, .inl rfl⟩ (fun x hx => (hX.r.gb x hx).ok) hX.r.rb hX.r.kb (by omega) fun o2 q2 t2 => rows_use ⟨O3, .refl _, .inl rfl⟩ (fun x hx => (hX.r.gc x hx).ok) hX.r.rc hX.r.kc (by omega) fun o3 q3 t3 => ?_⟩
  refine two_mk ?_
  (try dsimp only [startS, List.length_cons, List.length_nil, List.set_cons_succ, List.set_cons_zero, List.cons_append, List.nil_append, Nat.reduceAdd, Nat.reduceSub, List.replicate])
  (repeat (first | with_reducible refine rd_here (by with_unfolding_all exact rfl) ?_ | with_reducible refine rdRaw_here (by with_unfolding_all exact rfl) ?_ | with_reducible refine And.intro (by with_unfolding_all decide) ?_ | with_reducible refine isI_mk ?_ | with_reducible refine ownL_here (by with_unfolding_all exact rfl) ?_ | dsimp only))
  rw [seqOf_lst]
  refine compF_one ?_
  (try dsimp only [startS, List.length_cons, List.length_nil, List.set_cons_succ, List.set_cons_zero, List.cons_append, List.nil_append, Nat.reduceAdd, Nat.reduceSub, List.replicate])
  (repeat (first | with_reducible refine rd_here (by with_unfolding_all exact rfl) ?_ | with_reducible refine rdRaw_here (by with_unfolding_all exact rfl) ?_ | with_reducible refine And.intro (by with_unfolding_all decide) ?_ | with_reducible refine isI_mk ?_ | with_reducible refine ownL_here (by with_unfolding_all exact rfl) ?_ | dsimp only))
  refine ⟨sortP_N hO.r.ra, fun f1 pf1 sf1 => ?_⟩
  obtain rfl : f1 = e1 := srt_uniq (fun x hx y hy => keyN (hO.r.ra x hx) (hO.r.ra y hy)) hO.r.ka pf1 sf1 p1 s1
  refine ⟨by decide, compF_one ?_⟩
  (try dsimp only [startS, List.length_cons, List.length_nil, List.set_cons_succ, List.set_cons_zero, List.cons_append, List.nil_append, Nat.reduceAdd, Nat.reduceSub, List.replicate])
  (repeat (first | with_reducible refine rd_here (by with_unfolding_all exact rfl) ?_ | with_reducible refine rdRaw_here (by with_unfolding_all exact rfl) ?_ | with_reducible refine And.intro (by with_unfolding_all decide) ?_ | with_reducible refine isI_mk ?_ | with_reducible refine ownL_here (by with_unfolding_all exact rfl) ?_ | dsimp only))
  refine ⟨sortP_C hO.r.rb, fun f2 pf2 sf2 => ?_⟩
  obtain rfl : f2 = e2 := srt_uniq (fun x hx y hy => keyC (hO.r.rb x hx) (hO.r.rb y hy)) hO.r.kb pf2 sf2 p2 s2
  refine ⟨by decide, compF_one ?_⟩
  (try dsimp only [startS, List.length_cons, List.length_nil, List.set_cons_succ, List.set_cons_zero, List.cons_append, List.nil_append, Nat.reduceAdd, Nat.reduceSub, List.replicate])
  (repeat (first | with_reducible refine rd_here (by with_unfolding_all exact rfl) ?_ | with_reducible refine rdRaw_here (by with_unfolding_all exact rfl) ?_ | with_reducible refine And.intro (by with_unfolding_all decide) ?_ | with_reducible refine isI_mk ?_ | with_reducible refine ownL_here (by with_unfolding_all exact rfl) ?_ | dsimp only))
  refine ⟨sortP_P hO.r.rc, fun f3 pf3 sf3 => ?_⟩
  obtain rfl : f3 = e3 := srt_uniq (κ := id) (fun x hx y hy z => z) hO.r.kc pf3 sf3 p3 s3
  refine ⟨by decide, compF_end ?_⟩
  (repeat (first | with_reducible refine rd_here (by with_unfolding_all exact rfl) ?_ | with_reducible refine rdRaw_here (by with_unfolding_all exact rfl) ?_ | with_reducible refine And.intro (by with_unfolding_all decide) ?_ | with_reducible refine isI_mk ?_ | with_reducible refine ownL_here (by with_unfolding_all exact rfl) ?_ | dsimp only))
  rw [seqOf_lst]
  refine compF_one ?_
  (try dsimp only [startS, List.length_cons, List.length_nil, List.set_cons_succ, List.set_cons_zero, List.cons_append, List.nil_append, Nat.reduceAdd, Nat.reduceSub, List.replicate])
  (repeat (first | with_reducible refine rd_here (by with_unfolding_all exact rfl) ?_ | with_reducible refine rdRaw_here (by with_unfolding_all exact rfl) ?_ | with_reducible refine And.intro (by with_unfolding_all decide) ?_ | with_reducible refine isI_mk ?_ | with_reducible refine ownL_here (by with_unfolding_all exact rfl) ?_ | dsimp only))
  refine ⟨sortP_N hX.r.ra, fun g1 pg1 sg1 => ?_⟩
  obtain rfl : g1 = o1 := srt_uniq (fun x hx y hy => keyN (hX.r.ra x hx) (hX.r.ra y hy)) hX.r.ka pg1 sg1 q1 t1
  refine ⟨by decide, compF_one ?_⟩
  (try dsimp only [startS, List.length_cons, List.length_nil, List.set_cons_succ, List.set_cons_zero, List.cons_append, List.nil_append, Nat.reduceAdd, Nat.reduceSub, List.replicate])
  (repeat (first | with_reducible refine rd_here (by with_unfolding_all exact rfl) ?_ | with_reducible refine rdRaw_here (by with_unfolding_all exact rfl) ?_ | with_reducible refine And.intro (by with_unfolding_all decide) ?_ | with_reducible refine isI_mk ?_ | with_reducible refine ownL_here (by with_unfolding_all exact rfl) ?_ | dsimp only))
  refine ⟨sortP_C hX.r.rb, fun g2 pg2 sg2 => ?_⟩
  obtain rfl : g2 = o2 := srt_uniq (fun x hx y hy => keyC (hX.r.rb x hx) (hX.r.rb y hy)) hX.r.kb pg2 sg2 q2 t2
  refine ⟨by decide, compF_one ?_⟩
  (try dsimp only [startS, List.length_cons, List.length_nil, List.set_cons_succ, List.set_cons_zero, List.cons_append, List.nil_append, Nat.reduceAdd, Nat.reduceSub, List.replicate])
  (repeat (first | with_reducible refine rd_here (by with_unfolding_all exact rfl) ?_ | with_reducible refine rdRaw_here (by with_unfolding_all exact rfl) ?_ | with_reducible refine And.intro (by with_unfolding_all decide) ?_ | with_reducible refine isI_mk ?_ | with_reducible refine ownL_here (by with_unfolding_all exact rfl) ?_ | dsimp only))
  refine ⟨sortP_P hX.r.rc, fun g3 pg3 sg3 => ?_⟩
  obtain rfl : g3 = o3 := srt_uniq (κ := id) (fun x hx y hy z => z) hX.r.kc pg3 sg3 q3 t3
  refine ⟨by decide, compF_end ?_⟩
  have lyN : ∀ {us es : List Dat}, (∀ x ∈ us, Gud x) → es.Perm us → ∀ x ∈ es, LD x 8 := fun h p x hx => (h x (p.mem_iff.mp hx)).sho.ld
  have sh3 : ∀ {a b c : List Dat}, (∀ x ∈ a, LD x 8) → (∀ x ∈ b, LD x 8) → (∀ x ∈ c, LD x 8) → SeqAt.shaped (toP (.lst [.lst a, .lst b, .lst c])) = true ∧ (shp (.tup a) ∧ shp (.tup b) ∧ shp (.tup c)) ∧ ∀ d ∈ ([.tup a, .tup b, .tup c] : List Dat), Lay d := fun {a b c} ha hb hc => by
    have ll : ∀ {x : List Dat}, (∀ y ∈ x, LD y 8) → LD (.lst x) 9 := fun {x} h => by
      have t := LD.tup h
      refine ⟨?_, ?_⟩
      · have := t.1
        unfold Lay at this ⊢
        simp only [toP, PyData.canLay0] at this ⊢
        exact this
      · have := t.2
        simp only [toP, PyData.depth] at this ⊢
        exact this
    refine ⟨shaped_list fun x hx => ?_, ⟨shaped_ld (LD.tup ha) (by decide), shaped_ld (LD.tup hb) (by decide), shaped_ld (LD.tup hc) (by decide)⟩, fun d hd => ?_⟩
    · simp only [List.mem_cons, List.not_mem_nil, or_false] at hx
      rcases hx with rfl | rfl | rfl
      · exact (ll ha).mono (by decide)
      · exact (ll hb).mono (by decide)
      · exact (ll hc).mono (by decide)
    · simp only [List.mem_cons, List.not_mem_nil, or_false] at hd
      rcases hd with rfl | rfl | rfl
      · exact (LD.tup ha).1
      · exact (LD.tup hb).1
      · exact (LD.tup hc).1
  obtain ⟨shE, shE3, lyE⟩ := sh3 (lyN hO.r.ga p1) (lyN hO.r.gb p2) (lyN hO.r.gc p3)
  obtain ⟨shX, shX3, lyX⟩ := sh3 (lyN hX.r.ga q1) (lyN hX.r.gb q2) (lyN hX.r.gc q3)
  refine ⟨shE, shX, ?_⟩
  rw [eq3_lst]
  have hsy := eq3_symm lyE lyX
  generalize hb : eq3 [.tup f1, .tup f2, .tup f3] [.tup g1, .tup g2, .tup g3] = bb at *
  (try dsimp only [startS, List.length_cons, List.length_nil, List.set_cons_succ, List.set_cons_zero, List.cons_append, List.nil_append, Nat.reduceAdd, Nat.reduceSub, List.replicate])
  refine ⟨_, rfl, ⟨_, _, _, rfl⟩, _, rfl, ⟨_, _, _, rfl⟩, none, f1, f2, f3, _, rfl, shE3, .inr ⟨none, g1, g2, g3, rfl, shX3, ?_⟩⟩
  rw [hb]
  refine ⟨_, rfl, ⟨_, _, _, rfl⟩, _, rfl, ⟨_, _, _, rfl⟩, none, g1, g2, g3, _, rfl, shX3, .inr ⟨none, f1, f2, f3, rfl, shE3, ?_⟩⟩
  rw [← hsy]
  refine ⟨_, rfl, ⟨_, _, _, rfl⟩, _, rfl, ⟨_, _, _, rfl⟩, none, f1, f2, f3, _, rfl, shE3, .inr ⟨none, g1, g2, g3, rfl, shX3, ?_⟩⟩
  rw [hb]
  have shb : Sho (.lst [.bl bb, .bl bb, .bl (!bb)]) 1 3 := Sho.lst (m := 0) (n := 0) (l := 3) (fun d hd => by
    simp only [List.mem_cons, List.not_mem_nil, or_false] at hd
    rcases hd with rfl | rfl | rfl <;> exact sho_bl) (by simp)
  refine ⟨by decide, repr_use shb (by decide) (by decide) ?_⟩
  (repeat (first | with_reducible refine rd_here (by with_unfolding_all exact rfl) ?_ | with_reducible refine rdRaw_here (by with_unfolding_all exact rfl) ?_ | with_reducible refine And.intro (by with_unfolding_all decide) ?_ | with_reducible refine isI_mk ?_ | with_reducible refine ownL_here (by with_unfolding_all exact rfl) ?_ | dsimp only))
  rw [isB_bl]
  refine ⟨by decide, repr_use shb (by decide) (by decide) ?_⟩
  rw [eqD_str, decide_eq_true rfl]
  exact h _ (by omega)
end
end K01
namespace DL
open PySem PySem.Spec PyProof.Rows L2
/-! ### repr of a list that holds an instance -/
def ItemR (K : PySem.W.Frag) (C : Addr) (sp : Sp) (E : XK) (H : Hp) (v : V) (t : Str) : Prop :=
  (∃ d : PyData, (∀ H1, Evl.Ex H H1 → Dp K H1 v d) ∧ d.showable = true ∧ d.hasDict = false ∧ d.depth ≤ 60 ∧ t = d.shown) ∨
  (∃ a dx fs, v = .ref a ∧ H a = some (.ins C dx fs) ∧ ∀ H1, Evl.Ex H H1 → sp [v] H1 (fun z H' => Evl.Ex H1 H' ∧ z = .str t) E)
theorem loop_frames {A : Around} {args : Args} : (A.under (.builtin "list.__repr__.loop" args)).frames = A.frames := by
  first | rfl | simp [Around.under, Code.envs, pushEnvs]
theorem loop_depth {A : Around} {args : Args} : (A.under (.builtin "list.__repr__.loop" args)).depth ≤ A.depth + 1 := by
  first | exact Nat.le_refl _ | (show _ + _ ≤ _; exact Nat.add_le_add_left (by first | decide | (simp [Code.weight, Code.isCreation, Code.isGuard, Code.isCaller, Code.frames, Code.isFrame, guardIds])) _)
theorem Room.loop {k : Nat} {A : Around} (r : Room (k + 1) A) (args : Args) : Room k (A.under (.builtin "list.__repr__.loop" args)) :=
  ⟨r.hd, by have := r.dp; have := loop_depth (A := A) (args := args); omega, by have := r.un; rw [units_under_list_loop]; omega⟩
theorem ifBoundBy_K {M : Model} {A : Around} {E : Value → Shared → Prop} {s : Shared} {K : PySem.W.Frag} {x C f : Addr} {ox : Obj} {od : Option Obj} {name : Str} {last : Value → List Value → Sem Value} {Q : Option Value → Shared → Prop} (X : K.In s.heap) (I : PySem.W.InstAt s.heap x ox C od) (hs : PySem.W.findIn K (.ref C) name = some (some (.ref f))) (hf : PySem.W.isFn K (.ref f) = true)
    (h : wpAny M A (last (.ref f) [.ref x]) (fun v => Q (some v)) E s) : wpAny M A (callSpecialIfBoundBy? last (.ref x) name) Q E s := by
  simp only [callSpecialIfBoundBy?, bindSpecialIfBound?]
  refine wpAny_holding (wpAny_bind (wpAny_bind (wpAny_bind (I.type.here ((PySem.W.looks_findIn X hs).here ?_)))))
  refine wpAny_bind (wpAny_askSetting (wpAny_ite ?_))
  have fin : wpAny M A (last (.ref f) [.ref x] >>= fun v => pure (some v)) Q E s := wpAny_bind (wpAny_mono h (fun v s' h' => wpAny_pure h') fun _ _ h' => h')
  split
  · exact wpAny_bind ((PySem.W.bind_fn X _ (beq_iff_eq.mp hf)).here (wpAny_pure (by exact fin)))
  · exact wpAny_tryCatch (wpAny_bind ((PySem.W.bind_fn X _ (beq_iff_eq.mp hf)).here (wpAny_pure (by exact fin))))
theorem noReads_ins {h : Heap} {x : Addr} {o : Obj} {C : Addr} {d : PyData} {as : List Addr} (e : h.get? x = some o) (hc : o.cls = .ref C) (r : Reads h (.ref x) d as) : False := by
  cases r with
  | list h1 h2 h3 h4 => rw [e] at h1; cases h1; rw [hc] at h2; cases h2
  | tuple h1 h2 h3 h4 => rw [e] at h1; cases h1; rw [hc] at h2; cases h2
  | dict h1 h2 h3 h4 h5 => rw [e] at h1; cases h1; rw [hc] at h2; cases h2
theorem noReadsAll_ins {h : Heap} {x : Addr} {o : Obj} {C : Addr} (e : h.get? x = some o) (hc : o.cls = .ref C) : ∀ {vs : List Value} {ds : List PyData} {as : List Addr}, ReadsAll h vs ds as → Value.ref x ∈ vs → False
  | _, _, _, .nil, m => nomatch m
  | _, _, _, .cons r t, m => by
    rcases List.mem_cons.mp m with z | z
    · cases z; exact noReads_ins e hc r
    · exact noReadsAll_ins e hc t z
section
variable {X : Cx} {CX : CXT} {pins : List (Addr × Obj)} {σ : L2.St} {H H1 : Hp} {s : Shared} {f C a : Addr} {fd : FuncData} {n : Nat} {ps : List Str} {sp : Sp} {E : XK}
theorem item_wp {A : Around} {Q : Str → Shared → Prop} {v : V} {u : Value} {t : Str} {base : Nat} {rest : List Value} {kw : List (Str × Value)} (hs : Spc X.K C "__repr__" f) (F : FnOk X.prog X.w X.K X.mg X.base CX n f fd ps sp) (hb : Binds X.K fd ps []) (hx : Passes CX X E)
    (I : Inv X pins σ H1 s) (hk : Evl.Ex H H1) (hno : ∀ d as, ¬ Reads s.heap (.ref a) d as) (r : RelV v u) (it : ItemR X.K C sp E H v t) (hg : A.guards = some [.builtin "list.__repr__.loop" ⟨.ref a :: rest, kw⟩]) (hr : Room n A) (hf : A.frames = X.A.frames) (hz : base + t.length ≤ sizeLine)
    (q : ∀ s' H', Inv X pins σ H' s' → Evl.Ex H1 H' → Q t s') : wpAny (model X.prog X.w) A (pyReprUnder base u) Q X.xe s := by
  rcases it with ⟨d, hd, h1, h2, h3, rfl⟩ | ⟨x, dx, fs, rfl, e, hq⟩
  · obtain ⟨as, rd⟩ := Dp.reads I d v u (hd H1 hk) r
    obtain ⟨bs, hb', hK⟩ := ReprK.of_reads (prog := X.prog) (w := X.w) rd h1 (fun z => by rw [h2] at z; cases z) (by omega)
    refine hK base hz A _ X.xe s Q hg (fun b hb => (Clear.nil b).cons fun z => ?_) (by have := hr.units; omega) (fun _ _ e => e) fun h' tk k => q _ H1 (I.kept k) (Evl.Ex.refl _)
    subst z
    obtain ⟨d', as', r', _⟩ := hb' _ hb
    exact hno _ _ r'
  · cases (show u = Value.ref x from r)
    obtain ⟨mA, J, _⟩ := ins_get I.hok (hk _ _ e)
    obtain ⟨od, J, _⟩ := J.look
    refine wpAny_pyReprUnder_ref (by omega) ?_
    unfold pyReprObjUnder pyReprObjBy
    refine wpAny_bind (wpAny_cRoomFor hr.units0 ?_)
    refine wpAny_bind (wpAny_bind (J.type.here ((PySem.W.looks_findIn I.kIn hs.at_).here ?_)))
    show wpAny _ _ (if (some (Value.ref f)).isNone = true then _ else _) _ _ _
    rw [if_neg (by simp)]
    refine wpAny_bind (ifBoundBy_K (name := Str.ofString "__repr__") I.kIn J hs.at_ hs.fn ?_)
    refine wpAny_mono (run_own (A := A) (us := [.ref x]) (vs := [.ref x]) F hb hr hf hx I (.cons rfl .nil) (hq H1 hk)) (fun w s' z => ?_) fun _ _ x => x
    obtain ⟨z', H', I', rz, k, rfl⟩ := z
    obtain ⟨tt, e⟩ := (show ∃ t', w = Value.str t t' from rz)
    cases e
    refine wpAny_bind (wpAny_isInstance (typeIs_str _ _ _) isSubtype_str_str ?_)
    first
      | exact wpAny_pure ⟨_, _, rfl, q _ H' I' k⟩
      | (rw [if_pos rfl]; exact wpAny_pure ⟨_, _, rfl, q _ H' I' k⟩)
theorem vals_mem : ∀ {vs : List V} {us : List Value} {x : Addr}, Vals vs us → V.ref x ∈ vs → Value.ref x ∈ us
  | _, _, _, .nil, m => nomatch m
  | _, _, _, .cons r t, m => by
    rcases List.mem_cons.mp m with z | z
    · subst z
      cases r
      exact List.mem_cons_self
    · exact List.mem_cons_of_mem _ (vals_mem t z)
theorem vals_strs : ∀ {ts : List Str} {us : List Value}, Vals (ts.map V.str) us → ∃ done : List (Str × Tok), us = strValues done ∧ done.map (·.1) = ts
  | [], _, .nil => ⟨[], rfl, rfl⟩
  | t :: ts, _, .cons r q => by
    obtain ⟨k, rfl⟩ := r
    obtain ⟨d, rfl, e⟩ := vals_strs q
    exact ⟨(t, k) :: d, rfl, by rw [List.map_cons, e]⟩
theorem no_reads (I : Inv X pins σ H1 s) {vs : List V} {x dx : Addr} {fs} (ha : H1 a = some (.lst vs)) (hm : V.ref x ∈ vs) (hi : H1 x = some (.ins C dx fs)) : ∀ d as, ¬ Reads s.heap (.ref a) d as := fun d as r => by
  obtain ⟨z, its, m, rv, hl, e⟩ := I.lstM ha
  obtain ⟨mA, J, _⟩ := ins_get I.hok hi
  obtain ⟨od, J, _⟩ := J.look
  cases r with
  | list h1 h2 h3 h4 => rw [e] at h1; cases h1; cases h3; exact noReadsAll_ins J.at_ J.cls h4 (vals_mem rv hm)
  | tuple h1 h2 h3 h4 => rw [e] at h1; cases h1; exact absurd h2 (by simp)
  | dict h1 h2 h3 h4 h5 => rw [e] at h1; cases h1; exact absurd h2 (by simp)
theorem loop_own {A : Around} {R : Result → Shared → Prop} {vs : List V} {ts : List Str} {x dx P : Addr} {fs} (hs : Spc X.K C "__repr__" f) (FO : FnOk X.prog X.w X.K X.mg X.base CX n f fd ps sp) (hb : Binds X.K fd ps []) (hx : Passes CX X E)
    (hg : A.guards = some []) (hr : Room (n + 1) A) (hf : A.frames = X.A.frames) (ha : H a = some (.lst vs)) (hm : V.ref x ∈ vs) (hi : H x = some (.ins C dx fs)) (hP : H P = none) (hlen : ts.length = vs.length)
    (hT : ∀ (i : Nat) (v : V), vs[i]? = some v → ∃ t, ts[i]? = some t ∧ ItemR X.K C sp E H v t) (hsz : (listText ts).length ≤ sizeLine)
    (hE : ∀ e s', X.xe e s' → R (.error e) s') (hR : ∀ s' H' u, Inv X pins σ H' s' → Evl.Ex H H' → R (.ok (.ret (.str (listText ts) u))) s') :
    ∀ (k i : Nat) (s : Shared) (H1 : Hp), vs.length - i = k → i ≤ vs.length → Inv X pins σ H1 s → Evl.Ex H H1 → H1 P = some (.lst ((ts.take i).map V.str)) →
    codeAny (model X.prog X.w) A (.builtin "list.__repr__.loop" ⟨[.ref a, rawInt i, .ref P, rawInt ((piled (ts.take i) : Nat) : Int)], []⟩) R s := by
  have hX : (listText ts).length = (textFrom 0 "[" ts).length + 1 := by
    show (textFrom 0 "[" ts ++ "]").length = _
    rw [strLen_append]; rfl
  have hL := textFrom_len ts 0 "["
  have hsz1 : vs.length ≤ sizeLine := by
    have h1 := hL.1
    rw [if_neg (Nat.lt_irrefl 0)] at h1
    omega
  have hsz2 : ∀ t ∈ ts, t.length ≤ sizeLine := fun t ht => by
    have h2 := hL.2.1 t ht
    omega
  have hp3 := piled_le_listText ts
  intro k
  induction k with
  | zero =>
    intro i s H1 hk hle I ex hp
    have hin : i = vs.length := by omega
    obtain ⟨_, its, n1, rv, hl, e1⟩ := I.lstM (ex _ _ ha)
    obtain ⟨_, acc, n2, rv2, hl2, e2⟩ := I.lstM hp
    obtain ⟨done, rfl, hdone⟩ := vals_strs rv2
    refine codeAny_builtin F.entry_list_repr_loop ?_
    show wpAny _ _ (Builtin.«list.__repr__.loop» ⟨[.ref a, .int i 0, .ref P, .int ((piled (ts.take i) : Nat) : Int) 0], []⟩) _ _ s
    rw [repr_loop_tree]
    refine wpAny_bind (wpAny_listItems e1 rfl ?_)
    have hnone : its.toArray[(i : Int).toNat]? = none := by simp [hin, hl]
    simp only [hnone]
    unfold reprEnd
    refine wpAny_bind (wpAny_listItems e2 rfl ?_)
    rw [repr_fold]
    refine wpAny_bind (wpAny_pure ?_)
    have hall : done.map (·.1) = ts := by rw [hdone, hin, ← hlen, List.take_length]
    rw [hall]
    refine wpAny_bind (wpAny_mkStr (wpAny_pure ?_) hsz)
    exact hR _ H1 _ (I.tok _) ex
  | succ k ih =>
    intro i s H1 hk hle I ex hp
    have hlt : i < vs.length := by omega
    obtain ⟨t, ht, hit⟩ := hT i vs[i] (by simp [hlt])
    have hp1 := piled_take_succ ht
    have hp2 := piled_take_le ts (i + 1)
    obtain ⟨_, its, n1, rv, hl, e1⟩ := I.lstM (ex _ _ ha)
    obtain ⟨u, hu, ru⟩ := rv.get (i := i) (x := vs[i]) (by simp [hlt])
    refine codeAny_builtin F.entry_list_repr_loop ?_
    show wpAny _ _ (Builtin.«list.__repr__.loop» ⟨[.ref a, .int i 0, .ref P, .int ((piled (ts.take i) : Nat) : Int) 0], []⟩) _ _ s
    rw [repr_loop_tree]
    refine wpAny_bind (wpAny_listItems e1 rfl ?_)
    have hsome : its.toArray[(i : Int).toNat]? = some u := by simpa using hu
    simp only [hsome]
    rw [Int.toNat_natCast]
    refine wpAny_bind (wpAny_holding (wpAny_mono (item_wp (A := A.under _) hs FO hb hx I ex (no_reads I (ex _ _ ha) hm (ex _ _ hi)) ru hit (guards_under_guard (isGuard_list_loop _) hg) (Room.loop hr _) (loop_frames.trans hf) (base := piled (ts.take i) + 1) (by omega) (Q := fun t' s' => t' = t ∧ ∃ H', Inv X pins σ H' s' ∧ Evl.Ex H1 H') fun s' H' I' k' => ⟨rfl, H', I', k'⟩) ?_ hE))
    rintro t' s' ⟨rfl, H2, I2, k2⟩
    refine wpAny_bind (wpAny_mkStr ?_ (hsz2 t' (List.mem_of_getElem? ht)))
    refine wpAny_bind ?_
    show wpAny _ _ (updateSeq P _) _ _ _
    obtain ⟨hz2, acc, n2, rv2, hl2, e2⟩ := I2.lstM (k2 _ _ hp)
    have hle2 : acc.length ≤ i := by rw [← hl2, List.length_map, List.length_take]; omega
    refine wpAny_updateSeq e2 rfl (wpAny_pure ⟨F.quiet_list_repr_loop _, ?_⟩) (by rw [List.size_toArray]; omega)
    have e3 : ((i : Int) + 1) = ((i + 1 : Nat) : Int) := by omega
    have e4 : piled (ts.take i) + (t'.length + 2) = piled (ts.take (i + 1)) := by omega
    rw [e3, e4]
    have et : (ts.take (i + 1)).map V.str = (ts.take i).map V.str ++ [V.str t'] := by rw [List.take_add_one, ht]; simp
    refine ih (i + 1) _ (upd H2 P (.lst ((ts.take i).map V.str ++ [V.str t']))) (by omega) hlt (I2.lset (its' := acc ++ [.str t' s'.toks]) (k2 _ _ hp) e2 (by simp) (rv2.append (.cons ⟨_, rfl⟩ .nil)) (by rw [List.length_append, List.length_singleton, List.length_map, List.length_take]; omega)) (fun b o e => ?_) (by rw [et]; exact upd_same)
    have nb : b ≠ P := fun z => by rw [z, hP] at e; cases e
    rw [upd_ne nb]
    exact k2 _ _ (ex _ _ e)
/-- repr of a list that holds an instance whose class has its own __repr__ -/
def rReprO (K : PySem.W.Frag) (C : Addr) (sp : Sp) (E : XK) : List V → Hp → VK → Prop := fun xs H Q => ∃ a vs ts x dx fs, xs = [.ref a] ∧ H a = some (.lst vs) ∧ V.ref x ∈ vs ∧ H x = some (.ins C dx fs) ∧ ts.length = vs.length ∧
  (∀ (i : Nat) (v : V), vs[i]? = some v → ∃ t, ts[i]? = some t ∧ ItemR K C sp E H v t) ∧ (listText ts).length ≤ sizeLine ∧ ∀ H', Evl.Ex H H' → Q (.str (listText ts)) H'
theorem call_reprO (hs : Spc X.K C "__repr__" f) (FO : FnOk X.prog X.w X.K X.mg X.base CX n f fd ps sp) (hb : Binds X.K fd ps []) (hr : Room (n + 2) X.A) (hg : X.A.guards = some []) (hx : Passes CX X E) : CallR X (.builtin "repr") (rReprO X.K C sp E) := by
  rintro pins s σ H xs us Q I r ⟨a, vs, ts, x, dx, fs, rfl, ha, hm, hi, hl, hT, hz, q⟩
  obtain ⟨u, rfl, ru⟩ := r.one
  cases (show u = Value.ref a from ru)
  obtain ⟨_, its, n1, rv, hl1, e1⟩ := I.lstM ha
  cases its with
  | nil => cases rv; exact nomatch hm
  | cons y l =>
    refine call_repr_slot hr.in1.units0 ⟨_, e1, rfl⟩ F.slot_list_repr.toG ?_
    refine wpAny_call (codeAny_call_builtin F.slot_list_repr.plain F.entry_list_repr (F.slot_list_repr.check _ _ _ _ _ _ _ _ ⟨_, e1, rfl⟩ (F.args_list_repr_1 _) ?_))
    refine wpAny_list_repr_head (A := X.A.in1.in1) (g := []) hg (fun v rest kw h => nomatch h) e1 rfl ?_
    refine wpAny_bind (m := newList []) (wpAny_newObj_type ?_)
    refine wpAny_pure ⟨F.quiet_list_repr_loop _, ?_⟩
    have hP := I.fresh
    have J := I.lnew (ys := []) (its := []) (t' := s.toks) .nil (Nat.zero_le _)
    exact loop_own (A := X.A.in1) (P := s.heap.objs.size) hs FO hb hx hg hr.in1 rfl ha hm hi hP hl hT hz (fun e s' h => h) (fun s' H' u I' k => ⟨_, _, rfl, .str (listText ts), H', I', ⟨_, rfl⟩, q H' k⟩) _ 0 _ _ rfl (Nat.zero_le _) J (Evl.Ex.new hP) upd_same
end
/-- expressions that tell data or instances -/
structure DXA (G : Ctx) (es : List Expr) (F : List Slot → (List Slot → Prop) → Prop) : Prop where
  ex : ∃ t, PA G.X es t ∧ ∀ S σ H ρ P (Q : List V → Hp → Prop), Gd G S σ H ρ → F ρ P → (∀ vs ss H', Stp G H H' → SlL G.X.K S H' ss vs → P ss → Q vs H') → t σ H Q
/-- what an item of the list must be, and its text -/
def itemS (C : Addr) (con : ConM) : Slot → Str → Prop
  | .d d, t => (toP d).canLay0 = true ∧ (toP d).showable = true ∧ (toP d).hasDict = false ∧ (toP d).depth ≤ 60 ∧ t = (toP d).shown
  | .cus false c, t => (∃ px ns ds, c = objX C px ns ds) ∧ con.C [.cus false c] (fun d => d = .str t) (fun _ => False)
  | _, _ => False
def itemsS (C : Addr) (con : ConM) (ss : List Slot) (ts : List Str) : Prop := ts.length = ss.length ∧ ∀ (i : Nat) (s : Slot), ss[i]? = some s → ∃ t, ts[i]? = some t ∧ itemS C con s t
section
variable {G : Ctx} {S : Addr → Prop} {σ : L2.St} {H H' : Hp} {ρ : List Slot} {pos : Pos} {C : Addr} {e : Expr} {es : List Expr} {Fa : List Slot → (Slot → Prop) → Prop} {Fs : List Slot → (List Slot → Prop) → Prop}
theorem dxa_nil : DXA G [] (fun _ P => P []) := ⟨⟨_, pa_nil, fun _ _ H _ _ _ g h q => q [] [] H (Stp.refl g.wld) rfl h⟩⟩
theorem dxa_cons (ha : DX G e Fa) (hr : DXA G es Fs) (hs : starEach (e :: es) G.X.env = (false, eval e G.X.env) :: starEach es G.X.env := by rfl) : DXA G (e :: es) (fun ρ P => Fa ρ fun s => Fs ρ fun ss => P (s :: ss)) := by
  obtain ⟨t, h1, l1⟩ := ha.ex
  obtain ⟨u, h2, l2⟩ := hr.ex
  refine ⟨⟨_, pa_cons h1 h2 hs, fun S σ H ρ P Q g h q => ?_⟩⟩
  refine l1 S σ H ρ _ _ g h fun v d H1 st hv h' => ?_
  refine l2 S σ H1 ρ _ _ (g.step st) h' fun vs ds H2 st2 hvs hp => ?_
  exact q _ (d :: ds) H2 (st.trans st2) ⟨v, vs, rfl, ArgOk.move (st2.fr (g.step st)) hv, hvs⟩ hp
theorem sll_at {K : PySem.W.Frag} : ∀ {sl : List Slot} {vs : List V} {i : Nat} {v : V}, SlL K S H sl vs → vs[i]? = some v → ∃ s, sl[i]? = some s ∧ ArgOk K S H s v
  | [], _, _, _, e, h => by cases (e : _ = []); simp at h
  | s :: sl, vs, 0, v, e, h => by
    obtain ⟨v', r, rfl, h1, h2⟩ := (e : ∃ v r, vs = v :: r ∧ ArgOk K S H s v ∧ SlL K S H sl r)
    cases (Option.some.inj h); exact ⟨s, rfl, h1⟩
  | s :: sl, vs, i + 1, v, e, h => by
    obtain ⟨v', r, rfl, h1, h2⟩ := (e : ∃ v r, vs = v :: r ∧ ArgOk K S H s v ∧ SlL K S H sl r)
    exact sll_at (i := i) h2 h
/-- repr([.., an instance, ..]) -/
theorem de_reprO {k mm : Nat} {ps : List Str} {con : ConM} {p pl : Pos} (h : CalleeSp G.X.prog G.X.w G.X.K G.X.mg G.X.base C "__repr__" k ps con) (hr : Room mm G.X.A) (hgd : G.X.A.guards = some []) (hmg : G.X.mg "repr" = none) (ha : DXA G es Fs) (hk : k + 2 ≤ mm := by decide) (hg : Gl G.X "repr" := by rfl)
    (he : starEach [.List es pl] G.X.env = (false, eval (.List es pl) G.X.env) :: starEach [] G.X.env := by rfl) :
    DE G (.Call (.Name "repr" p) [.List es pl] [] pos) (fun ρ P => Fs ρ fun ss => ∃ ts, itemsS C con ss ts ∧ (∃ px ns ds, .cus false (objX C px ns ds) ∈ ss) ∧ ss.length ≤ sizeLine ∧ (listText ts).length ≤ sizeLine ∧ P (.str (listText ts))) := by
  obtain ⟨f, fd, F1, hs, hbd⟩ := h.ex
  obtain ⟨t, p1, l1⟩ := ha.ex
  refine ⟨⟨_, pe_callB (call_reprO hs F1 hbd (hr.mono hk) hgd (E := E0) passL) hg hmg (by decide +kernel) (pa_cons (pe_lst p1) pa_nil he) (he := he), fun S σ H ρ P Q g h q => ?_⟩⟩
  refine l1 S σ H ρ _ _ g h fun vs ss H1 st hv ⟨ts, ⟨hl, hT⟩, ⟨px, ns, ds, hm⟩, hz1, hz2, hp⟩ => ⟨by rw [hv.len]; exact hz1, fun a na => ?_⟩
  have g1 := g.step st
  have exn : Evl.Ex H1 (upd H1 a (.lst vs)) := Evl.Ex.new na
  obtain ⟨i, hi, ei⟩ := List.getElem_of_mem hm
  obtain ⟨v, ev, av⟩ := hv.get (n := i) (by rw [List.getElem?_eq_getElem hi, ei])
  obtain ⟨x, dx, fs, rfl, e2⟩ := obj_of av
  refine ⟨a, vs, ts, x, dx, fs, rfl, upd_same, List.mem_of_getElem? ev, exn _ _ e2, by rw [hl, hv.len], fun j v hj => ?_, hz2, fun H' k => q _ (.str _) H' (st.trans (Stp.ex g1.wld (exn.trans k))) rfl hp⟩
  obtain ⟨s, es', as⟩ := sll_at hv hj
  obtain ⟨t', et, it⟩ := hT j s es'
  refine ⟨t', et, ?_⟩
  cases s with
  | d d =>
    obtain ⟨h1, h2, h3, h4, rfl⟩ := it
    exact .inl ⟨toP d, fun H3 k => dp_of d v (Dv.move (fun a o n e => ⟨n, k _ _ (exn _ _ e)⟩) d v as) h1, h2, h3, h4, rfl⟩
  | cus b c =>
    cases b with
    | true => exact it.elim
    | false =>
      obtain ⟨⟨px', ns', ds', rfl⟩, hc⟩ := it
      obtain ⟨b, dx', fs', rfl, e3⟩ := obj_of as
      refine .inr ⟨b, dx', fs', rfl, exn _ _ e3, fun H3 k => ?_⟩
      have k3 : Evl.Ex H1 H3 := exn.trans k
      refine ⟨S, [_], fun a z => ?_, ⟨_, _, rfl, ArgOk.move (fun a o n e => ⟨n, k3 _ _ e⟩) as, rfl⟩, con.mono _ _ _ _ _ hc (fun d hd v' H' e hdv => ⟨e, ?_⟩) fun x hx => hx.elim⟩
      · obtain ⟨o, z⟩ := g1.all a z
        exact ⟨o, k3 _ _ z⟩
      · subst hd
        exact dv_str hdv
  | _ => exact it.elim
end
end DL
namespace DL
open PySem PySem.Spec PyProof.Rows L2 LamX
/-! ### the end of a row whose law is a def that asks for no repr under way, with some tables -/
section
variable {P : Program} {w : World} {K : PySem.W.Frag} {mg mb : Str → Option Value} {k : Nat} {fa a : Addr} {Cs : List (Addr × Addr)} {fd : FuncData} {x : Str} {sp : Sp} {s : Shared} {vs : List Value} {ns : List Int}
abbrev InT (Cs : List (Addr × Addr)) (b : Addr) : Prop := ∃ c, (c, b) ∈ Cs
/-- what is tracked at the start: the tables, and the script where the module does not hold it -/
structure OnlyTs (K : PySem.W.Frag) (a : Addr) (Cs : List (Addr × Addr)) (vs : List Value) (ns : List Int) (H : Hp) : Prop where
  tab : ∀ T, InT Cs T → H T = some (.tbl #[])
  one : ∀ b u, H b = some u → (InT Cs b ∧ u = .tbl #[]) ∨ (b = a ∧ u = .frz { cls := .type "list", data := .seq vs.toArray } (.lst (ns.map V.int)) ∧ K.lookup a = none)
  scr : SqL K H a (ns.map V.int)
theorem onlyTs_ex (KX : K.In s.heap) (hT : ∀ T, InT Cs T → s.heap.get? T = some { cls := .none, data := .fields #[] }) (ha : s.heap.get? a = some { cls := .type "list", data := .seq vs.toArray }) (hi : IntsAre vs ns) (hl : ns.length ≤ sizeLine) : ∃ H, OnlyTs K a Cs vs ns H := by
  have aT : ¬ InT Cs a := fun z => by
    have q := hT a z
    rw [ha] at q
    injection q with q
    injection q with _ _ q _
    cases q
  obtain ⟨H0, h1, h2⟩ : ∃ H0 : Hp, (∀ T, InT Cs T → H0 T = some (.tbl #[])) ∧ ∀ b u, H0 b = some u → InT Cs b ∧ u = .tbl #[] := by
    refine ⟨fun b => if (Cs.map (·.2)).contains b then some (.tbl #[]) else none, fun T ⟨c, hc⟩ => ?_, fun b u z => ?_⟩
    · exact if_pos (List.contains_iff_mem.mpr (List.mem_map.mpr ⟨_, hc, rfl⟩))
    · dsimp only at z
      by_cases hb : (Cs.map (·.2)).contains b = true
      · rw [if_pos hb] at z
        cases z
        obtain ⟨⟨c, b'⟩, hc, rfl⟩ := List.mem_map.mp (List.contains_iff_mem.mp hb)
        exact ⟨⟨c, hc⟩, rfl⟩
      · rw [if_neg hb] at z
        cases z
  cases hk : K.lookup a with
  | some o =>
    have e := KX a o hk
    rw [ha] at e
    injection e with e
    subst e
    exact ⟨H0, h1, fun b u z => .inl (h2 b u z), .inr ⟨_, vs.toArray, _, hk, rfl, rfl, rfl, by rw [List.size_toArray, hi.length]; exact hl, by simpa using vals_ints hi⟩⟩
  | none =>
    refine ⟨upd H0 a (.frz { cls := .type "list", data := .seq vs.toArray } (.lst (ns.map V.int))), fun T hc => by rw [upd_ne (fun z => aT (by rw [← z]; exact hc))]; exact h1 T hc, fun b u z => ?_, .inl (.inr ⟨_, upd_same⟩)⟩
    by_cases hb : b = a
    · rw [hb, upd_same] at z
      cases z
      exact .inr ⟨hb, rfl, hk⟩
    · rw [upd_ne hb] at z
      exact .inl (h2 b u z)
theorem law_callGs (KX : K.In s.heap) (hns : s.heap.Ns mainGlobals mg) (hb : s.heap.Ns builtinsNs mb) (hbb : ∀ x : Str, x ≠ "__name__" → mb x = bootBuiltins x) (hlim : s.heap.NoLimit) (hg : s.gens = #[]) (hT : ∀ T, InT Cs T → s.heap.get? T = some { cls := .none, data := .fields #[] }) (nT : ∀ T, InT Cs T → K.lookup T = none) (C : ∀ p ∈ Cs, PySem.W.CodeHd s.heap p.1 p.2)
    (hbm : ∃ (bm : Addr) (ob : Obj), mg "__builtins__" = some (.ref bm) ∧ bm ≠ builtinsNs ∧ s.heap.get? bm = some ob ∧ ob.cls = .type "module" ∧ ob.dict = some builtinsNs ∧ ob.data = .plain) (ha : s.heap.get? a = some { cls := .type "list", data := .seq vs.toArray }) (hi : IntsAre vs ns) (hl : ns.length ≤ sizeLine) (hr : Room k callerA)
    (F : ∀ base : Heap, K.In base → base.Ns mainGlobals mg → (∀ p ∈ Cs, TabB base mg p.1 p.2) → FnG P w K mg base CX0 k fa fd [x] sp) (hbind : ∀ (s : Shared) (u : Value), BindsTo s fd ⟨[u], []⟩ [(x, u)]) (hsp : ∀ H : Hp, OnlyTs K a Cs vs ns H → sp [.ref a] H (fun v _ => v = .bl true) fun _ _ _ => False) :
    codeAny (model P w) callerA (.call (.ref fa) ⟨[.ref a], []⟩) (fun r s' => r = .ok (.ret (.bool true)) ∧ OldK s.heap s'.heap ∧ s'.os = s.os ∧ AllBare s'.gens) s := by
  obtain ⟨H, O⟩ := onlyTs_ex (Cs := Cs) KX hT ha hi hl
  have other : ∀ {b : Addr} {o : Obj}, s.heap.get? b = some o → (∀ vs n, o.data ≠ .seq vs n) → o.data ≠ .fields #[] → H b = none := fun {b o} e h1 h2 => by
    cases q : H b with
    | none => rfl
    | some u =>
      rcases O.one b u q with ⟨e', _⟩ | ⟨e', _⟩
      · rw [hT b e'] at e
        injection e with e
        subst e
        exact (h2 rfl).elim
      · rw [e', ha] at e
        injection e with e
        subst e
        exact (h1 _ _ rfl).elim
  have dictN : ∀ {b : Addr} {o : Obj} {es : Array DictEntry} {ep : Nat}, s.heap.get? b = some o → o.data = .dict es ep → H b = none := fun {b o es ep} e d => other e (fun vs n z => by rw [d] at z; cases z) (fun z => by rw [d] at z; cases z)
  have down : ∀ {b : Addr} {o : Obj}, s.heap.get? b = some o → H b = none → (hidT s.heap H).get? b = some o := fun e n => hidT_get e n
  have nsD : ∀ {b : Addr} {m : Str → Option Value}, s.heap.Ns b m → (hidT s.heap H).Ns b m := fun {b m} ⟨o, es, ep, e, d, r⟩ => ⟨o, es, ep, down e (dictN e d), d, r⟩
  have KB : K.In (hidT s.heap H) := fun b o e => down (KX b o e) (by
    cases q : H b with
    | none => rfl
    | some u =>
      rcases O.one b u q with ⟨e', _⟩ | ⟨e', _, e2⟩
      · rw [nT b e'] at e; cases e
      · rw [e', e2] at e; cases e)
  have M : L2.Mod K mg (hidT s.heap H) := ⟨KB, nsD hns, ⟨mb, nsD hb, hbb⟩, let ⟨mc, h1, h2⟩ := hlim; ⟨mc, nsD h1, h2⟩⟩
  have noG : ∀ {b : Addr}, s.heap.get? b = some { cls := .none, data := .fields #[] } ∨ (∃ ob, s.heap.get? b = some ob ∧ ob.data = .plain) → b ≠ mainGlobals := fun {b} h z => by
    obtain ⟨o, es, ep, e, hd, _⟩ := hns
    rw [z] at h
    rcases h with h | ⟨ob, h, h2⟩
    · rw [e] at h; injection h with h; subst h; cases hd
    · rw [e] at h; injection h with h; subst h; rw [hd] at h2; cases h2
  have TB : ∀ p ∈ Cs, TabB (hidT s.heap H) mg p.1 p.2 := fun p hp => by
    have tp := hT p.2 ⟨p.1, hp⟩
    refine ⟨?_, ?_, fun z => noG (.inl tp) z.symm⟩
    · obtain ⟨o, us, file, tf, flags, tg, inF, text, tt, e1, r1, r2, r3, rest⟩ := C p hp
      exact ⟨o, us, file, tf, flags, tg, inF, text, tt, down e1 (other e1 (fun vs n z => by rw [r2] at z; cases z) fun z => by rw [r2] at z; cases z; simp at r3), r1, r2, r3, rest⟩
    · obtain ⟨bm, ob, b1, b2, b3, b4, b5, b6⟩ := hbm
      refine ⟨bm, ob, b1, b2, noG (.inr ⟨ob, b3, b6⟩), fun q => ?_, down b3 (other b3 (fun vs n z => by rw [b6] at z; cases z) fun z => by rw [b6] at z; cases z), b4, b5, b6⟩
      rw [q, tp] at b3
      injection b3 with b3
      subst b3
      cases b6
  have hokH : HOk P w H s.heap := fun b u e => by
    rcases O.one b u e with ⟨h, rfl⟩ | ⟨rfl, rfl, _⟩
    · exact hT b h
    · exact ⟨ha, by rw [List.length_map]; exact hl, vs, _, vals_ints hi, ha⟩
  have start : Env0 P w K mg (hidT s.heap H) callerA [] s H := ⟨rfl, M, fun b o e => of_hidT e, Nat.le_of_eq (hidT_size _ _), trivial, fun b hb => (List.not_mem_nil hb).elim, hokH, .of_eq hg⟩
  refine codeAny_mono ((F _ KB (nsD hns) TB).run callerA [] s H ⟨[.ref a], []⟩ [.ref a] [.ref a] _ _ hr rfl start (hbind s (.ref a)) (.cons rfl .nil) (hsp H O)) fun r s' h => ?_
  match r, h with
  | .error e, h => exact (show False from h).elim
  | .ok .next, h => exact False.elim h
  | .ok .brk, h => exact False.elim h
  | .ok .cont, h => exact False.elim h
  | .ok (.ret u), ⟨v, H', os, bare, un, hok', rv, qv⟩ =>
    obtain rfl : v = .bl true := qv
    obtain rfl : u = Value.bool true := rv
    have stays : ∀ b o, ¬ InT Cs b → s.heap.get? b = some o → s'.heap.get? b = some o := fun b o nb e => by
      cases q : H b with
      | none => exact un.keep b o e q (fun z => (List.not_mem_nil (show b ∈ ([] : List Addr) from z)).elim) (fun z => (List.not_mem_nil z).elim)
      | some u =>
        rcases O.one b u q with ⟨e', _⟩ | ⟨_, rfl, _⟩
        · exact absurd e' nb
        · obtain ⟨e1, _⟩ := hokH b _ q
          obtain ⟨e2, _⟩ := hok' b _ (un.frzs b _ _ q)
          rw [e] at e1
          rw [e2, e1]
    have grown : ∀ T, InT Cs T → ∃ more, s'.heap.get? T = some { cls := .none, data := .fields more } := fun T h => by
      obtain ⟨more, hm⟩ := un.tbls T #[] (O.tab T h)
      have hm' : s'.heap.get? T = some { cls := .none, data := .fields (#[] ++ more) } := hok' T _ hm
      rw [Array.empty_append] at hm'
      exact ⟨more, hm'⟩
    refine ⟨rfl, ⟨fun b o e => ?_, fun b o e => ?_⟩, os, bare⟩
    · by_cases hbT : InT Cs b
      · obtain ⟨more, hm'⟩ := grown b hbT
        have tb := hT b hbT
        obtain ⟨c, hc⟩ := hbT
        rw [tb] at e
        injection e with e
        subst e
        exact .inr (.inl ⟨((C _ hc).tab tb).isCodeTable, rfl, #[], more, rfl, by rw [Array.empty_append]; exact hm'⟩)
      · exact .inl (stays b o hbT e)
    · by_cases hbT : InT Cs b
      · obtain ⟨more, hm'⟩ := grown b hbT
        exact ⟨_, hm'⟩
      · exact ⟨o, stays b o hbT e⟩
/-- what the head's heap must say of the law -/
def LawAtGs (l : PySem.W.OpenLaw) (w : World) (K : PySem.W.Frag) (k n : Nat) (x : Str) (mg : Str → Option Value) (fa : Addr) (h : Heap) : Prop := ∃ (fd : FuncData) (Cs : List (Addr × Addr)) (sp : Sp), (∀ T, InT Cs T → h.get? T = some { cls := .none, data := .fields #[] }) ∧ (∀ T, InT Cs T → K.lookup T = none) ∧ (∀ p ∈ Cs, PySem.W.CodeHd h p.1 p.2) ∧ (∀ (s : Shared) (u : Value), BindsTo s fd ⟨[u], []⟩ [(x, u)]) ∧
  (∀ (H : Hp) (a : Addr) (vs : List Value) (ns : List Int), ns.length ≤ n → OnlyTs K a Cs vs ns H → sp [.ref a] H (fun v _ => v = .bl true) fun _ _ _ => False) ∧ ∀ base : Heap, K.In base → base.Ns mainGlobals mg → (∀ p ∈ Cs, TabB base mg p.1 p.2) → FnG l.prog w K mg base CX0 k fa fd [x] sp
theorem walk_ofGs {l : PySem.W.OpenLaw} {n k : Nat} {q : Program} {loose : List Str} {XP : (Str → Option Value) → Heap → Prop} {YP : World → Heap → Prop} {d : DefRec} {K : Params → PySem.W.Frag} {x : Str} (hn : l.most = some n) (hn2 : n ≤ sizeLine) (hdf : d.params.defaults = []) (hr : Room k callerA) (hY : ∀ (w : World) (h : Heap), YP w h → (K w.params).In h)
    (F : ∀ (w : World) (mg : Str → Option Value) (fa : Addr) (h : Heap), YP w h → (K w.params).In h → h.Ns mainGlobals mg → mg d.name = some (.ref fa) → LawAtGs l w (K w.params) k n x mg fa h) : PySem.W.WalkO q loose XP YP l.row.toRowW d [] (fun f vs => PySem.call f vs) :=
  Att.attach_callB hn hdf fun w s₀ s₁ mg mb fa o pm cd doc a vs ns G Y ho hd hcd hmg hobj hints hlen hbits hg => by
    have KX := hY w _ Y
    obtain ⟨fd, Cs, sp, hT, nT, C, hb, hsp, hF⟩ := F w mg fa _ Y KX G.T.g hmg
    exact law_callGs KX G.T.g G.T.b G.T.builtins G.T.nolimit hg hT nT C G.T.bmain hobj hints (Nat.le_trans hlen hn2) hr hF hb fun H O => hsp H a vs ns hlen O
end
end DL
namespace K01
open PySem PySem.Spec PyProof.Rows L2 DL LamX
/-! ### law -/
theorem dvl_ints {K : PySem.W.Frag} {S : Addr → Prop} {H : Hp} : ∀ {l : List Int} {vs : List V}, DvL K S H (l.map Dat.int) vs → vs = l.map V.int
  | [], _, e => e
  | x :: l, vs, e => by
    obtain ⟨v, r, rfl, h1, h2⟩ := (e : ∃ v r, vs = v :: r ∧ Dv K S H (.int x) v ∧ DvL K S H (l.map Dat.int) r)
    rw [List.map_cons, dvl_ints h2, dv_int h1]
theorem zip_back {α β : Type} : ∀ l : List (α × β), (l.map (·.1)).zip (l.map (·.2)) = l
  | [] => rfl
  | x :: l => by rw [List.map_cons, List.map_cons, List.zip_cons_cons, zip_back l]
def spLaw0 (K : PySem.W.Frag) : Sp := fun vs H Q E => ∃ (ns : List Int) (v : V), vs = [v] ∧ ns.length ≤ 63 ∧ ScrOk K (fun _ => False) H ns v ∧ ∀ H', Q (.bl true) H'
theorem items_one {C : Addr} : itemsS C (c_reprM C) [.d (.tup []), .d (.tup []), .d (.tup []), .d (.int 0), .cus false (objX C none fldsM [.tup [], .tup [], .tup []])] ["()", "()", "()", "0", reprM 0] := by
  have t : (toP (.tup [])).canLay0 = true ∧ (toP (.tup [])).showable = true ∧ (toP (.tup [])).hasDict = false ∧ (toP (.tup [])).depth ≤ 60 ∧ ("()" : Str) = (toP (.tup [])).shown := by decide +kernel
  have z : (toP (.int 0)).canLay0 = true ∧ (toP (.int 0)).showable = true ∧ (toP (.int 0)).hasDict = false ∧ (toP (.int 0)).depth ≤ 60 ∧ ("0" : Str) = (toP (.int 0)).shown := by decide +kernel
  refine ⟨rfl, fun i s e => ?_⟩
  match i, e with
  | 0, e => cases e; exact ⟨_, rfl, t⟩
  | 1, e => cases e; exact ⟨_, rfl, t⟩
  | 2, e => cases e; exact ⟨_, rfl, t⟩
  | 3, e => cases e; exact ⟨_, rfl, z⟩
  | 4, e => cases e; exact ⟨_, rfl, ⟨_, _, _, rfl⟩, none, [], _, _, rfl, by simp, rfl⟩
  | i + 5, e => cases e
theorem text_one : listText ["()", "()", "()", "0", reprM 0] = "[(), (), (), 0, Model(0 names)]" := by decide +kernel
section
variable {P : Program} {w : World} {K : PySem.W.Frag} {mg : Str → Option Value} {base : Heap} {f f2 CM CB : Addr} {fd fd2 : FuncData} {k j : Nat}
abbrev s_law : Stmt := topS 47
theorem sc_law : FnScope ["script", "m", "turn", "w", "three", "one"] ["script"] (defScope s_law) := ⟨rfl, rfl, rfl, by decide +kernel, rfl, by decide +kernel, by decide +kernel⟩
theorem ok_law (B : Bt mg) (HC : CmpC K CM) (hj : j + 3 ≤ k) (M_none : MkC P w K mg base "Model" j CM (c_init CB) 0 [] (fun us zs => us ++ [t0] ++ [t0, t0]))
    (M_names : CalleeM P w K mg base CM "names" j ["self"] (c_fldM CM 0)) (M_calls : CalleeM P w K mg base CM "calls" j ["self"] (c_fldM CM 1)) (M_props : CalleeM P w K mg base CM "props" j ["self"] (c_fldM CM 2)) (S_len : CalleeSp P w K mg base CM "__len__" j ["self"] (c_lenM CM)) (S_repr : CalleeSp P w K mg base CM "__repr__" j ["self"] (c_reprM CM))
    (F_begun : CalleeL P w K mg base "_law_begun" k ["script"] conBegun) (F_called : CalleeS P w K mg base "_law_called" k ["m", "top"] conCalled) (F_three : CalleeS P w K mg base "_law_three" k ["m", "w"] conThree) (F_right : CalleeSG P w K mg base "_law_right" k ["m", "three"] conToldR) (F_other : CalleeSG P w K mg base "_law_other_right" k ["m", "w", "three"] conOther)
    (F : Fun K "law" "law" s_law f fd) : FnG P w K mg base CX0 (k + 1) f fd ["script"] (spLaw0 K) := by
  obtain ⟨oc, od, kV, doc, pm, an, cdv, ct, osl, rfl, lk, hcd⟩ := F.ex
  obtain ⟨fb, fdb, Fb, mb, kb, bb⟩ := F_begun.ex
  refine fnG_of lk hcd sc_law (fun vs H Q E ⟨ns, v, e, _⟩ => by rw [e]; rfl) fun A outer s H vs Q E hgd hr h => ?_
  obtain ⟨ns, v, rfl, hns, hsc, hQ⟩ := h
  have nd := sc_law.nd
  refine ⟨_, (pss_cons (ps_set (i := 1) nd rfl (Or.inl rfl) (pe_call Fb hr (by rfl) mb kb bb .nil pass0 (pa_cons (pv 0) pa_nil)) rfl (.inr rfl)) pss_any).nox, ?_⟩
  refine ⟨v, rfl, fun _ => False, [.scr ns], fun a e => e.elim, ⟨v, [], rfl, hsc, rfl⟩, ns, rfl, hns, fun cells left h64 hcell hleft => fun vm H1 ex1 hd => ?_⟩
  obtain ⟨a, kvs, rfl, na, ea, ek, hkv⟩ := dv_dic hd
  obtain ⟨vb, r1, er1, hb, hr1⟩ := (hkv : ∃ v r, kvs.map (·.2) = v :: r ∧ Dv K (fun _ => False) H1 (.lst (cells.map Dat.int)) v ∧ DvL K (fun _ => False) H1 [.lst (left.map Dat.int), .int 0] r)
  obtain ⟨vc, r2, rfl, hc, hr2⟩ := (hr1 : ∃ v r, r1 = v :: r ∧ Dv K (fun _ => False) H1 (.lst (left.map Dat.int)) v ∧ DvL K (fun _ => False) H1 [.int 0] r)
  obtain ⟨v0, r3, rfl, h0, hr3⟩ := (hr2 : ∃ v r, r2 = v :: r ∧ Dv K (fun _ => False) H1 (.int 0) v ∧ DvL K (fun _ => False) H1 [] r)
  cases (hr3 : r3 = [])
  cases dv_int h0
  obtain ⟨b, xb, rfl, nb, eb, hxb⟩ := dv_lst hb
  obtain ⟨c, xc, rfl, nc, ec, hxc⟩ := dv_lst hc
  have exb : xb = cells.map V.int := dvl_ints hxb
  have exc : xc = left.map V.int := dvl_ints hxc
  subst exb
  subst exc
  have ekv : kvs = [(.inr "cells", .ref b), (.inr "left", .ref c), (.inr "spot", .int (0 : Nat))] := by
    rw [← zip_back kvs, ek, er1]
    rfl
  subst ekv
  have ab : a ≠ b := fun z => by rw [z, eb] at ea; cases ea
  have ac : a ≠ c := fun z => by rw [z, ec] at ea; cases ea
  have bc : b ≠ c := fun z => by
    rw [z, ec] at eb
    have := congrArg List.length (HO.lst.inj (Option.some.inj eb))
    simp at this
    omega
  let st : Sta Nat := drawSta a b c left.length
  have m0 : st.M 0 H1 := ⟨0, cells, left, Nat.le_refl _, h64, hcell, rfl, ea, eb, ec⟩
  have hS : ∀ x, st.fp x → ∃ o, H1 x = some o := fun x z => st.dom _ _ m0 x z
  have hf : ∀ x, st.fp x → st.fp x := fun _ z => z
  have hd : IsDraw st (V.ref a) := ⟨a, b, c, _, ab, ac, bc, rfl, rfl⟩
  let X : Cx := (cxOf CX0 P w K mg base ["script", "m", "turn", "w", "three", "one"] "law" (defScope s_law) f cdv A outer s H E0).nox
  let G : Fam Nat := famAt X H1 st.fp hS st 0 m0
  have gs : GS G st (fun i => i) (fun _ j => j) := gs_at hf
  have rest : ∃ T, DBR G (defBody s_law).tail T ∧ T { nx := fun _ _ => False, rt := fun d _ => d = .bl true } [.un, .raw (.ref a), .un, .un, .un, .un] 0 := by
    refine ⟨_, (dbr_cons (dsr_forRange 2 B.range PassesOwn.never rfl (dar_cons (dr_of fun i => de_int) dar_nil) (dbr_cons (dsr_set 3 (dr_fnS gs F_called hr (dsl_raw 1 (dsl_d (dr_of fun i => de_int) dsl_nil)) (by omega)) nd) (dbr_cons (dsr_set 4 (dr_fnS gs F_three hr (dsl_raw 1 (dsl_d (dr_of fun i => (de_var 3)) dsl_nil)) (by omega)) nd) (dbr_one (dsr_if (dtr_w (dwr_or (dtr_not (dtr_val (dr_fnSG gs F_right hr hgd (dsl_raw 1 (dsl_known 4 dsl_nil)) (by omega)))) (dwr_or1 (dtr_not (dtr_val (dr_fnSG gs F_other hr hgd (dsl_raw 1 (dsl_d (dr_of fun i => (de_var 3)) (dsl_d (dr_of fun i => (de_var 4)) dsl_nil))) (by omega))))))) (dbr_one (dsr_ret (dr_of fun i => de_bl))) dbr_nil)))) nd) (dbr_cons (dsr_setX 5 (dxr_makeR0 M_none hr dkr_nil (by omega)) nd)
      (dbr_one (dsr_ret (dr_of fun i => (de_eq hr.units (de_reprO S_repr hr hgd B.repr (dxa_cons (dx_of (de_meth0 5 M_names HC.cl hr (by omega))) (dxa_cons (dx_of (de_meth0 5 M_calls HC.cl hr (by omega))) (dxa_cons (dx_of (de_meth0 5 M_props HC.cl hr (by omega))) (dxa_cons (dx_of (de_lenOwnI S_len hr B.len (dx_var 5) (by omega))) (dxa_cons (dx_var 5) dxa_nil))))) (by omega)) de_str)))))), ?_⟩
    refine ⟨fun items ρ j => j + items.length * 200000 ≤ 1200000 ∧ ∃ t0 t2 t3 t4 t5 : DL.Slot, ρ = [t0, .raw (.ref a), t2, t3, t4, t5], ?_, fun ρ j hi => ?_, fun d ds ρ j hi => ?_⟩
    · refine ⟨⟨by decide, by decide⟩, ?_, _, _, _, _, _, rfl⟩
      rw [rints_len]
      decide
    · obtain ⟨_, t0, t2, t3, t4, t5, rfl⟩ := hi
      have nil : ∀ {es : List Dat}, es.Perm [] → es = [] := fun p => List.perm_nil.mp p
      refine ⟨rfl, DL.Dat.tup [], DL.Dat.tup [], DL.Dat.tup [], rfl, rows_use (us := []) ⟨[], .refl _, .inr rfl⟩ (fun x hx => nomatch hx) (fun x hx => nomatch hx) (by simp) (by simp) fun e1 p1 _ => rows_use (us := []) ⟨[], .refl _, .inr rfl⟩ (fun x hx => nomatch hx) (fun x hx => nomatch hx) (by simp) (by simp) fun e2 p2 _ => rows_use (us := []) ⟨[], .refl _, .inr rfl⟩ (fun x hx => nomatch hx) (fun x hx => nomatch hx) (by simp) (by simp) fun e3 p3 _ => ?_⟩
      obtain rfl := nil p1
      obtain rfl := nil p2
      obtain rfl := nil p3
      refine ⟨none, fldsM, _, rfl, by decide, none, _, _, rfl, rfl, rfl, ?_⟩
      refine ⟨none, fldsM, _, rfl, by decide, none, _, _, rfl, rfl, rfl, ?_⟩
      refine ⟨none, fldsM, _, rfl, by decide, none, _, _, rfl, rfl, rfl, ?_⟩
      refine ⟨_, rfl, ⟨_, _, _, rfl⟩, none, [], _, _, rfl, ?_⟩
      refine ⟨⟨by decide, by decide⟩, _, rfl, ?_⟩
      refine ⟨_, items_one, ⟨none, fldsM, [.tup [], .tup [], .tup []], by simp⟩, Nat.le_trans (show 5 ≤ 1000 by decide) (by decide), by rw [text_one]; decide, ?_⟩
      rw [text_one]
      dsimp only
      rw [eqD_str, decide_eq_true rfl]
    · obtain ⟨hj, t0, t2, t3, t4, t5, rfl⟩ := hi
      rw [List.length_cons] at hj
      refine rdRaw_here rfl ?_
      refine ⟨.ref a, 20, hd, rfl, by decide, by unfold manyDraws; omega, fun ws j1 hl hws hnd hj1 => ?_⟩
      have hnd := hnd (by decide)
      dsimp only
      refine rdRaw_here rfl ?_
      refine rd_here rfl ?_
      refine ⟨.ref a, ws, hd, rfl, hws, hl, by unfold manyDraws; omega, fun A B' C j2 hT hj2 => ?_⟩
      dsimp only
      refine ⟨fun b j' => b = false ∧ j' ≤ j + 120000, ?_, fun j' z => (nomatch z.1), fun j' z => ?_⟩
      · refine rdRaw_here rfl ?_
        refine ⟨_, rfl, fun v0 => ?_⟩
        refine ⟨.ref a, v0, ws, A, B', C, hd, rfl, hws, hl, hnd, hT, by unfold manyDraws; omega, fun j3 hj3 => ?_⟩
        try dsimp only
        rw [isB_bl]
        try dsimp only
        rw [if_neg (by decide)]
        refine rdRaw_here rfl ?_
        refine rd_here rfl ?_
        refine rd_here rfl ?_
        refine ⟨.ref a, ws, A, B', C, hd, rfl, hws, hl, hnd, hT, by unfold manyDraws; omega, fun j4 hj4 => ?_⟩
        try dsimp only
        rw [isB_bl]
        exact ⟨rfl, by omega⟩
      · have := z.2
        exact ⟨by omega, _, _, _, _, _, rfl⟩
  obtain ⟨T0, ⟨t, hp, l⟩, hTT⟩ := rest
  refine ⟨t, hp, l st.fp _ H1 _ 0 _ _ ⟨⟨ExF.refl _ _, m0⟩, hS, fun _ z => z, rfl, fun n sl hn => ?_, fun n n2 s1 s2 u h1 h2 o1 o2 e1 e2 => ?_⟩ hTT ⟨fun _ _ _ _ _ _ _ z => z.elim, fun u d H' j hw hd hz => ?_, fun _ _ _ _ _ _ _ z => z.elim, fun _ _ _ _ _ _ _ z => z.elim⟩⟩
  · match n, hn with
    | 0, hn => cases hn; exact trivial
    | 1, hn => cases hn; exact (rfl : V.ref a = V.ref a)
    | 2, hn => cases hn; exact trivial
    | 3, hn => cases hn; exact trivial
    | 4, hn => cases hn; exact trivial
    | 5, hn => cases hn; exact trivial
  · match n, h1 with
    | 0, h1 => cases h1; cases o1
    | 1, h1 => cases h1; cases o1
    | 2, h1 => cases h1; cases o1
    | 3, h1 => cases h1; cases o1
    | 4, h1 => cases h1; cases o1
    | 5, h1 => cases h1; cases o1
  · have hz : d = .bl true := hz
    subst hz
    have hu : u = .bl true := hd
    rw [hu]
    exact hQ H'
end
end K01
namespace K01
open PySem PySem.Spec PyProof.Rows L2 DL
section
variable {P : Program} {w : World} {K : PySem.W.Frag} {mg : Str → Option Value} {base : Heap} {f f2 : Addr} {fd fd2 : FuncData} {k : Nat}
abbrev s__law_kind : Stmt := topS 36
theorem sc__law_kind : FnScope ["k"] ["k"] (defScope s__law_kind) := ⟨rfl, rfl, rfl, by decide +kernel, rfl, by decide +kernel, by decide +kernel⟩
-- calls [] consts []
theorem ok_law_kind (F : Fun K "_law_kind" "_law_kind" s__law_kind f fd) : FnOk P w K mg base CX0 (k + 1) f fd ["k"] (spD K c_law_kind) := by
  refine fn_pure F sc__law_kind (fun ds P X ⟨d, e, _⟩ => by rw [e]; rfl) fun cdv A outer s H S hS hr => ?_
  have nd := sc__law_kind.nd
  refine ⟨_, (db_one (ds_ret (de_ix (de_lst (da_cons de_str (da_cons de_str (da_cons de_str (da_cons de_str (da_cons de_str da_nil)))))) (de_mod (de_var 0) de_int)))), ?_⟩
  rintro ds R X ⟨a, rfl, _, h⟩
  refine ⟨show 5 ≤ sizeLine by decide, ?_⟩
  ((try dsimp only); refine rd_here rfl ?_; (try dsimp only))
  refine ⟨show (0 : Int) < 5 by decide, ?_⟩
  show ixD _ (.int ((a : Int) % 5)) R
  have h5 : a % 5 < 5 := Nat.mod_lt _ (by decide)
  have e : ((a : Int) % 5) = ((a % 5 : Nat) : Int) := by omega
  rw [e]
  replace h : R (.str (kinds5.getD (a % 5) "thing")) := h
  match hm : a % 5, h5 with
  | 0, _ => rw [hm] at h; exact h
  | 1, _ => rw [hm] at h; exact h
  | 2, _ => rw [hm] at h; exact h
  | 3, _ => rw [hm] at h; exact h
  | 4, _ => rw [hm] at h; exact h
end
end K01
namespace K01
open PySem PySem.Spec PyProof.Rows L2 DL LamX
/-! ### all defs together -/
abbrev Def (K : PySem.W.Frag) (mg : Str → Option Value) (x : Str) (st : Stmt) (ps : List Str) : Prop := ∃ f fd, At K mg x st ps f fd
section
variable {P : Program} {w : World} {K : PySem.W.Frag} {mg : Str → Option Value} {base : Heap} {f f2 : Addr} {fd fd2 : FuncData} {k j : Nat} {x : Str} {st : Stmt} {ps : List Str}
theorem def_c {C : Con} (D : Def K mg x st ps) (ok : ∀ {f fd}, Fun K x x st f fd → FnOk P w K mg base CX0 k f fd ps (spD K C)) : Callee P w K mg base x k ps C := by
  obtain ⟨f, fd, h⟩ := D
  exact ⟨f, fd, ok h.F, h.m, h.F.kp, h.b⟩
theorem def_s {κ : Type} {C : ConS κ} (D : Def K mg x st ps) (ok : ∀ {f fd}, Fun K x x st f fd → FnOk P w K mg base CX0 k f fd ps (spS K C)) : CalleeS P w K mg base x k ps C := by
  obtain ⟨f, fd, h⟩ := D
  exact ⟨f, fd, ok h.F, h.m, h.F.kp, h.b⟩
theorem def_l {C : ConL} (D : Def K mg x st ps) (ok : ∀ {f fd}, Fun K x x st f fd → FnOk P w K mg base CX0 k f fd ps (spL K C)) : CalleeL P w K mg base x k ps C := by
  obtain ⟨f, fd, h⟩ := D
  exact ⟨f, fd, ok h.F, h.m, h.F.kp, h.b⟩
theorem def_x {C : Con} (D : Def K mg x st ps) (ok : ∀ {f fd}, Fun K x x st f fd → FnOk P w K mg base (L2.CX P w) k f fd ps (spD K C)) : CalleeX P w K mg base x k ps C := by
  obtain ⟨f, fd, h⟩ := D
  exact ⟨f, fd, ok h.F, h.m, h.F.kp, h.b⟩
theorem def_sg {κ : Type} {C : ConS κ} (D : Def K mg x st ps) (ok : ∀ {f fd}, Fun K x x st f fd → FnG P w K mg base CX0 k f fd ps (spS K C)) : CalleeSG P w K mg base x k ps C := by
  obtain ⟨f, fd, h⟩ := D
  exact ⟨f, fd, ok h.F, h.m, h.F.kp, h.b⟩
theorem mono_s {κ : Type} {C : ConS κ} (h : CalleeS P w K mg base x j ps C) (hj : j ≤ k) : CalleeS P w K mg base x k ps C := by
  obtain ⟨f, fd, F, r⟩ := h.ex
  exact ⟨f, fd, F.mono hj, r⟩
theorem mono_l {C : ConL} (h : CalleeL P w K mg base x j ps C) (hj : j ≤ k) : CalleeL P w K mg base x k ps C := by
  obtain ⟨f, fd, F, r⟩ := h.ex
  exact ⟨f, fd, F.mono hj, r⟩
theorem no_s {κ : Type} {C : ConS κ} (h : ∀ st i sl P, ¬ C.C st i sl P) : FnOk P w K mg base CX0 k f fd ps (spS K C) :=
  ⟨fun vs H Q E ⟨_, _, _, _, _, _, _, _, hc⟩ => absurd hc (h _ _ _ _), fun A outer s H args us vs Q E _ _ _ _ ⟨_, _, _, _, _, _, _, _, hc⟩ => absurd hc (h _ _ _ _)⟩
end

section
variable {P : Program} {w : World} {K : PySem.W.Frag} {mg : Str → Option Value} {base : Heap} {f fI : Addr} {fd fdI : FuncData} {CB Ct CN c Pt : Addr}
end
/-! ### facts of the head, each by its own words -/
section
variable {K : PySem.W.Frag} {h : Heap} {mg : Str → Option Value} {x : Str} {st : Stmt} {ps : List Str} {f : Addr} {oc kV doc pm cdv ct : Value} {od an : Option Addr} {osl : Array (Option Value)}
theorem mk_def (KX : K.In h) (G : h.Ns mainGlobals mg) (a : PySem.W.nsIn K mainGlobals x = some (some (.ref f))) (l : K.lookup f = some ⟨oc, od, .func (PySem.W.fnOf x x (defArgs st) (defBody st) (defScope st) .none kV doc pm an cdv ct), osl⟩) (c : PySem.W.codeIn K cdv x = true) (k : PySem.W.keepIn K (.ref f) = true)
    (b : ∀ (kV doc pm : Value) (an : Option Addr) (cdv ct : Value) (us : List Value), us.length = ps.length → bindArgs (PySem.W.fnOf x x (defArgs st) (defBody st) (defScope st) .none kV doc pm an cdv ct) ⟨us, []⟩ = pure (ps.zip us)) : Def K mg x st ps :=
  ⟨f, _, ⟨fun_mk l c k, PySem.W.mg_of KX G a, (fun_mk l c k).binds b⟩⟩
theorem mk_ci {i : Int} {t : Tok} (KX : K.In h) (G : h.Ns mainGlobals mg) (a : PySem.W.nsIn K mainGlobals x = some (some (.int i t))) : CI mg x i := ⟨t, PySem.W.mg_of KX G a⟩
end
/-! ### what is written, read out of what is held of the top -/
def allOf (f : Value → Option Dat) : List Value → Option (List Dat)
  | [] => some []
  | v :: r => match f v, allOf f r with
    | some d, some ds => some (d :: ds)
    | _, _ => none
def datOf (K : PySem.W.Frag) : Nat → Value → Option Dat
  | 0, _ => none
  | n + 1, v => match v with
    | .int i _ => some (.int i)
    | .str s _ => some (.str s)
    | .ref a => match K.lookup a with
      | some ⟨.type t, _, .seq its _, _⟩ => if t = "tuple" ∧ its.size ≤ 1000 then (allOf (datOf K n) its.toList).map Dat.tup else none
      | _ => none
    | _ => none
section
variable {K : PySem.W.Frag}
theorem allOf_ok {f : Value → Option Dat} (hf : ∀ v d, f v = some d → ∃ x, RelV x v ∧ ∀ S H, Dv K S H d x) : ∀ {l : List Value} {ds : List Dat}, allOf f l = some ds → ∃ xs, Vals xs l ∧ ∀ S H, DvL K S H ds xs
  | [], ds, e => by cases e; exact ⟨[], .nil, fun _ _ => rfl⟩
  | v :: r, ds, e => by
    rw [allOf] at e
    split at e
    · rename_i d ds' e1 e2
      cases e
      obtain ⟨x, r1, h1⟩ := hf v d e1
      obtain ⟨xs, r2, h2⟩ := allOf_ok hf e2
      exact ⟨x :: xs, .cons r1 r2, fun S H => ⟨x, xs, rfl, h1 S H, h2 S H⟩⟩
    · cases e
theorem datOf_ok : ∀ {n : Nat} {v : Value} {d : Dat}, datOf K n v = some d → ∃ x, RelV x v ∧ ∀ S H, Dv K S H d x
  | 0, _, _, e => by cases e
  | n + 1, v, d, e => by
    cases v with
    | int i t => rw [datOf] at e; cases e; exact ⟨.int _, ⟨_, rfl⟩, fun _ _ => rfl⟩
    | str i t => rw [datOf] at e; cases e; exact ⟨.str _, ⟨_, rfl⟩, fun _ _ => rfl⟩
    | ref a =>
      have e' : (match K.lookup a with
        | some ⟨.type t, _, .seq its _, _⟩ => if t = "tuple" ∧ its.size ≤ 1000 then (allOf (datOf K n) its.toList).map Dat.tup else none
        | _ => none) = some d := e
      split at e'
      · rename_i t od its m sl hl
        split at e'
        · rename_i hc
          obtain ⟨ht, hz⟩ := hc
          subst ht
          cases ea : allOf (datOf K n) its.toList with
          | none => rw [ea] at e'; cases e'
          | some ds =>
            rw [ea] at e'
            cases e'
            obtain ⟨xs, hv, hd⟩ := allOf_ok (fun v d => datOf_ok) ea
            exact ⟨.ref a, rfl, fun S H => ⟨a, xs, rfl, .inr ⟨_, its, m, hl, rfl, rfl, Nat.le_trans hz (by decide), hv⟩, hd S H⟩⟩
        · cases e'
      · cases e'
    | _ => cases e
theorem datOf_ref {n : Nat} {a : Addr} {d : Dat} (h : datOf K n (.ref a) = some d) (S : Addr → Prop) (H : Hp) : Dv K S H d (.ref a) := by
  obtain ⟨x, r, hd⟩ := datOf_ok h
  have e : x = .ref a := by
    cases x with
    | ref b => exact congrArg V.ref (Value.ref.inj (show Value.ref a = Value.ref b from r)).symm
    | non => cases (r : Value.ref a = Value.none)
    | bl b => cases (r : Value.ref a = Value.bool b)
    | int i => obtain ⟨t, z⟩ := (r : ∃ t, Value.ref a = Value.int i t); cases z
    | str i => obtain ⟨t, z⟩ := (r : ∃ t, Value.ref a = Value.str i t); cases z
    | byt i => obtain ⟨t, z⟩ := (r : ∃ t, Value.ref a = Value.bytes i t); cases z
    | flt i => obtain ⟨t, z⟩ := (r : ∃ t, Value.ref a = Value.float i t); cases z
    | ty i => cases (r : Value.ref a = Value.type i)
  rw [← e]
  exact hd S H
theorem mk_ct {h : Heap} {mg : Str → Option Value} {a : Addr} {x : Str} {d : Dat} (KX : K.In h) (G : h.Ns mainGlobals mg) (e : PySem.W.nsIn K mainGlobals x = some (some (.ref a))) (hd : datOf K 4 (.ref a) = some d) : CT K mg x d := ⟨a, PySem.W.mg_of KX G e, fun S H => datOf_ref hd S H⟩
end
section
variable {K : PySem.W.Frag} {h : Heap} {mg : Str → Option Value} {x : Str} {st : Stmt} {ps : List Str} {f : Addr} {oc kV doc pm cdv ct : Value} {od an : Option Addr} {osl : Array (Option Value)}
theorem mk_oex {C : Addr} {nm q : Str} {N : Addr} {bs bm sn} {sub ab col dd k0 k1 k2 k3 k5} (l : K.lookup C = some (excClassObj nm q C N bs bm true sn sub ab col dd k0 k1 k2 k3 k5 "ValueError.__new__")) (r : PySem.HandSPX.refsVE bm = true) (sa : PySem.W.findIn K (.ref C) "__setattr__" = some (some (.builtin "object.__setattr__")))
    (e : PySem.W.subIn K (.ref C) (.type "BaseException") = some true) (t : PySem.W.typeIn K (.ref C) = some (.type "type")) (k : PySem.W.keepIn K (.ref C) = true) : OexC K C := ⟨⟨_, _, _, _, _, _, _, _, _, _, _, _, _, _, _, l, r⟩, sa, e, t, k⟩
theorem mk_bt (KX : K.In h) (G : h.Ns mainGlobals mg) (a : ∀ x ∈ (["type", "tuple", "str", "int", "list", "len", "min", "zip", "range", "all", "sorted", "dict", "isinstance", "bool", "repr", "enumerate"] : List Str), PySem.W.nsIn K mainGlobals x = some none) : Bt mg := by
  have g : ∀ x ∈ (["type", "tuple", "str", "int", "list", "len", "min", "zip", "range", "all", "sorted", "dict", "isinstance", "bool", "repr", "enumerate"] : List Str), mg x = none := fun x hx => PySem.W.mg_none_of KX G (a x hx)
  constructor <;> exact g _ (by decide)
end
section
variable {K : PySem.W.Frag} {h : Heap} {mg : Str → Option Value} {x : Str} {st : Stmt} {ps : List Str} {f : Addr} {oc kV doc pm cdv ct : Value} {od an : Option Addr} {osl : Array (Option Value)}
theorem mk_law {fa f0 : Addr} (KX : K.In h) (G : h.Ns mainGlobals mg) (hmg : mg "law" = some (.ref fa)) (a : PySem.W.nsIn K mainGlobals "law" = some (some (.ref f0))) (l : K.lookup f0 = some ⟨oc, od, .func (PySem.W.fnOf "law" "law" (defArgs s_law) (defBody s_law) (defScope s_law) .none kV doc pm an cdv ct), osl⟩) (cc : PySem.W.codeIn K cdv "law" = true) (k : PySem.W.keepIn K (.ref f0) = true) :
    ∃ fd, Fun K "law" "law" s_law fa fd ∧ ∀ (s : Shared) (u : Value), BindsTo s fd ⟨[u], []⟩ [("script", u)] := by
  have e : fa = f0 := Value.ref.inj (Option.some.inj (hmg.symm.trans (PySem.W.mg_of KX G a)))
  subst e
  exact ⟨_, fun_mk l cc k, fun s u => .of_eq rfl⟩
/-- a method -/
abbrev DefM (K : PySem.W.Frag) (C : Addr) (x q : Str) (st : Stmt) (ps : List Str) : Prop := ∃ f fd, Fun K x q st f fd ∧ Meth K C x f ∧ Binds K fd ps []
theorem mk_defM {C : Addr} {q : Str} (m : PySem.W.findIn K (.ref C) x = some (some (.ref f))) (fn : PySem.W.isFn K (.ref f) = true) (l : K.lookup f = some ⟨oc, od, .func (PySem.W.fnOf x q (defArgs st) (defBody st) (defScope st) .none kV doc pm an cdv ct), osl⟩) (c : PySem.W.codeIn K cdv q = true) (k : PySem.W.keepIn K (.ref f) = true)
    (b : ∀ (kV doc pm : Value) (an : Option Addr) (cdv ct : Value) (us : List Value), us.length = ps.length → bindArgs (PySem.W.fnOf x q (defArgs st) (defBody st) (defScope st) .none kV doc pm an cdv ct) ⟨us, []⟩ = pure (ps.zip us)) : DefM K C x q st ps :=
  ⟨f, _, fun_mk l c k, ⟨m, fn, k⟩, (fun_mk l c k).binds b⟩
theorem def_m {P : Program} {w : World} {base : Heap} {k : Nat} {C : Addr} {q : Str} {con : ConM} (D : DefM K C x q st ps) (ok : ∀ {f fd}, Fun K x q st f fd → FnOk P w K mg base (L2.CX P w) k f fd ps (spM K con)) : CalleeM P w K mg base C x k ps con := by
  obtain ⟨f, fd, F, M, b⟩ := D
  exact ⟨f, fd, ok F, M, b⟩
theorem mono_m {P : Program} {w : World} {base : Heap} {j k : Nat} {C : Addr} {con : ConM} (h : CalleeM P w K mg base C x j ps con) (hj : j ≤ k) : CalleeM P w K mg base C x k ps con := by
  obtain ⟨f, fd, F, r⟩ := h.ex
  exact ⟨f, fd, F.mono hj, r⟩
theorem def_mf {P : Program} {w : World} {base : Heap} {k : Nat} {con : ConM} (D : Def K mg x st ps) (ok : ∀ {f fd}, Fun K x x st f fd → FnOk P w K mg base (L2.CX P w) k f fd ps (spM K con)) : CalleeMf P w K mg base x k ps con := by
  obtain ⟨f, fd, h⟩ := D
  exact ⟨f, fd, ok h.F, h.m, h.F.kp, h.b⟩
/-- a special def -/
abbrev DefS (K : PySem.W.Frag) (C : Addr) (x q : Str) (st : Stmt) (ps : List Str) : Prop := ∃ f fd, Fun K x q st f fd ∧ Spc K C x f ∧ Binds K fd ps []
theorem mk_defS {C : Addr} {q : Str} (m : PySem.W.findIn K (.ref C) x = some (some (.ref f))) (fn : PySem.W.isFn K (.ref f) = true) (l : K.lookup f = some ⟨oc, od, .func (PySem.W.fnOf x q (defArgs st) (defBody st) (defScope st) .none kV doc pm an cdv ct), osl⟩) (c : PySem.W.codeIn K cdv q = true) (k : PySem.W.keepIn K (.ref f) = true)
    (b : ∀ (kV doc pm : Value) (an : Option Addr) (cdv ct : Value) (us : List Value), us.length = ps.length → bindArgs (PySem.W.fnOf x q (defArgs st) (defBody st) (defScope st) .none kV doc pm an cdv ct) ⟨us, []⟩ = pure (ps.zip us)) : DefS K C x q st ps :=
  ⟨f, _, fun_mk l c k, ⟨m, fn⟩, (fun_mk l c k).binds b⟩
theorem def_sp {P : Program} {w : World} {base : Heap} {k : Nat} {C : Addr} {q : Str} {con : ConM} (D : DefS K C x q st ps) (ok : ∀ {f fd}, Fun K x q st f fd → FnOk P w K mg base (L2.CX P w) k f fd ps (spM K con)) : CalleeSp P w K mg base C x k ps con := by
  obtain ⟨f, fd, F, M, b⟩ := D
  exact ⟨f, fd, ok F, M, b⟩
theorem mono_sp {P : Program} {w : World} {base : Heap} {j k : Nat} {C : Addr} {con : ConM} (h : CalleeSp P w K mg base C x j ps con) (hj : j ≤ k) : CalleeSp P w K mg base C x k ps con := by
  obtain ⟨f, fd, F, r⟩ := h.ex
  exact ⟨f, fd, F.mono hj, r⟩
/-- the class Model, of what is held of the top -/
theorem mk_model {C T D e0 e1 e2 : Addr} {o : Obj} {n : Nat} (KX : K.In h) (G : h.Ns mainGlobals mg) (a : PySem.W.nsIn K mainGlobals "Model" = some (some (.ref C))) (mk : PySem.W.makesIn K C = true) (ini : PySem.W.findIn K (.ref C) "__init__" = some (some (.ref f))) (fn : PySem.W.isFn K (.ref f) = true) (kp : PySem.W.keepIn K (.ref C) = true)
    (l : K.lookup f = some ⟨oc, od, .func (PySem.W.fnOf "__init__" "Model.__init__" (defArgs s_Model___init__) (defBody s_Model___init__) (defScope s_Model___init__) (.ref T) (.ref D) doc pm an cdv ct), osl⟩) (c : PySem.W.codeIn K cdv "Model.__init__" = true) (k : PySem.W.keepIn K (.ref f) = true)
    (lT : K.lookup T = some o) (oT : o.data = .seq #[.ref e0] n) (d1 : PySem.W.nsIn K D "calls" = some (some (.ref e1))) (d2 : PySem.W.nsIn K D "props" = some (some (.ref e2))) (t0' : datOf K 4 (.ref e0) = some t0) (t1' : datOf K 4 (.ref e1) = some t0) (t2' : datOf K 4 (.ref e2) = some t0) :
    ∃ C f fd v a b, ModelK K mg C f fd v a b :=
  ⟨C, f, _, .ref e0, .ref e1, .ref e2, ⟨⟨mk, ini, fn, kp⟩, PySem.W.mg_of KX G a, ⟨⟨oc, od, _, _, doc, pm, an, cdv, ct, osl, rfl, l, c, .inr ⟨by simp, T, o, [.ref e0], n, rfl, lT, oT, .cons rfl .nil⟩, .inr ⟨D, rfl, fun q hq => by
    simp only [List.mem_cons, List.not_mem_nil, or_false] at hq
    rcases hq with rfl | rfl
    · exact ⟨_, d1, rfl⟩
    · exact ⟨_, d2, rfl⟩⟩⟩, k⟩, datOf_ref t0', datOf_ref t1', datOf_ref t2'⟩⟩
end
end K01
set_option autoImplicit false
namespace K01
open PySem PySem.Spec PyProof.Rows L2 DL LamX
structure Facts (w : World) (K : PySem.W.Frag) (mg : Str → Option Value) (CB CM fI fM : Addr) (fdI fdM : FuncData) (v a b : V) : Prop where
  B : Bt mg
  gcd : mg "gcd" = some (.builtin "math.gcd")
  SORTS : CT K mg "SORTS" (.tup (sorts.map Dat.str))
  MOST_BITS : CI mg "MOST_BITS" 15
  TREE_DEEP : CI mg "TREE_DEEP" 40
  TREE_PARTS : CI mg "TREE_PARTS" 600
  MOST_LETTERS : CI mg "MOST_LETTERS" 6
  MOST_TERMS : CI mg "MOST_TERMS" 3
  vV : PySem.W.findCls K (.type "ValueError") (.type "type") "__init__" = some (.val (.builtin "ValueError.__init__"))
  ve : mg "ValueError" = none
  mB : mg "BadValue" = some (.ref CB)
  noB : PySem.W.findIn K (.ref CB) "what" = some none
  oex : OexC K CB
  iniB : PySem.W.findIn K (.ref CB) "__init__" = some (some (.ref fI))
  tyB : PySem.W.typeIn K (.ref fI) = some (.type "function")
  FB : Fun K "__init__" "BadValue.__init__" s_init fI fdI
  bB : Binds K fdI ["self", "what"] []
  MK : ModelK K mg CM fM fdM v a b
  HC : CmpC K CM
  NA_names : NoAttr K CM "_names"
  NA_calls : NoAttr K CM "_calls"
  NA_props : NoAttr K CM "_props"
  has_word : Def K mg "has_word" s_has_word ["thing"]
  is_sort : Def K mg "is_sort" s_is_sort ["thing"]
  is_name : Def K mg "is_name" s_is_name ["thing"]
  is_below : Def K mg "is_below" s_is_below ["one", "other"]
  is_fraction : Def K mg "is_fraction" s_is_fraction ["thing"]
  tree_size : Def K mg "tree_size" s_tree_size ["thing", "deep", "room"]
  is_rising : Def K mg "is_rising" s_is_rising ["thing"]
  is_value : Def K mg "is_value" s_is_value ["thing", "sort"]
  is_row_of_names : Def K mg "is_row_of_names" s_is_row_of_names ["thing"]
  is_pair_of_call : Def K mg "is_pair_of_call" s_is_pair_of_call ["thing"]
  is_row_of_calls : Def K mg "is_row_of_calls" s_is_row_of_calls ["thing"]
  are_rows : Def K mg "are_rows" s_are_rows ["thing", "is_row"]
  has_twice : Def K mg "has_twice" s_has_twice ["things"]
  names_of_model : Def K mg "names_of_model" s_names_of_model ["thing"]
  calls_of_model : Def K mg "calls_of_model" s_calls_of_model ["thing"]
  props_of_model : Def K mg "props_of_model" s_props_of_model ["thing"]
  l_mixed : Def K mg "_law_mixed" s__law_mixed ["cell", "k"]
  l_folded : Def K mg "_law_folded" s__law_folded ["script"]
  l_draw : Def K mg "_law_draw" s__law_draw ["m", "top"]
  l_begun : Def K mg "_law_begun" s__law_begun ["script"]
  l_called : Def K mg "_law_called" s__law_called ["m", "top"]
  l_kind : Def K mg "_law_kind" s__law_kind ["k"]
  l_mixed_up : Def K mg "_law_mixed_up" s__law_mixed_up ["m", "things"]
  l_lowest : Def K mg "_law_lowest" s__law_lowest ["high", "low"]
  l_below : Def K mg "_law_below" s__law_below ["p", "q"]
  l_risen : Def K mg "_law_risen" s__law_risen ["some"]
  l_worth : Def K mg "_law_worth" s__law_worth ["m", "kind", "deep"]
  l_call_row : Def K mg "_law_call_row" s__law_call_row ["m", "w", "k"]
  l_three : Def K mg "_law_three" s__law_three ["m", "w"]
  l_handed : Def K mg "_law_handed" s__law_handed ["m", "some"]
  l_right : Def K mg "_law_right" s__law_right ["m", "three"]
  l_other_right : Def K mg "_law_other_right" s__law_other_right ["m", "w", "three"]
  m_names : DefM K CM "names" "Model.names" s_Model_names ["self"]
  m_calls : DefM K CM "calls" "Model.calls" s_Model_calls ["self"]
  m_props : DefM K CM "props" "Model.props" s_Model_props ["self"]
  s_eq : DefS K CM "__eq__" "Model.__eq__" s_Model___eq__ ["self", "other"]
  s_len : DefS K CM "__len__" "Model.__len__" s_Model___len__ ["self"]
  s_repr : DefS K CM "__repr__" "Model.__repr__" s_Model___repr__ ["self"]
theorem held_of {P : Program} {w : World} {K : PySem.W.Frag} {mg : Str → Option Value} {base : Heap} {x : Str} {k : Nat} {f : Addr} {ps : List Str} {con con' : DL.Con} (h : DL.Callee P w K mg base x k ps con) (m : mg x = some (.ref f)) (weak : ∀ ds P X, con'.C ds P X → con.C ds P X) : Held P w K mg base k f (spD K con') := by
  obtain ⟨f', fd, F, hm, hk, hb⟩ := h.ex
  cases m.symm.trans hm
  exact ⟨fd, ps, F.imp fun vs H Q E ⟨S, ds, h1, h2, h3⟩ => ⟨S, ds, h1, h2, weak _ _ _ h3⟩, hk, hb⟩
section
variable {P : Program} {w : World} {K : PySem.W.Frag} {mg : Str → Option Value} {base : Heap} {f fI fM : Addr} {fd fdI fdM : FuncData} {CB CM : Addr} {v a b : V}
theorem law_all (A : Facts w K mg CB CM fI fM fdI fdM v a b) (F : Fun K "law" "law" s_law f fd) : FnG P w K mg base CX0 60 f fd ["script"] (spLaw0 K) := by
  have has_word : Callee P w K mg base "has_word" 1 ["thing"] c_has_word := def_c A.has_word fun F => ok_has_word A.B F
  have is_sort : Callee P w K mg base "is_sort" 1 ["thing"] c_is_sort := def_c A.is_sort fun F => ok_is_sort A.B A.SORTS F
  have is_name : Callee P w K mg base "is_name" 1 ["thing"] c_is_name := def_c A.is_name fun F => ok_is_name A.B A.MOST_LETTERS F
  have bad : OwnX P w K mg base "BadValue" CB "what" 1 := ⟨A.oex, A.mB, A.noB, fI, fdI, _, A.iniB, A.tyB, ok_init A.ve A.vV A.FB, A.bB⟩
  have is_below : Callee P w K mg base "is_below" 1 ["one", "other"] c_is_below := def_c A.is_below fun F => ok_is_below F
  have is_fraction : Callee P w K mg base "is_fraction" 1 ["thing"] c_is_fraction := def_c A.is_fraction fun F => ok_is_fraction A.B A.gcd F
  have tree_size : ∀ n, Callee P w K mg base "tree_size" (n + 2) ["thing", "deep", "room"] (c_tree_size n) := fun n => by
    induction n with
    | zero => exact def_c A.tree_size fun F => fn_no fun _ _ _ ⟨_, _, h, _⟩ => absurd h (Nat.not_lt_zero _)
    | succ n ih => exact def_c A.tree_size fun F => ok_tree_size (k := n + 2) A.B (Callee.mono has_word (by omega)) (Callee.mono is_fraction (by omega)) ih F
  have is_rising : Callee P w K mg base "is_rising" 2 ["thing"] c_is_rising := def_c A.is_rising fun F => ok_is_rising A.B is_fraction is_below F
  have is_value : Callee P w K mg base "is_value" 44 ["thing", "sort"] c_is_valueD := def_c A.is_value fun F => ok_is_value A.B (Callee.mono is_sort (by omega)) (Callee.mono is_fraction (by omega)) (tree_size 41) (Callee.mono is_rising (by omega)) A.TREE_DEEP A.TREE_PARTS A.MOST_BITS F
  have is_row_of_names : Callee P w K mg base "is_row_of_names" 45 ["thing"] c_rowN := def_c A.is_row_of_names fun F => ok_is_row_of_names A.B (Callee.mono is_name (by omega)) is_value F
  have is_pair_of_call : Callee P w K mg base "is_pair_of_call" 45 ["thing"] c_pairC := def_c A.is_pair_of_call fun F => ok_is_pair_of_call A.B is_value F
  have is_row_of_calls : Callee P w K mg base "is_row_of_calls" 46 ["thing"] c_rowC := def_c A.is_row_of_calls fun F => ok_is_row_of_calls A.B A.MOST_TERMS (Callee.mono is_name (by omega)) (Callee.mono is_value (by omega)) is_pair_of_call F
  have has_twice : Callee P w K mg base "has_twice" 1 ["things"] c_twice := def_c A.has_twice fun F => ok_has_twice A.B F
  have are : ∀ r : Dat → Bool, CalleeMf P w K mg base "are_rows" 47 ["thing", "is_row"] (conRows P w K mg base 46 r) := fun r => def_mf A.are_rows fun F => ok_are_rows (k := 46) A.B F
  obtain ⟨fN, fdN, aN⟩ := A.is_row_of_names
  obtain ⟨fC, fdC, aC⟩ := A.is_row_of_calls
  obtain ⟨fP, fdP, aP⟩ := A.is_name
  have names_of : CalleeX P w K mg base "names_of_model" 48 ["thing"] (c_rowsOf CB rowN headD "names") := def_x A.names_of_model fun F => ok_names_of_model (k := 47) (j := 1) (jj := 46) (by omega) (by omega) A.B aN.m (held_of (Callee.mono (k := 46) is_row_of_names (by omega)) aN.m fun _ _ _ h => h) (are rowN) (Callee.mono has_twice (by omega)) bad F
  have calls_of : CalleeX P w K mg base "calls_of_model" 48 ["thing"] (c_rowsOf CB rowC frontD "calls") := def_x A.calls_of_model fun F => ok_calls_of_model (k := 47) (j := 1) (jj := 46) (by omega) (by omega) A.B aC.m (held_of is_row_of_calls aC.m fun _ _ _ h => h) (are rowC) (Callee.mono has_twice (by omega)) bad F
  have props_of : CalleeX P w K mg base "props_of_model" 48 ["thing"] (c_rowsOf CB isName id "props") := def_x A.props_of_model fun F => ok_props_of_model (k := 47) (j := 1) (jj := 46) (by omega) (by omega) A.B aP.m (held_of (Callee.mono (k := 46) is_name (by omega)) aP.m fun _ _ _ ⟨d, e, h, q⟩ => ⟨d, e, h.1, q⟩) (are isName) (Callee.mono has_twice (by omega)) bad F
  have ini : FnOk P w K mg base (L2.CX P w) 49 fM fdM ["self", "names", "calls", "props"] (spNew K CM (c_init CB)) := ok_Model_init (k := 48) A.HC.cl A.NA_names A.NA_calls A.NA_props names_of calls_of props_of A.MK.F
  have m_names : CalleeM P w K mg base CM "names" 49 ["self"] (c_fldM CM 0) := mono_m (j := 1) (def_m A.m_names fun F => ok_Model_names A.HC.cl A.NA_names F) (by omega)
  have m_calls : CalleeM P w K mg base CM "calls" 49 ["self"] (c_fldM CM 1) := mono_m (j := 1) (def_m A.m_calls fun F => ok_Model_calls A.HC.cl A.NA_calls F) (by omega)
  have m_props : CalleeM P w K mg base CM "props" 49 ["self"] (c_fldM CM 2) := mono_m (j := 1) (def_m A.m_props fun F => ok_Model_props A.HC.cl A.NA_props F) (by omega)
  have s_len : CalleeSp P w K mg base CM "__len__" 49 ["self"] (c_lenM CM) := mono_sp (j := 1) (def_sp A.s_len fun F => ok_Model_len A.B A.HC.cl A.NA_names F) (by omega)
  have s_repr : CalleeSp P w K mg base CM "__repr__" 49 ["self"] (c_reprM CM) := mono_sp (j := 1) (def_sp A.s_repr fun F => ok_Model_repr A.B A.HC.cl A.NA_names F) (by omega)
  have s_eq : CalleeSp P w K mg base CM "__eq__" 49 ["self", "other"] (c_eqM CM) := mono_sp (j := 1) (def_sp A.s_eq fun F => ok_Model_eq A.B A.HC A.MK.mgC A.NA_names A.NA_calls A.NA_props F) (by omega)
  have l_mixed : Callee P w K mg base "_law_mixed" 1 ["cell", "k"] conMix := def_c A.l_mixed fun F => ok_law_mixed F
  have l_draw : CalleeS P w K mg base "_law_draw" 2 ["m", "top"] conDraw := def_s A.l_draw fun F => ok_law_draw A.B l_mixed F
  have l_folded : CalleeL P w K mg base "_law_folded" 1 ["script"] conFold := def_l A.l_folded fun F => ok_law_folded A.B F
  have l_begun : CalleeL P w K mg base "_law_begun" 2 ["script"] conBegun := def_l A.l_begun fun F => ok_law_begun l_folded F
  have l_called : CalleeS P w K mg base "_law_called" 3 ["m", "top"] conCalled := def_s A.l_called fun F => ok_law_called A.B l_draw F
  have l_kind : Callee P w K mg base "_law_kind" 1 ["k"] c_law_kind := def_c A.l_kind fun F => ok_law_kind F
  have l_lowest : Callee P w K mg base "_law_lowest" 1 ["high", "low"] c_lowest := def_c A.l_lowest fun F => ok_law_lowest F
  have l_below : Callee P w K mg base "_law_below" 1 ["p", "q"] c_is_below := def_c A.l_below fun F => ok_law_below F
  have l_risen : Callee P w K mg base "_law_risen" 2 ["some"] c_risen := def_c A.l_risen fun F => ok_law_risen A.B l_below F
  have l_worth : ∀ n, CalleeS P w K mg base "_law_worth" (n + 3) ["m", "kind", "deep"] (conWorth n) := fun n => by
    induction n with
    | zero => exact def_s A.l_worth fun F => no_s fun st i sl P ⟨_, _, _, _, _, _, _, h, _⟩ => absurd h (Nat.not_lt_zero _)
    | succ n ih => exact def_s A.l_worth fun F => ok_law_worth (k := n + 3) A.B (mono_s l_draw (by omega)) ih (Callee.mono l_lowest (by omega)) (Callee.mono l_risen (by omega)) F
  have l_row : CalleeS P w K mg base "_law_call_row" 8 ["m", "w", "k"] conRow := def_s A.l_call_row fun F => ok_law_call_row A.B (mono_s l_draw (by omega)) (Callee.mono l_kind (by omega)) (l_worth 4) F
  have l_three : CalleeS P w K mg base "_law_three" 9 ["m", "w"] conThree := def_s A.l_three fun F => ok_law_three A.B (mono_s l_draw (by omega)) (Callee.mono l_kind (by omega)) (mono_s (l_worth 4) (by omega)) l_row F
  have l_mixup : CalleeS P w K mg base "_law_mixed_up" 3 ["m", "things"] conMixed := def_s A.l_mixed_up fun F => ok_law_mixed_up A.B l_draw F
  have l_handed : CalleeS P w K mg base "_law_handed" 4 ["m", "some"] conHanded := def_s A.l_handed fun F => ok_law_handed A.B (mono_s l_draw (by omega)) l_mixup F
  have l_right : CalleeSG P w K mg base "_law_right" 53 ["m", "three"] conToldR := def_sg A.l_right fun F => ok_law_right (k := 52) (j := 49) A.B A.HC (by omega) (mkc_full A.MK ini) (mkc_pnc A.MK ini) m_names m_calls m_props s_eq s_len s_repr (mono_s l_handed (by omega)) F
  have l_other : CalleeSG P w K mg base "_law_other_right" 53 ["m", "w", "three"] conOther := def_sg A.l_other_right fun F => ok_law_other_right (k := 52) (j := 49) A.B A.HC (by omega) (mkc_full A.MK ini) s_eq (mono_s l_draw (by omega)) (Callee.mono l_kind (by omega)) (mono_s (l_worth 4) (by omega)) F
  exact (ok_law (k := 53) (j := 49) A.B A.HC (by omega) (mkc_none A.MK ini) m_names m_calls m_props s_len s_repr (mono_l l_begun (by omega)) (mono_s l_called (by omega)) (mono_s l_three (by omega)) l_right l_other F).mono (by omega)
end
theorem scr_of0 {K : PySem.W.Frag} {a : Addr} {vs : List Value} {ns : List Int} {H : Hp} (O : OnlyTs K a [] vs ns H) : ScrOk K (fun _ => False) H ns (.ref a) := by
  rcases O.scr with h | h
  · exact ⟨a, rfl, .inl ⟨fun e => e, h⟩⟩
  · exact ⟨a, rfl, .inr h⟩
theorem law_at {l : PySem.W.OpenLaw} {w : World} {K : PySem.W.Frag} {mg : Str → Option Value} {CB CM fI fM fa : Addr} {fdI fdM fd : FuncData} {v a b : V} {h : Heap} (A : Facts w K mg CB CM fI fM fdI fdM v a b) (F : Fun K "law" "law" s_law fa fd) (bs : ∀ (s : Shared) (u : Value), BindsTo s fd ⟨[u], []⟩ [("script", u)]) :
    LawAtGs l w K 60 63 "script" mg fa h :=
  ⟨fd, [], spLaw0 K, fun T ⟨c, hc⟩ => (nomatch hc), fun T ⟨c, hc⟩ => (nomatch hc), fun p hp => (nomatch hp), bs, fun H l vs ns hn O => ⟨ns, .ref l, rfl, hn, scr_of0 O, fun _ => rfl⟩, fun base _ _ TB => law_all A F⟩
end K01
open PySem PySem.W PyProof.Rows
set_option linter.all false
set_option maxRecDepth 100000 in
set_option maxHeartbeats 0 in
theorem PySem.Challenge.cw_allsorts_k11_models_told_holds : PySem.Challenge.rw_allsorts_k11_models_told.Holds := by
  w_on; o_law; k_head; (case hw => w_witness2)
  k_fill
  refine DL.walk_ofGs (l := PySem.Challenge.rw_allsorts_k11_models_told) (n := 63) (k := 60) (x := "script") rfl (by decide) rfl ⟨rfl, by decide, by decide⟩ (fun w h Y => PySem.W.kIn_of Y) ?F
  case F =>
    intro w mg fa h Y KX G hmg
    have d_has_word : K01.Def (PySem.Challenge.cw_allsorts_k11_models_told_holds.heap_39 w.params) mg "has_word" K01.s_has_word ["thing"] := by
      refine' K01.mk_def KX G ?a ?l ?c ?k ?b
      (case a => k_is)
      (case l => k_is)
      (case c => k_is)
      (case k => k_is)
      (case b => first | exact (fun _ _ _ _ _ _ us hl => match us, hl with | [_], _ => rfl))
    have d_is_sort : K01.Def (PySem.Challenge.cw_allsorts_k11_models_told_holds.heap_39 w.params) mg "is_sort" K01.s_is_sort ["thing"] := by
      refine' K01.mk_def KX G ?a ?l ?c ?k ?b
      (case a => k_is)
      (case l => k_is)
      (case c => k_is)
      (case k => k_is)
      (case b => first | exact (fun _ _ _ _ _ _ us hl => match us, hl with | [_], _ => rfl))
    have d_is_name : K01.Def (PySem.Challenge.cw_allsorts_k11_models_told_holds.heap_39 w.params) mg "is_name" K01.s_is_name ["thing"] := by
      refine' K01.mk_def KX G ?a ?l ?c ?k ?b
      (case a => k_is)
      (case l => k_is)
      (case c => k_is)
      (case k => k_is)
      (case b => first | exact (fun _ _ _ _ _ _ us hl => match us, hl with | [_], _ => rfl))
    have d_is_below : K01.Def (PySem.Challenge.cw_allsorts_k11_models_told_holds.heap_39 w.params) mg "is_below" K01.s_is_below ["one", "other"] := by
      refine' K01.mk_def KX G ?a ?l ?c ?k ?b
      (case a => k_is)
      (case l => k_is)
      (case c => k_is)
      (case k => k_is)
      (case b => first | exact (fun _ _ _ _ _ _ us hl => match us, hl with | [_, _], _ => rfl))
    have d_is_fraction : K01.Def (PySem.Challenge.cw_allsorts_k11_models_told_holds.heap_39 w.params) mg "is_fraction" K01.s_is_fraction ["thing"] := by
      refine' K01.mk_def KX G ?a ?l ?c ?k ?b
      (case a => k_is)
      (case l => k_is)
      (case c => k_is)
      (case k => k_is)
      (case b => first | exact (fun _ _ _ _ _ _ us hl => match us, hl with | [_], _ => rfl))
    have d_tree_size : K01.Def (PySem.Challenge.cw_allsorts_k11_models_told_holds.heap_39 w.params) mg "tree_size" K01.s_tree_size ["thing", "deep", "room"] := by
      refine' K01.mk_def KX G ?a ?l ?c ?k ?b
      (case a => k_is)
      (case l => k_is)
      (case c => k_is)
      (case k => k_is)
      (case b => first | exact (fun _ _ _ _ _ _ us hl => match us, hl with | [_, _, _], _ => rfl))
    have d_is_rising : K01.Def (PySem.Challenge.cw_allsorts_k11_models_told_holds.heap_39 w.params) mg "is_rising" K01.s_is_rising ["thing"] := by
      refine' K01.mk_def KX G ?a ?l ?c ?k ?b
      (case a => k_is)
      (case l => k_is)
      (case c => k_is)
      (case k => k_is)
      (case b => first | exact (fun _ _ _ _ _ _ us hl => match us, hl with | [_], _ => rfl))
    have d_is_value : K01.Def (PySem.Challenge.cw_allsorts_k11_models_told_holds.heap_39 w.params) mg "is_value" K01.s_is_value ["thing", "sort"] := by
      refine' K01.mk_def KX G ?a ?l ?c ?k ?b
      (case a => k_is)
      (case l => k_is)
      (case c => k_is)
      (case k => k_is)
      (case b => first | exact (fun _ _ _ _ _ _ us hl => match us, hl with | [_, _], _ => rfl))
    have d_is_row_of_names : K01.Def (PySem.Challenge.cw_allsorts_k11_models_told_holds.heap_39 w.params) mg "is_row_of_names" K01.s_is_row_of_names ["thing"] := by
      refine' K01.mk_def KX G ?a ?l ?c ?k ?b
      (case a => k_is)
      (case l => k_is)
      (case c => k_is)
      (case k => k_is)
      (case b => first | exact (fun _ _ _ _ _ _ us hl => match us, hl with | [_], _ => rfl))
    have d_is_pair_of_call : K01.Def (PySem.Challenge.cw_allsorts_k11_models_told_holds.heap_39 w.params) mg "is_pair_of_call" K01.s_is_pair_of_call ["thing"] := by
      refine' K01.mk_def KX G ?a ?l ?c ?k ?b
      (case a => k_is)
      (case l => k_is)
      (case c => k_is)
      (case k => k_is)
      (case b => first | exact (fun _ _ _ _ _ _ us hl => match us, hl with | [_], _ => rfl))
    have d_is_row_of_calls : K01.Def (PySem.Challenge.cw_allsorts_k11_models_told_holds.heap_39 w.params) mg "is_row_of_calls" K01.s_is_row_of_calls ["thing"] := by
      refine' K01.mk_def KX G ?a ?l ?c ?k ?b
      (case a => k_is)
      (case l => k_is)
      (case c => k_is)
      (case k => k_is)
      (case b => first | exact (fun _ _ _ _ _ _ us hl => match us, hl with | [_], _ => rfl))
    have d_are_rows : K01.Def (PySem.Challenge.cw_allsorts_k11_models_told_holds.heap_39 w.params) mg "are_rows" K01.s_are_rows ["thing", "is_row"] := by
      refine' K01.mk_def KX G ?a ?l ?c ?k ?b
      (case a => k_is)
      (case l => k_is)
      (case c => k_is)
      (case k => k_is)
      (case b => first | exact (fun _ _ _ _ _ _ us hl => match us, hl with | [_, _], _ => rfl))
    have d_has_twice : K01.Def (PySem.Challenge.cw_allsorts_k11_models_told_holds.heap_39 w.params) mg "has_twice" K01.s_has_twice ["things"] := by
      refine' K01.mk_def KX G ?a ?l ?c ?k ?b
      (case a => k_is)
      (case l => k_is)
      (case c => k_is)
      (case k => k_is)
      (case b => first | exact (fun _ _ _ _ _ _ us hl => match us, hl with | [_], _ => rfl))
    have d_names_of_model : K01.Def (PySem.Challenge.cw_allsorts_k11_models_told_holds.heap_39 w.params) mg "names_of_model" K01.s_names_of_model ["thing"] := by
      refine' K01.mk_def KX G ?a ?l ?c ?k ?b
      (case a => k_is)
      (case l => k_is)
      (case c => k_is)
      (case k => k_is)
      (case b => first | exact (fun _ _ _ _ _ _ us hl => match us, hl with | [_], _ => rfl))
    have d_calls_of_model : K01.Def (PySem.Challenge.cw_allsorts_k11_models_told_holds.heap_39 w.params) mg "calls_of_model" K01.s_calls_of_model ["thing"] := by
      refine' K01.mk_def KX G ?a ?l ?c ?k ?b
      (case a => k_is)
      (case l => k_is)
      (case c => k_is)
      (case k => k_is)
      (case b => first | exact (fun _ _ _ _ _ _ us hl => match us, hl with | [_], _ => rfl))
    have d_props_of_model : K01.Def (PySem.Challenge.cw_allsorts_k11_models_told_holds.heap_39 w.params) mg "props_of_model" K01.s_props_of_model ["thing"] := by
      refine' K01.mk_def KX G ?a ?l ?c ?k ?b
      (case a => k_is)
      (case l => k_is)
      (case c => k_is)
      (case k => k_is)
      (case b => first | exact (fun _ _ _ _ _ _ us hl => match us, hl with | [_], _ => rfl))
    have d_l_mixed : K01.Def (PySem.Challenge.cw_allsorts_k11_models_told_holds.heap_39 w.params) mg "_law_mixed" K01.s__law_mixed ["cell", "k"] := by
      refine' K01.mk_def KX G ?a ?l ?c ?k ?b
      (case a => k_is)
      (case l => k_is)
      (case c => k_is)
      (case k => k_is)
      (case b => first | exact (fun _ _ _ _ _ _ us hl => match us, hl with | [_, _], _ => rfl))
    have d_l_folded : K01.Def (PySem.Challenge.cw_allsorts_k11_models_told_holds.heap_39 w.params) mg "_law_folded" K01.s__law_folded ["script"] := by
      refine' K01.mk_def KX G ?a ?l ?c ?k ?b
      (case a => k_is)
      (case l => k_is)
      (case c => k_is)
      (case k => k_is)
      (case b => first | exact (fun _ _ _ _ _ _ us hl => match us, hl with | [_], _ => rfl))
    have d_l_draw : K01.Def (PySem.Challenge.cw_allsorts_k11_models_told_holds.heap_39 w.params) mg "_law_draw" K01.s__law_draw ["m", "top"] := by
      refine' K01.mk_def KX G ?a ?l ?c ?k ?b
      (case a => k_is)
      (case l => k_is)
      (case c => k_is)
      (case k => k_is)
      (case b => first | exact (fun _ _ _ _ _ _ us hl => match us, hl with | [_, _], _ => rfl))
    have d_l_begun : K01.Def (PySem.Challenge.cw_allsorts_k11_models_told_holds.heap_39 w.params) mg "_law_begun" K01.s__law_begun ["script"] := by
      refine' K01.mk_def KX G ?a ?l ?c ?k ?b
      (case a => k_is)
      (case l => k_is)
      (case c => k_is)
      (case k => k_is)
      (case b => first | exact (fun _ _ _ _ _ _ us hl => match us, hl with | [_], _ => rfl))
    have d_l_called : K01.Def (PySem.Challenge.cw_allsorts_k11_models_told_holds.heap_39 w.params) mg "_law_called" K01.s__law_called ["m", "top"] := by
      refine' K01.mk_def KX G ?a ?l ?c ?k ?b
      (case a => k_is)
      (case l => k_is)
      (case c => k_is)
      (case k => k_is)
      (case b => first | exact (fun _ _ _ _ _ _ us hl => match us, hl with | [_, _], _ => rfl))
    have d_l_kind : K01.Def (PySem.Challenge.cw_allsorts_k11_models_told_holds.heap_39 w.params) mg "_law_kind" K01.s__law_kind ["k"] := by
      refine' K01.mk_def KX G ?a ?l ?c ?k ?b
      (case a => k_is)
      (case l => k_is)
      (case c => k_is)
      (case k => k_is)
      (case b => first | exact (fun _ _ _ _ _ _ us hl => match us, hl with | [_], _ => rfl))
    have d_l_mixed_up : K01.Def (PySem.Challenge.cw_allsorts_k11_models_told_holds.heap_39 w.params) mg "_law_mixed_up" K01.s__law_mixed_up ["m", "things"] := by
      refine' K01.mk_def KX G ?a ?l ?c ?k ?b
      (case a => k_is)
      (case l => k_is)
      (case c => k_is)
      (case k => k_is)
      (case b => first | exact (fun _ _ _ _ _ _ us hl => match us, hl with | [_, _], _ => rfl))
    have d_l_lowest : K01.Def (PySem.Challenge.cw_allsorts_k11_models_told_holds.heap_39 w.params) mg "_law_lowest" K01.s__law_lowest ["high", "low"] := by
      refine' K01.mk_def KX G ?a ?l ?c ?k ?b
      (case a => k_is)
      (case l => k_is)
      (case c => k_is)
      (case k => k_is)
      (case b => first | exact (fun _ _ _ _ _ _ us hl => match us, hl with | [_, _], _ => rfl))
    have d_l_below : K01.Def (PySem.Challenge.cw_allsorts_k11_models_told_holds.heap_39 w.params) mg "_law_below" K01.s__law_below ["p", "q"] := by
      refine' K01.mk_def KX G ?a ?l ?c ?k ?b
      (case a => k_is)
      (case l => k_is)
      (case c => k_is)
      (case k => k_is)
      (case b => first | exact (fun _ _ _ _ _ _ us hl => match us, hl with | [_, _], _ => rfl))
    have d_l_risen : K01.Def (PySem.Challenge.cw_allsorts_k11_models_told_holds.heap_39 w.params) mg "_law_risen" K01.s__law_risen ["some"] := by
      refine' K01.mk_def KX G ?a ?l ?c ?k ?b
      (case a => k_is)
      (case l => k_is)
      (case c => k_is)
      (case k => k_is)
      (case b => first | exact (fun _ _ _ _ _ _ us hl => match us, hl with | [_], _ => rfl))
    have d_l_worth : K01.Def (PySem.Challenge.cw_allsorts_k11_models_told_holds.heap_39 w.params) mg "_law_worth" K01.s__law_worth ["m", "kind", "deep"] := by
      refine' K01.mk_def KX G ?a ?l ?c ?k ?b
      (case a => k_is)
      (case l => k_is)
      (case c => k_is)
      (case k => k_is)
      (case b => first | exact (fun _ _ _ _ _ _ us hl => match us, hl with | [_, _, _], _ => rfl))
    have d_l_call_row : K01.Def (PySem.Challenge.cw_allsorts_k11_models_told_holds.heap_39 w.params) mg "_law_call_row" K01.s__law_call_row ["m", "w", "k"] := by
      refine' K01.mk_def KX G ?a ?l ?c ?k ?b
      (case a => k_is)
      (case l => k_is)
      (case c => k_is)
      (case k => k_is)
      (case b => first | exact (fun _ _ _ _ _ _ us hl => match us, hl with | [_, _, _], _ => rfl))
    have d_l_three : K01.Def (PySem.Challenge.cw_allsorts_k11_models_told_holds.heap_39 w.params) mg "_law_three" K01.s__law_three ["m", "w"] := by
      refine' K01.mk_def KX G ?a ?l ?c ?k ?b
      (case a => k_is)
      (case l => k_is)
      (case c => k_is)
      (case k => k_is)
      (case b => first | exact (fun _ _ _ _ _ _ us hl => match us, hl with | [_, _], _ => rfl))
    have d_l_handed : K01.Def (PySem.Challenge.cw_allsorts_k11_models_told_holds.heap_39 w.params) mg "_law_handed" K01.s__law_handed ["m", "some"] := by
      refine' K01.mk_def KX G ?a ?l ?c ?k ?b
      (case a => k_is)
      (case l => k_is)
      (case c => k_is)
      (case k => k_is)
      (case b => first | exact (fun _ _ _ _ _ _ us hl => match us, hl with | [_, _], _ => rfl))
    have d_l_right : K01.Def (PySem.Challenge.cw_allsorts_k11_models_told_holds.heap_39 w.params) mg "_law_right" K01.s__law_right ["m", "three"] := by
      refine' K01.mk_def KX G ?a ?l ?c ?k ?b
      (case a => k_is)
      (case l => k_is)
      (case c => k_is)
      (case k => k_is)
      (case b => first | exact (fun _ _ _ _ _ _ us hl => match us, hl with | [_, _], _ => rfl))
    have d_l_other_right : K01.Def (PySem.Challenge.cw_allsorts_k11_models_told_holds.heap_39 w.params) mg "_law_other_right" K01.s__law_other_right ["m", "w", "three"] := by
      refine' K01.mk_def KX G ?a ?l ?c ?k ?b
      (case a => k_is)
      (case l => k_is)
      (case c => k_is)
      (case k => k_is)
      (case b => first | exact (fun _ _ _ _ _ _ us hl => match us, hl with | [_, _, _], _ => rfl))
    have c_MOST_BITS : DL.CI mg "MOST_BITS" 15 := by
      refine' K01.mk_ci KX G ?a
      (case a => k_is)
    have c_TREE_DEEP : DL.CI mg "TREE_DEEP" 40 := by
      refine' K01.mk_ci KX G ?a
      (case a => k_is)
    have c_TREE_PARTS : DL.CI mg "TREE_PARTS" 600 := by
      refine' K01.mk_ci KX G ?a
      (case a => k_is)
    have c_MOST_LETTERS : DL.CI mg "MOST_LETTERS" 6 := by
      refine' K01.mk_ci KX G ?a
      (case a => k_is)
    have c_MOST_TERMS : DL.CI mg "MOST_TERMS" 3 := by
      refine' K01.mk_ci KX G ?a
      (case a => k_is)
    have bt : DL.Bt mg := by
      refine K01.mk_bt KX G fun x hx => ?_
      simp only [List.mem_cons, List.not_mem_nil, or_false] at hx
      rcases hx with rfl | rfl | rfl | rfl | rfl | rfl | rfl | rfl | rfl | rfl | rfl | rfl | rfl | rfl | rfl | rfl <;> first | k_is
    have so : DL.CT (PySem.Challenge.cw_allsorts_k11_models_told_holds.heap_39 w.params) mg "SORTS" (.tup (K01.sorts.map DL.Dat.str)) := by
      refine' K01.mk_ct KX G ?a ?b
      (case a => k_is)
      (case b => first | rfl | kernel_rfl)
    have gcd : mg "gcd" = some (.builtin "math.gcd") := by
      refine' PySem.W.mg_of KX G ?a
      (case a => k_is)
    have ve : mg "ValueError" = none := by
      refine' PySem.W.mg_none_of KX G ?a
      (case a => k_is)
    have lw : ∃ fd, L2.Fun (PySem.Challenge.cw_allsorts_k11_models_told_holds.heap_39 w.params) "law" "law" K01.s_law fa fd ∧ ∀ (s : Shared) (u : Value), BindsTo s fd ⟨[u], []⟩ [("script", u)] := by
      refine' K01.mk_law KX G hmg ?a ?l ?c ?k
      (case a => k_is)
      (case l => k_is)
      (case c => k_is)
      (case k => k_is)
    have er : ∃ C fI fdI, mg "BadValue" = some (.ref C) ∧ L2.OexC (PySem.Challenge.cw_allsorts_k11_models_told_holds.heap_39 w.params) C ∧ findIn (PySem.Challenge.cw_allsorts_k11_models_told_holds.heap_39 w.params) (.ref C) "__init__" = some (some (.ref fI)) ∧ typeIn (PySem.Challenge.cw_allsorts_k11_models_told_holds.heap_39 w.params) (.ref fI) = some (.type "function") ∧ L2.Fun (PySem.Challenge.cw_allsorts_k11_models_told_holds.heap_39 w.params) "__init__" "BadValue.__init__" K01.s_init fI fdI ∧ L2.Binds (PySem.Challenge.cw_allsorts_k11_models_told_holds.heap_39 w.params) fdI ["self", "what"] [] ∧ findIn (PySem.Challenge.cw_allsorts_k11_models_told_holds.heap_39 w.params) (.ref C) "what" = some none := by
      refine' ⟨_, _, _, PySem.W.mg_of KX G ?a, K01.mk_oex ?l ?r ?sa ?e ?t ?k, ?ini, ?ty, L2.fun_mk ?lI ?cI ?kI, (L2.fun_mk ?lI ?cI ?kI).binds (fun _ _ _ _ _ _ us hl => match us, hl with | [_, _], _ => rfl), ?noB⟩
      (case a => k_is)
      (case l => k_is)
      (case r => first | decide +kernel)
      (case sa => k_is)
      (case e => k_is)
      (case t => k_is)
      (case k => k_is)
      (case ini => k_is)
      (case ty => k_is)
      (case lI => k_is)
      (case cI => k_is)
      (case kI => k_is)
      (case noB => first | k_is | rfl | kernel_rfl)
    have mo : ∃ C f fd v a b, K01.ModelK (PySem.Challenge.cw_allsorts_k11_models_told_holds.heap_39 w.params) mg C f fd v a b := by
      refine' K01.mk_model KX G ?a ?mk ?ini ?fn ?kp ?l ?c ?k ?lT ?oT ?d1 ?d2 ?t0 ?t1 ?t2
      (case a => first | k_is | rfl | kernel_rfl)
      (case mk => first | k_is | rfl | kernel_rfl)
      (case ini => first | k_is | rfl | kernel_rfl)
      (case fn => first | k_is | rfl | kernel_rfl)
      (case kp => first | k_is | rfl | kernel_rfl)
      (case l => first | k_is | rfl | kernel_rfl)
      (case c => first | k_is | rfl | kernel_rfl)
      (case k => first | k_is | rfl | kernel_rfl)
      (case lT => first | k_is | rfl | kernel_rfl)
      (case oT => first | k_is | rfl | kernel_rfl)
      (case d1 => first | k_is | rfl | kernel_rfl)
      (case d2 => first | k_is | rfl | kernel_rfl)
      (case t0 => first | rfl | kernel_rfl | k_is)
      (case t1 => first | rfl | kernel_rfl | k_is)
      (case t2 => first | rfl | kernel_rfl | k_is)
    have mm : ∃ C, mg "Model" = some (.ref C) ∧ DL.CmpC (PySem.Challenge.cw_allsorts_k11_models_told_holds.heap_39 w.params) C ∧ L2.NoAttr (PySem.Challenge.cw_allsorts_k11_models_told_holds.heap_39 w.params) C "_names" ∧ L2.NoAttr (PySem.Challenge.cw_allsorts_k11_models_told_holds.heap_39 w.params) C "_calls" ∧ L2.NoAttr (PySem.Challenge.cw_allsorts_k11_models_told_holds.heap_39 w.params) C "_props" ∧ K01.DefM (PySem.Challenge.cw_allsorts_k11_models_told_holds.heap_39 w.params) C "names" "Model.names" K01.s_Model_names ["self"] ∧ K01.DefM (PySem.Challenge.cw_allsorts_k11_models_told_holds.heap_39 w.params) C "calls" "Model.calls" K01.s_Model_calls ["self"] ∧ K01.DefM (PySem.Challenge.cw_allsorts_k11_models_told_holds.heap_39 w.params) C "props" "Model.props" K01.s_Model_props ["self"] ∧ K01.DefS (PySem.Challenge.cw_allsorts_k11_models_told_holds.heap_39 w.params) C "__eq__" "Model.__eq__" K01.s_Model___eq__ ["self", "other"] ∧ K01.DefS (PySem.Challenge.cw_allsorts_k11_models_told_holds.heap_39 w.params) C "__len__" "Model.__len__" K01.s_Model___len__ ["self"] ∧ K01.DefS (PySem.Challenge.cw_allsorts_k11_models_told_holds.heap_39 w.params) C "__repr__" "Model.__repr__" K01.s_Model___repr__ ["self"] := by
      refine' ⟨_, PySem.W.mg_of KX G ?a, ⟨⟨?pg, ?hd, ?po, ?sa⟩, ?ca, ?cn, ?ct, ?cm, ?nf, ?ki, ?kc, ?ne⟩, ?n1, ?n2, ?n3, K01.mk_defM ?m0 ?f0 ?l0 ?c0 ?k0 (fun _ _ _ _ _ _ us hl => match us, hl with | [_], _ => rfl), K01.mk_defM ?m1 ?f1 ?l1 ?c1 ?k1 (fun _ _ _ _ _ _ us hl => match us, hl with | [_], _ => rfl), K01.mk_defM ?m2 ?f2 ?l2 ?c2 ?k2 (fun _ _ _ _ _ _ us hl => match us, hl with | [_], _ => rfl), K01.mk_defS ?m3 ?f3 ?l3 ?c3 ?k3 (fun _ _ _ _ _ _ us hl => match us, hl with | [_, _], _ => rfl), K01.mk_defS ?m4 ?f4 ?l4 ?c4 ?k4 (fun _ _ _ _ _ _ us hl => match us, hl with | [_], _ => rfl), K01.mk_defS ?m5 ?f5 ?l5 ?c5 ?k5 (fun _ _ _ _ _ _ us hl => match us, hl with | [_], _ => rfl)⟩
      (case a => first | k_is | rfl | kernel_rfl | decide +kernel)
      (case pg => first | k_is | rfl | kernel_rfl | decide +kernel)
      (case hd => first | k_is | rfl | kernel_rfl | decide +kernel)
      (case po => first | k_is | rfl | kernel_rfl | decide +kernel)
      (case sa => first | k_is | rfl | kernel_rfl | decide +kernel)
      (case ca => first | k_is | rfl | kernel_rfl | decide +kernel)
      (case cn => first | k_is | rfl | kernel_rfl | decide +kernel)
      (case ct => first | k_is | rfl | kernel_rfl | decide +kernel)
      (case cm => first | k_is | rfl | kernel_rfl | decide +kernel)
      (case nf => first | k_is | rfl | kernel_rfl | decide +kernel)
      (case ki => first | k_is | rfl | kernel_rfl | decide +kernel)
      (case kc => first | k_is | rfl | kernel_rfl | decide +kernel)
      (case ne => first | k_is | rfl | kernel_rfl | decide +kernel)
      (case n1 => first | k_is | rfl | kernel_rfl | decide +kernel)
      (case n2 => first | k_is | rfl | kernel_rfl | decide +kernel)
      (case n3 => first | k_is | rfl | kernel_rfl | decide +kernel)
      (case m0 => first | k_is | rfl | kernel_rfl)
      (case f0 => first | k_is | rfl | kernel_rfl)
      (case l0 => first | k_is | rfl | kernel_rfl)
      (case c0 => first | k_is | rfl | kernel_rfl)
      (case k0 => first | k_is | rfl | kernel_rfl)
      (case m1 => first | k_is | rfl | kernel_rfl)
      (case f1 => first | k_is | rfl | kernel_rfl)
      (case l1 => first | k_is | rfl | kernel_rfl)
      (case c1 => first | k_is | rfl | kernel_rfl)
      (case k1 => first | k_is | rfl | kernel_rfl)
      (case m2 => first | k_is | rfl | kernel_rfl)
      (case f2 => first | k_is | rfl | kernel_rfl)
      (case l2 => first | k_is | rfl | kernel_rfl)
      (case c2 => first | k_is | rfl | kernel_rfl)
      (case k2 => first | k_is | rfl | kernel_rfl)
      (case m3 => first | k_is | rfl | kernel_rfl)
      (case f3 => first | k_is | rfl | kernel_rfl)
      (case l3 => first | k_is | rfl | kernel_rfl)
      (case c3 => first | k_is | rfl | kernel_rfl)
      (case k3 => first | k_is | rfl | kernel_rfl)
      (case m4 => first | k_is | rfl | kernel_rfl)
      (case f4 => first | k_is | rfl | kernel_rfl)
      (case l4 => first | k_is | rfl | kernel_rfl)
      (case c4 => first | k_is | rfl | kernel_rfl)
      (case k4 => first | k_is | rfl | kernel_rfl)
      (case m5 => first | k_is | rfl | kernel_rfl)
      (case f5 => first | k_is | rfl | kernel_rfl)
      (case l5 => first | k_is | rfl | kernel_rfl)
      (case c5 => first | k_is | rfl | kernel_rfl)
      (case k5 => first | k_is | rfl | kernel_rfl)
    have vV : findCls (PySem.Challenge.cw_allsorts_k11_models_told_holds.heap_39 w.params) (.type "ValueError") (.type "type") "__init__" = some (.val (.builtin "ValueError.__init__")) := by first | k_is | rfl | kernel_rfl
    obtain ⟨fdL, FL, bL⟩ := lw
    obtain ⟨C, fI, fdI, m1, oex, ini, ty, FI, bI, noB⟩ := er
    obtain ⟨CM, fM, fdM, v, a, b, mo⟩ := mo
    obtain ⟨CM', m2, hc, na1, na2, na3, e0, e1, e2, e3, e4, e5⟩ := mm
    cases Value.ref.inj (Option.some.inj (m2.symm.trans mo.mgC))
    exact K01.law_at (CB := C) (CM := CM) (fI := fI) (fdI := fdI) { B := bt, gcd := gcd, SORTS := so, MOST_BITS := c_MOST_BITS, TREE_DEEP := c_TREE_DEEP, TREE_PARTS := c_TREE_PARTS, MOST_LETTERS := c_MOST_LETTERS, MOST_TERMS := c_MOST_TERMS, vV := vV, ve := ve, mB := m1, noB := noB, oex := oex, iniB := ini, tyB := ty, FB := FI, bB := bI, MK := mo, HC := hc, NA_names := na1, NA_calls := na2, NA_props := na3, m_names := e0, m_calls := e1, m_props := e2, s_eq := e3, s_len := e4, s_repr := e5, has_word := d_has_word, is_sort := d_is_sort, is_name := d_is_name, is_below := d_is_below, is_fraction := d_is_fraction, tree_size := d_tree_size, is_rising := d_is_rising, is_value := d_is_value, is_row_of_names := d_is_row_of_names, is_pair_of_call := d_is_pair_of_call, is_row_of_calls := d_is_row_of_calls, are_rows := d_are_rows, has_twice := d_has_twice, names_of_model := d_names_of_model, calls_of_model := d_calls_of_model, props_of_model := d_props_of_model, l_mixed := d_l_mixed, l_folded := d_l_folded, l_draw := d_l_draw, l_begun := d_l_begun, l_called := d_l_called, l_kind := d_l_kind, l_mixed_up := d_l_mixed_up, l_lowest := d_l_lowest, l_below := d_l_below, l_risen := d_l_risen, l_worth := d_l_worth, l_call_row := d_l_call_row, l_three := d_l_three, l_handed := d_l_handed, l_right := d_l_right, l_other_right := d_l_other_right } FL bL
