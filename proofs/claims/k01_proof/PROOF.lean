import PyProof.Rows.All
import Wide.All
import OpenK.AllK
import Wide.FinOn
import HandS.ForMost
import HandS.Evl
import HandS.Exc
import HandS.More
import HandS.TupAny
import HandS.TupMul
import HandS.Zip
import HandS.FStr
import PyProof.TypeEq
import KE.KDictZip
import PyProof.FactsAll.object_2
import HandS.ExcInit
import HandS.WordsExc
import HandS.IsInst
import HandS.Text
import PyProof.StrOps2
import PyProof.ReprRoads
import KE.KRevSl
import HandS.WordsDict
import HandS.TryMany
import HandS.ExcIs
import HandS.ExcField
import HandS.Lambda
import KE.KExcIs
import HandS.EndTab
import PyProof.P3Eq
import PyProof.Rows.SortStr
import KE.KNestM
import PySem.Challenge.RW_allsorts_k01_what_is_a_term
set_option Elab.async false
set_option linter.all false
set_option maxRecDepth 100000
set_option maxHeartbeats 4000000
namespace DL
open PySem PySem.Spec PyProof.Rows L2

inductive Dat where
  | non | bl (b : Bool) | int (i : Int) | str (x : Str) | tup (xs : List Dat) | lst (xs : List Dat) | dic (ks : List Key) (vs : List Dat)

/-! ### what a value stands for -/
def WrT (K : PySem.W.Frag) (a : Addr) (xs : List V) : Prop := ∃ (o : Obj) (its : Array Value) (n : Nat), K.lookup a = some o ∧ o.cls = .type "tuple" ∧ o.data = .seq its n ∧ its.size ≤ sizeLine ∧ Vals xs its.toList
def WrL (K : PySem.W.Frag) (a : Addr) (xs : List V) : Prop := ∃ (o : Obj) (its : Array Value) (n : Nat), K.lookup a = some o ∧ o.cls = .type "list" ∧ o.dict = none ∧ o.data = .seq its n ∧ its.size ≤ sizeLine ∧ Vals xs its.toList
mutual
def Dv (K : PySem.W.Frag) (S : Addr → Prop) (H : Hp) : Dat → V → Prop
  | .non, v => v = .non
  | .bl b, v => v = .bl b
  | .int i, v => v = .int i
  | .str x, v => v = .str x
  | .tup ds, v => ∃ a xs, v = .ref a ∧ ((¬ S a ∧ H a = some (.tup xs)) ∨ WrT K a xs) ∧ DvL K S H ds xs
  | .lst ds, v => ∃ a xs, v = .ref a ∧ ¬ S a ∧ H a = some (.lst xs) ∧ DvL K S H ds xs
  | .dic ks ds, v => ∃ a kvs, v = .ref a ∧ ¬ S a ∧ H a = some (.dK kvs) ∧ kvs.map (·.1) = ks ∧ DvL K S H ds (kvs.map (·.2))
def DvL (K : PySem.W.Frag) (S : Addr → Prop) (H : Hp) : List Dat → List V → Prop
  | [], vs => vs = []
  | d :: ds, vs => ∃ v r, vs = v :: r ∧ Dv K S H d v ∧ DvL K S H ds r
end
section
variable {K : PySem.W.Frag} {S S' : Addr → Prop} {H H' : Hp}
theorem sqT_of {a : Addr} {xs : List V} (h : (¬ S a ∧ H a = some (.tup xs)) ∨ WrT K a xs) : SqT K H a xs := by
  rcases h with ⟨_, h⟩ | h
  · exact .inl (.inl h)
  · exact .inr h
mutual
theorem Dv.move (h : ∀ a o, ¬ S a → H a = some o → ¬ S' a ∧ H' a = some o) : ∀ (d : Dat) (v : V), Dv K S H d v → Dv K S' H' d v
  | .non, _, e => e
  | .bl _, _, e => e
  | .int _, _, e => e
  | .str _, _, e => e
  | .tup ds, v, e => by
    obtain ⟨a, xs, rfl, h1, h2⟩ := (e : ∃ a xs, v = .ref a ∧ ((¬ S a ∧ H a = some (.tup xs)) ∨ WrT K a xs) ∧ DvL K S H ds xs)
    refine ⟨a, xs, rfl, ?_, DvL.move h ds xs h2⟩
    rcases h1 with ⟨n, e⟩ | e
    · exact .inl (h a _ n e)
    · exact .inr e
  | .lst ds, v, e => by
    obtain ⟨a, xs, rfl, n, h1, h2⟩ := (e : ∃ a xs, v = .ref a ∧ ¬ S a ∧ H a = some (.lst xs) ∧ DvL K S H ds xs)
    exact ⟨a, xs, rfl, (h a _ n h1).1, (h a _ n h1).2, DvL.move h ds xs h2⟩
  | .dic ks ds, v, e => by
    obtain ⟨a, kvs, rfl, n, h1, hk, h2⟩ := (e : ∃ a kvs, v = .ref a ∧ ¬ S a ∧ H a = some (.dK kvs) ∧ kvs.map (·.1) = ks ∧ DvL K S H ds (kvs.map (·.2)))
    exact ⟨a, kvs, rfl, (h a _ n h1).1, (h a _ n h1).2, hk, DvL.move h ds _ h2⟩
theorem DvL.move (h : ∀ a o, ¬ S a → H a = some o → ¬ S' a ∧ H' a = some o) : ∀ (ds : List Dat) (vs : List V), DvL K S H ds vs → DvL K S' H' ds vs
  | [], _, e => e
  | d :: ds, vs, e => by
    obtain ⟨v, r, rfl, h1, h2⟩ := (e : ∃ v r, vs = v :: r ∧ Dv K S H d v ∧ DvL K S H ds r)
    exact ⟨v, r, rfl, Dv.move h d v h1, DvL.move h ds r h2⟩
end
theorem DvL.len : ∀ {ds : List Dat} {vs : List V}, DvL K S H ds vs → vs.length = ds.length
  | [], _, e => by cases (e : _ = []); rfl
  | d :: ds, vs, e => by
    obtain ⟨v, r, rfl, _, h2⟩ := (e : ∃ v r, vs = v :: r ∧ Dv K S H d v ∧ DvL K S H ds r)
    simp [h2.len]
theorem DvL.get : ∀ {ds : List Dat} {vs : List V} {i : Nat} {d : Dat}, DvL K S H ds vs → ds[i]? = some d → ∃ v, vs[i]? = some v ∧ Dv K S H d v
  | [], _, _, _, _, h => by simp at h
  | d :: ds, vs, 0, d', e, h => by
    obtain ⟨v, r, rfl, h1, _⟩ := (e : ∃ v r, vs = v :: r ∧ Dv K S H d v ∧ DvL K S H ds r)
    simp at h; subst h
    exact ⟨v, rfl, h1⟩
  | d :: ds, vs, i + 1, d', e, h => by
    obtain ⟨v, r, rfl, _, h2⟩ := (e : ∃ v r, vs = v :: r ∧ Dv K S H d v ∧ DvL K S H ds r)
    simpa using DvL.get h2 (by simpa using h)
theorem DvL.getV : ∀ {ds : List Dat} {vs : List V} {i : Nat} {v : V}, DvL K S H ds vs → vs[i]? = some v → ∃ d, ds[i]? = some d ∧ Dv K S H d v
  | [], _, _, _, e, h => by cases (e : _ = []); simp at h
  | d :: ds, vs, 0, v', e, h => by
    obtain ⟨v, r, rfl, h1, _⟩ := (e : ∃ v r, vs = v :: r ∧ Dv K S H d v ∧ DvL K S H ds r)
    simp at h; subst h
    exact ⟨d, rfl, h1⟩
  | d :: ds, vs, i + 1, v', e, h => by
    obtain ⟨v, r, rfl, _, h2⟩ := (e : ∃ v r, vs = v :: r ∧ Dv K S H d v ∧ DvL K S H ds r)
    simpa using DvL.getV h2 (by simpa using h)
theorem DvL.append : ∀ {ds es : List Dat} {vs us : List V}, DvL K S H ds vs → DvL K S H es us → DvL K S H (ds ++ es) (vs ++ us)
  | [], _, _, _, e, h => by cases (e : _ = []); exact h
  | d :: ds, es, vs, us, e, h => by
    obtain ⟨v, r, rfl, h1, h2⟩ := (e : ∃ v r, vs = v :: r ∧ Dv K S H d v ∧ DvL K S H ds r)
    exact ⟨v, r ++ us, rfl, h1, h2.append h⟩
theorem DvL.take : ∀ {ds : List Dat} {vs : List V} (n : Nat), DvL K S H ds vs → DvL K S H (ds.take n) (vs.take n)
  | _, _, 0, _ => rfl
  | [], _, _ + 1, e => by cases (e : _ = []); rfl
  | d :: ds, vs, n + 1, e => by
    obtain ⟨v, r, rfl, h1, h2⟩ := (e : ∃ v r, vs = v :: r ∧ Dv K S H d v ∧ DvL K S H ds r)
    exact ⟨v, r.take n, rfl, h1, h2.take n⟩
theorem DvL.drop : ∀ {ds : List Dat} {vs : List V} (n : Nat), DvL K S H ds vs → DvL K S H (ds.drop n) (vs.drop n)
  | _, _, 0, h => h
  | [], _, _ + 1, e => by cases (e : _ = []); rfl
  | d :: ds, vs, n + 1, e => by
    obtain ⟨v, r, rfl, h1, h2⟩ := (e : ∃ v r, vs = v :: r ∧ Dv K S H d v ∧ DvL K S H ds r)
    exact h2.drop n
theorem DvL.strs : ∀ {zs : List Str} {vs : List V}, DvL K S H (zs.map Dat.str) vs → vs = zs.map V.str
  | [], _, e => e
  | z :: zs, vs, e => by
    obtain ⟨v, r, rfl, h1, h2⟩ := (e : ∃ v r, vs = v :: r ∧ Dv K S H (.str z) v ∧ DvL K S H (zs.map Dat.str) r)
    rw [h2.strs, (h1 : v = .str z)]; rfl
theorem DvL.of_strs : ∀ (zs : List Str), DvL K S H (zs.map Dat.str) (zs.map V.str)
  | [] => rfl
  | z :: zs => ⟨_, _, rfl, rfl, DvL.of_strs zs⟩
end

/-! ### what a slot stands for; where one stands -/
inductive Slot where
  | un | d (x : Dat) | raw (v : V) | own (xs : List Dat) | ownd (ks : List Key) (xs : List Dat) | scr (ns : List Int)
def Slot.isOwn : Slot → Bool
  | .own _ => true
  | .ownd _ _ => true
  | _ => false
/-- a list of ints that is read alone: tracked or locked, or the module's -/
def ScrOk (K : PySem.W.Frag) (S : Addr → Prop) (H : Hp) (ns : List Int) (v : V) : Prop := ∃ a, v = .ref a ∧ ((¬ S a ∧ Rd H a (.lst (ns.map V.int))) ∨ WrL K a (ns.map V.int))
theorem ScrOk.move {K : PySem.W.Frag} {S S' : Addr → Prop} {H H' : Hp} {ns : List Int} {v : V} (q : ScrOk K S H ns v) (h : ∀ a o, ¬ S a → H a = some o → ¬ S' a ∧ H' a = some o) : ScrOk K S' H' ns v := by
  obtain ⟨a, rfl, ⟨n, e⟩ | e⟩ := q
  · refine ⟨a, rfl, .inl ?_⟩
    rcases e with e | ⟨o, e⟩
    · exact ⟨(h a _ n e).1, .inl (h a _ n e).2⟩
    · exact ⟨(h a _ n e).1, .inr ⟨o, (h a _ n e).2⟩⟩
  · exact ⟨a, rfl, .inr e⟩
theorem ScrOk.sq {K : PySem.W.Frag} {S : Addr → Prop} {H : Hp} {ns : List Int} {a : Addr} (q : ScrOk K S H ns (.ref a)) : SqL K H a (ns.map V.int) := by
  obtain ⟨b, e, ⟨n, h⟩ | h⟩ := q
  · cases e; exact .inl h
  · cases e; exact .inr h
def SlotOk (K : PySem.W.Frag) (S : Addr → Prop) (H0 H : Hp) : Option V → Slot → Prop
  | _, .un => True
  | some v, .d x => Dv K S H x v
  | some v, .raw w => v = w
  | some v, .scr ns => ScrOk K S H ns v
  | some v, .own ds => ∃ a xs, v = .ref a ∧ S a ∧ H0 a = none ∧ H a = some (.lst xs) ∧ DvL K S H ds xs
  | some v, .ownd ks ds => ∃ a kvs, v = .ref a ∧ S a ∧ H0 a = none ∧ H a = some (.dK kvs) ∧ kvs.map (·.1) = ks ∧ DvL K S H ds (kvs.map (·.2))
  | none, _ => False
abbrev Exc := Addr × List (Str × Dat)
/-- what is known by its own words stays -/
abbrev KeepX (H H' : Hp) : Prop := ∀ (a : Addr) (φ : Heap → Prop), H a = some (.ext φ) → H' a = some (.ext φ)
theorem keepX_upd {H : Hp} {p : Addr} {o : HO} (h : ∀ φ, H p ≠ some (.ext φ)) : KeepX H (upd H p o) := fun a φ e => by rw [upd_ne (fun z => h φ (by rw [← z]; exact e))]; exact e
structure Ctx where
  X : Cx
  H0 : Hp
  S0 : Addr → Prop
  W : Hp → Prop
  clo : ∀ H H', W H → (∀ a o o0, H0 a = some o0 → H a = some o → H' a = some o) → KeepX H H' → W H'
  top : ∀ H, W H → ∀ a o, H0 a = some o → ∃ o', H a = some o'
  s0 : ∀ a, S0 a → ∃ o, H0 a = some o
  E : XK
  EX : Exc → Prop
  elink : ∀ (C d : Addr) (fs : List (Str × V)) (ds : List (Str × Dat)) (H : Hp), EX (C, ds) → W H → H d = some (.xd fs) → fs.map (·.1) = ds.map (·.1) → DvL X.K S0 H (ds.map (·.2)) (fs.map (·.2)) → H0 d = none → E (.ref C) (some d) H
structure Gd (G : Ctx) (S : Addr → Prop) (σ : L2.St) (H : Hp) (ρ : List Slot) : Prop where
  wld : G.W H
  all : ∀ a, S a → ∃ o, H a = some o
  sub : ∀ a, G.S0 a → S a
  len : σ.length = ρ.length
  slots : ∀ (i : Nat) (s : Slot), ρ[i]? = some s → SlotOk G.X.K S G.H0 H (σ[i]?.join) s
  apart : ∀ (i j : Nat) (si sj : Slot) (v : V), ρ[i]? = some si → ρ[j]? = some sj → si.isOwn = true → sj.isOwn = true → σ[i]? = some (some v) → σ[j]? = some (some v) → i = j
structure Stp (G : Ctx) (H H' : Hp) : Prop where
  wld : G.W H'
  keep : ∀ a o, ¬ G.S0 a → H a = some o → H' a = some o
  has : ∀ a o, H a = some o → ∃ o', H' a = some o'
section
variable {G : Ctx} {S : Addr → Prop} {σ : L2.St} {H H' H2 : Hp} {ρ : List Slot}
theorem Stp.fr (st : Stp G H H') (g : Gd G S σ H ρ) : ∀ a o, ¬ S a → H a = some o → ¬ S a ∧ H' a = some o := fun a o n e => ⟨n, st.keep a o (fun z => n (g.sub a z)) e⟩
theorem Stp.refl (h : G.W H) : Stp G H H := ⟨h, fun _ _ _ e => e, fun _ o e => ⟨o, e⟩⟩
theorem Stp.trans (a : Stp G H H') (b : Stp G H' H2) : Stp G H H2 := ⟨b.wld, fun c o n e => b.keep c o n (a.keep c o n e), fun c o e => by
  obtain ⟨o', e'⟩ := a.has c o e
  exact b.has c o' e'⟩
theorem Stp.ex (h : G.W H) (e : Evl.Ex H H') : Stp G H H' := ⟨G.clo H H' h (fun a o _ _ q => e a o q) (fun a _ q => e a _ q), fun a o _ q => e a o q, fun a o q => ⟨o, e a o q⟩⟩
theorem Stp.new (h : G.W H) {p : Addr} {o : HO} (n : H p = none) : Stp G H (upd H p o) := Stp.ex h (Evl.Ex.new n)
theorem Gd.fresh0 (g : Gd G S σ H ρ) {p : Addr} (n : H p = none) : G.H0 p = none := by
  cases q : G.H0 p with
  | none => rfl
  | some o =>
    obtain ⟨o', e⟩ := G.top H g.wld p o q
    rw [n] at e; cases e
theorem Gd.fresh (g : Gd G S σ H ρ) {p : Addr} (n : H p = none) : ¬ S p := fun h => by
  obtain ⟨o, e⟩ := g.all p h
  rw [n] at e; cases e
theorem Stp.dv (st : Stp G H H') (g : Gd G S σ H ρ) {d : Dat} {v : V} (h : Dv G.X.K S H d v) : Dv G.X.K S H' d v := h.move fun a o n e => ⟨n, st.keep a o (fun z => n (g.sub a z)) e⟩
theorem Stp.dvl (st : Stp G H H') (g : Gd G S σ H ρ) {d : List Dat} {v : List V} (h : DvL G.X.K S H d v) : DvL G.X.K S H' d v := h.move fun a o n e => ⟨n, st.keep a o (fun z => n (g.sub a z)) e⟩
theorem Gd.step (g : Gd G S σ H ρ) (st : Stp G H H') : Gd G S σ H' ρ := by
  refine ⟨st.wld, fun a h => ?_, g.sub, g.len, fun i s hs => ?_, g.apart⟩
  · obtain ⟨o, e⟩ := g.all a h
    exact st.has a o e
  · have q := g.slots i s hs
    have ns : ∀ a, G.H0 a = none → ¬ G.S0 a := fun a n z => by
      obtain ⟨o, e⟩ := G.s0 a z
      rw [n] at e; cases e
    cases s with
    | un => exact trivial
    | d x =>
      cases e : σ[i]?.join with
      | none => rw [e] at q; exact q.elim
      | some v => rw [e] at q; exact st.dv g (show Dv G.X.K S H x v from q)
    | raw w =>
      cases e : σ[i]?.join with
      | none => rw [e] at q; exact q.elim
      | some v => rw [e] at q; exact q
    | scr ns =>
      cases e : σ[i]?.join with
      | none => rw [e] at q; exact q.elim
      | some v => rw [e] at q; exact ScrOk.move q fun a o n e => ⟨n, st.keep a o (fun z => n (g.sub a z)) e⟩
    | own ds =>
      cases e : σ[i]?.join with
      | none => rw [e] at q; exact q.elim
      | some v =>
        rw [e] at q
        obtain ⟨a, xs, e1, e2, e3, e4, e5⟩ := (q : ∃ a xs, v = .ref a ∧ S a ∧ G.H0 a = none ∧ H a = some (.lst xs) ∧ DvL G.X.K S H ds xs)
        exact ⟨a, xs, e1, e2, e3, st.keep a _ (ns a e3) e4, st.dvl g e5⟩
    | ownd ks ds =>
      cases e : σ[i]?.join with
      | none => rw [e] at q; exact q.elim
      | some v =>
        rw [e] at q
        obtain ⟨a, xs, e1, e2, e3, e4, e6, e5⟩ := (q : ∃ a kvs, v = .ref a ∧ S a ∧ G.H0 a = none ∧ H a = some (.dK kvs) ∧ kvs.map (·.1) = ks ∧ DvL G.X.K S H ds (kvs.map (·.2)))
        exact ⟨a, xs, e1, e2, e3, st.keep a _ (ns a e3) e4, e6, st.dvl g e5⟩
end

/-! ### the judgements -/
abbrev FE := List Slot → (Dat → Prop) → Prop
abbrev FT := List Slot → (Bool → Prop) → Prop
abbrev FA := List Slot → (List Dat → Prop) → Prop
structure DEnds where
  nx : List Slot → Prop
  rt : Dat → Prop
  bk : List Slot → Prop := fun _ => False
  ct : List Slot → Prop := fun _ => False
abbrev FS := DEnds → List Slot → Prop
def LiftE (G : Ctx) (t : TE) (F : FE) : Prop := ∀ S σ H ρ P (Q : VK), Gd G S σ H ρ → F ρ P → (∀ v d H', Stp G H H' → Dv G.X.K S H' d v → P d → Q v H') → t σ H Q
def LiftT (G : Ctx) (t : TT) (F : FT) : Prop := ∀ S σ H ρ P (Q : Bool → Hp → Prop), Gd G S σ H ρ → F ρ P → (∀ b H', Stp G H H' → P b → Q b H') → t σ H Q
def LiftA (G : Ctx) (t : TA) (F : FA) : Prop := ∀ S σ H ρ P (Q : List V → Hp → Prop), Gd G S σ H ρ → F ρ P → (∀ vs ds H', Stp G H H' → DvL G.X.K S H' ds vs → P ds → Q vs H') → t σ H Q
/-- what stood outside the scratch stands there still -/
def Fr (S : Addr → Prop) (H : Hp) (S' : Addr → Prop) (H' : Hp) : Prop := ∀ a o, ¬ S a → H a = some o → ¬ S' a ∧ H' a = some o
theorem Fr.refl (S : Addr → Prop) (H : Hp) : Fr S H S H := fun _ _ n e => ⟨n, e⟩
theorem Fr.trans {S S' S2 : Addr → Prop} {H H' H2 : Hp} (a : Fr S H S' H') (b : Fr S' H' S2 H2) : Fr S H S2 H2 := fun c o n e => b c o (a c o n e).1 (a c o n e).2
structure EndsOk (G : Ctx) (S : Addr → Prop) (H : Hp) (D : DEnds) (Dh : Ends) : Prop where
  nx : ∀ S' σ' H' ρ', Gd G S' σ' H' ρ' → Fr S H S' H' → D.nx ρ' → Dh.nx σ' H'
  rt : ∀ v d H', G.W H' → Dv G.X.K G.S0 H' d v → D.rt d → Dh.rt v H'
  bk : ∀ S' σ' H' ρ', Gd G S' σ' H' ρ' → Fr S H S' H' → D.bk ρ' → Dh.bk σ' H'
  ct : ∀ S' σ' H' ρ', Gd G S' σ' H' ρ' → Fr S H S' H' → D.ct ρ' → Dh.ct σ' H'
def LiftS (G : Ctx) (t : TS) (F : FS) : Prop := ∀ S σ H ρ D Dh, Gd G S σ H ρ → F D ρ → EndsOk G S H D Dh → t Dh σ H
structure DE (G : Ctx) (e : Expr) (F : FE) : Prop where
  ex : ∃ t, PE G.X e t ∧ LiftE G t F
structure DT (G : Ctx) (e : Expr) (F : FT) : Prop where
  ex : ∃ t, PT G.X e t ∧ LiftT G t F
structure DW (G : Ctx) (e : Expr) (F : FT) : Prop where
  ex : ∃ t, PW G.X e t ∧ LiftT G t F
structure DA (G : Ctx) (es : List Expr) (F : FA) : Prop where
  ex : ∃ t, PA G.X es t ∧ LiftA G t F
structure DS (G : Ctx) (st : Stmt) (F : FS) : Prop where
  ex : ∃ t, PS G.X st t ∧ LiftS G t F
structure DB (G : Ctx) (st : List Stmt) (F : FS) : Prop where
  ex : ∃ t, PSs G.X st t ∧ LiftS G t F
/-- reading a slot -/
def rd (ρ : List Slot) (i : Nat) (P : Dat → Prop) : Prop := match ρ[i]? with
  | some (.d x) => P x
  | _ => False
theorem rd_inv {ρ : List Slot} {i : Nat} {P : Dat → Prop} (h : rd ρ i P) : ∃ x, ρ[i]? = some (.d x) ∧ P x := by
  unfold rd at h
  split at h
  · rename_i x e; exact ⟨x, e, h⟩
  · exact h.elim
theorem Gd.slot_d {G : Ctx} {S : Addr → Prop} {σ : L2.St} {H : Hp} {ρ : List Slot} (g : Gd G S σ H ρ) {i : Nat} {x : Dat} (h : ρ[i]? = some (.d x)) : ∃ v, σ[i]? = some (some v) ∧ Dv G.X.K S H x v := by
  have q := g.slots i _ h
  cases e : σ[i]? with
  | none => rw [e] at q; exact q.elim
  | some o =>
    cases o with
    | none => rw [e] at q; exact q.elim
    | some v => rw [e] at q; exact ⟨v, rfl, q⟩
theorem Gd.slot_own {G : Ctx} {S : Addr → Prop} {σ : L2.St} {H : Hp} {ρ : List Slot} (g : Gd G S σ H ρ) {i : Nat} {ds : List Dat} (h : ρ[i]? = some (.own ds)) :
    ∃ a xs, σ[i]? = some (some (.ref a)) ∧ S a ∧ G.H0 a = none ∧ H a = some (.lst xs) ∧ DvL G.X.K S H ds xs := by
  have q := g.slots i _ h
  cases e : σ[i]? with
  | none => rw [e] at q; exact q.elim
  | some o =>
    cases o with
    | none => rw [e] at q; exact q.elim
    | some v =>
      rw [e] at q
      obtain ⟨a, xs, rfl, r⟩ := (q : ∃ a xs, v = .ref a ∧ S a ∧ G.H0 a = none ∧ H a = some (.lst xs) ∧ DvL G.X.K S H ds xs)
      exact ⟨a, xs, rfl, r⟩
section
variable {G : Ctx} {pos : Pos}
theorem de_var {x : Str} (i : Nat) (hN : G.X.N[i]? = some x := by rfl) (hv : Vis G.X.env.scope x := by first | exact Or.inl rfl | exact Or.inr (Or.inl rfl) | exact Or.inr (Or.inr rfl)) (hd : (x == ("__debug__" : Str)) = false := by decide)
    (hcd : (x == ("__classdict__" : Str)) = false := by decide) : DE G (.Name x pos) (fun ρ P => rd ρ i P) :=
  ⟨⟨_, pe_var hN hv hd hcd, fun S σ H ρ P Q g h q => by
    obtain ⟨x, e, hp⟩ := rd_inv h
    obtain ⟨v, e1, e2⟩ := g.slot_d e
    exact ⟨v, e1, q v x H (Stp.refl g.wld) e2 hp⟩⟩⟩
theorem de_int {i j} : DE G (.Constant (.int i) j pos) (fun _ P => P (.int i)) := ⟨⟨_, pe_int, fun _ _ H _ _ _ g h q => q _ (.int i) H (Stp.refl g.wld) rfl h⟩⟩
theorem de_str {i j} : DE G (.Constant (.str i) j pos) (fun _ P => P (.str i)) := ⟨⟨_, pe_str, fun _ _ H _ _ _ g h q => q _ (.str i) H (Stp.refl g.wld) rfl h⟩⟩
theorem de_bl {i j} : DE G (.Constant (.bool i) j pos) (fun _ P => P (.bl i)) := ⟨⟨_, pe_bl, fun _ _ H _ _ _ g h q => q _ (.bl i) H (Stp.refl g.wld) rfl h⟩⟩
theorem de_non {j} : DE G (.Constant .none j pos) (fun _ P => P .non) := ⟨⟨_, pe_non, fun _ _ H _ _ _ g h q => q _ .non H (Stp.refl g.wld) rfl h⟩⟩
/-- a module's constant -/
theorem de_glob {x : Str} {d : Dat} {v : V} {u : Value} (hg : Gl G.X x) (hm : G.X.mg x = some u) (r : RelV v u) (hv : ∀ S H, Dv G.X.K S H d v) (hd : (x == ("__debug__" : Str)) = false := by decide) : DE G (.Name x pos) (fun _ P => P d) :=
  ⟨⟨_, pe_glob hg hm r hd, fun _ _ H _ _ _ g h q => q _ _ H (Stp.refl g.wld) (hv _ _) h⟩⟩
theorem da_nil : DA G [] (fun _ P => P []) := ⟨⟨_, pa_nil, fun _ _ H _ _ _ g h q => q [] [] H (Stp.refl g.wld) rfl h⟩⟩
theorem da_cons {e : Expr} {es : List Expr} {F : FE} {Fs : FA} (ha : DE G e F) (hr : DA G es Fs) (hs : starEach (e :: es) G.X.env = (false, eval e G.X.env) :: starEach es G.X.env := by rfl) :
    DA G (e :: es) (fun ρ P => F ρ fun x => Fs ρ fun xs => P (x :: xs)) := by
  obtain ⟨t, h1, l1⟩ := ha.ex
  obtain ⟨u, h2, l2⟩ := hr.ex
  refine ⟨⟨_, pa_cons h1 h2 hs, fun S σ H ρ P Q g h q => ?_⟩⟩
  refine l1 S σ H ρ _ _ g h fun v d H1 st hv h' => ?_
  refine l2 S σ H1 ρ _ _ (g.step st) h' fun vs ds H2 st2 hvs hp => ?_
  exact q _ (d :: ds) H2 (st.trans st2) ⟨v, vs, rfl, st2.dv (g.step st) hv, hvs⟩ hp
theorem de_tup {es : List Expr} {Fs : FA} {k} (h : DA G es Fs) : DE G (.Tuple es k pos) (fun ρ P => Fs ρ fun xs => xs.length ≤ sizeLine ∧ P (.tup xs)) := by
  obtain ⟨t, h1, l1⟩ := h.ex
  refine ⟨⟨_, pe_tup h1, fun S σ H ρ P Q g h q => ?_⟩⟩
  refine l1 S σ H ρ _ _ g h fun vs ds H1 st hv ⟨hl, hp⟩ => ⟨by rw [hv.len]; exact hl, fun p np => ?_⟩
  have g1 := g.step st
  have st2 : Stp G H1 (upd H1 p (.tup vs)) := Stp.new g1.wld np
  exact q _ (.tup ds) _ (st.trans st2) ⟨p, vs, rfl, .inl ⟨g1.fresh np, upd_same⟩, st2.dvl g1 hv⟩ hp
theorem de_lst {es : List Expr} {Fs : FA} (h : DA G es Fs) : DE G (.List es pos) (fun ρ P => Fs ρ fun xs => xs.length ≤ sizeLine ∧ P (.lst xs)) := by
  obtain ⟨t, h1, l1⟩ := h.ex
  refine ⟨⟨_, pe_lst h1, fun S σ H ρ P Q g h q => ?_⟩⟩
  refine l1 S σ H ρ _ _ g h fun vs ds H1 st hv ⟨hl, hp⟩ => ⟨by rw [hv.len]; exact hl, fun p np => ?_⟩
  have g1 := g.step st
  have st2 : Stp G H1 (upd H1 p (.lst vs)) := Stp.new g1.wld np
  exact q _ (.lst ds) _ (st.trans st2) ⟨p, vs, rfl, g1.fresh np, upd_same, st2.dvl g1 hv⟩ hp

/-! ### two-place operations by what their values stand for -/
abbrev R2D := Dat → Dat → (Dat → Prop) → Prop
/-- r serves D -/
def Serves (G : Ctx) (r : R2) (D : R2D) : Prop := ∀ S σ ρ H x y dx dy P (Q : VK), Gd G S σ H ρ → Dv G.X.K S H dx x → Dv G.X.K S H dy y → D dx dy P → (∀ v d H', Stp G H H' → Dv G.X.K S H' d v → P d → Q v H') → r x y H Q
theorem lift_op {r : R2} {D : R2D} {ta tb : TE} {Fa Fb : FE} (hr : Serves G r D) (la : LiftE G ta Fa) (lb : LiftE G tb Fb) : LiftE G (tOp r ta tb) (fun ρ P => Fa ρ fun x => Fb ρ fun y => D x y P) := by
  intro S σ H ρ P Q g h q
  refine la S σ H ρ _ _ g h fun v d H1 st hv h' => ?_
  refine lb S σ H1 ρ _ _ (g.step st) h' fun v2 d2 H2 st2 hv2 hp => ?_
  exact hr S σ ρ H2 v v2 d d2 P Q ((g.step st).step st2) (st2.dv (g.step st) hv) hv2 hp fun v3 d3 H3 st3 => q v3 d3 H3 ((st.trans st2).trans st3)
theorem de_bin {op : Operator} {r : R2} {D : R2D} {a b : Expr} {Fa Fb : FE} (ho : OpR G.X (binaryOp op) r) (hr : Serves G r D) (ha : DE G a Fa) (hb : DE G b Fb) : DE G (.BinOp a op b pos) (fun ρ P => Fa ρ fun x => Fb ρ fun y => D x y P) := by
  obtain ⟨ta, h1, l1⟩ := ha.ex
  obtain ⟨tb, h2, l2⟩ := hb.ex
  exact ⟨⟨_, pe_op ho h1 h2, lift_op hr l1 l2⟩⟩
theorem de_cmp {op : CmpOp} {r : R2} {D : R2D} {a b : Expr} {Fa Fb : FE} (ho : OpR G.X (compareOp op) r) (hr : Serves G r D) (ha : DE G a Fa) (hb : DE G b Fb) (hm : behindInMarks op b = false := by first | exact nobehind _ (by decide) (by decide) | rfl) : DE G (.Compare a [op] [b] pos) (fun ρ P => Fa ρ fun x => Fb ρ fun y => D x y P) := by
  obtain ⟨ta, h1, l1⟩ := ha.ex
  obtain ⟨tb, h2, l2⟩ := hb.ex
  exact ⟨⟨_, pe_cmpR ho h1 h2 hm, lift_op hr l1 l2⟩⟩
/-- a value that is a bool, as a test -/
def isB (d : Dat) (P : Bool → Prop) : Prop := match d with
  | .bl b => P b
  | _ => False
theorem isB_inv {d : Dat} {P : Bool → Prop} (h : isB d P) : ∃ b, d = .bl b ∧ P b := by
  unfold isB at h
  split at h
  · exact ⟨_, rfl, h⟩
  · exact h.elim
theorem dt_val {e : Expr} {F : FE} (h : DE G e F) (he : ∀ whole, isTrue e G.X.env whole = (do let v ← whole; standAt e.pos; holding [v] (truthy v)) := by intro _; rfl) : DT G e (fun ρ P => F ρ fun x => isB x P) := by
  obtain ⟨t, h1, l1⟩ := h.ex
  refine ⟨⟨_, pt_val h1 he, fun S σ H ρ P Q g h q => ?_⟩⟩
  refine l1 S σ H ρ _ _ g h fun v d H1 st hv hp => ?_
  obtain ⟨b, rfl, hp⟩ := isB_inv hp
  exact ⟨b, hv, q b H1 st hp⟩
theorem dt_cmp {op : CmpOp} {r : R2} {D : R2D} {a b : Expr} {Fa Fb : FE} (ho : OpR G.X (compareOp op) r) (hr : Serves G r D) (ha : DE G a Fa) (hb : DE G b Fb) (hm : behindInMarks op b = false := by first | exact nobehind _ (by decide) (by decide) | rfl) : DT G (.Compare a [op] [b] pos) (fun ρ P => Fa ρ fun x => Fb ρ fun y => D x y fun z => isB z P) := by
  obtain ⟨ta, h1, l1⟩ := ha.ex
  obtain ⟨tb, h2, l2⟩ := hb.ex
  refine ⟨⟨_, pt_cmpR ho h1 h2 hm, fun S σ H ρ P Q g h q => ?_⟩⟩
  refine lift_op hr l1 l2 S σ H ρ _ _ g h fun v d H1 st hv hp => ?_
  obtain ⟨b, rfl, hp⟩ := isB_inv hp
  exact ⟨b, hv, q b H1 st hp⟩
/-! ### and, or, not, if -/
variable {a b c : Expr} {rest : List Expr}
theorem dw_and1 {F : FT} (ha : DT G a F) : DW G (.BoolOp .And [a] pos) F := by
  obtain ⟨t, h, l⟩ := ha.ex
  exact ⟨⟨_, pw_and1 h, l⟩⟩
theorem dw_or1 {F : FT} (ha : DT G a F) : DW G (.BoolOp .Or [a] pos) F := by
  obtain ⟨t, h, l⟩ := ha.ex
  exact ⟨⟨_, pw_or1 h, l⟩⟩
theorem dw_and {F F' : FT} (ha : DT G a F) (hb : DW G (.BoolOp .And (b :: rest) pos) F') : DW G (.BoolOp .And (a :: b :: rest) pos) (fun ρ P => F ρ fun c => if c = true then F' ρ P else P false) := by
  obtain ⟨t, h, l⟩ := ha.ex
  obtain ⟨u, h2, l2⟩ := hb.ex
  refine ⟨⟨_, pw_and h h2, fun S σ H ρ P Q g h q => ?_⟩⟩
  refine l S σ H ρ _ _ g h fun b H1 st hp => ?_
  cases b with
  | true => exact l2 S σ H1 ρ _ _ (g.step st) hp fun b H2 st2 => q b H2 (st.trans st2)
  | false => exact q false H1 st hp
theorem dw_or {F F' : FT} (ha : DT G a F) (hb : DW G (.BoolOp .Or (b :: rest) pos) F') : DW G (.BoolOp .Or (a :: b :: rest) pos) (fun ρ P => F ρ fun c => if c = true then P true else F' ρ P) := by
  obtain ⟨t, h, l⟩ := ha.ex
  obtain ⟨u, h2, l2⟩ := hb.ex
  refine ⟨⟨_, pw_or h h2, fun S σ H ρ P Q g h q => ?_⟩⟩
  refine l S σ H ρ _ _ g h fun b H1 st hp => ?_
  cases b with
  | false => exact l2 S σ H1 ρ _ _ (g.step st) hp fun b H2 st2 => q b H2 (st.trans st2)
  | true => exact q true H1 st hp
theorem dt_w {F : FT} {e : Expr} (h : DW G e F) : DT G e F := by
  obtain ⟨t, h, l⟩ := h.ex
  exact ⟨⟨_, h.pt, l⟩⟩
theorem dt_not {F : FT} (ha : DT G a F) : DT G (.UnaryOp .Not a pos) (fun ρ P => F ρ fun c => P (!c)) := by
  obtain ⟨t, h, l⟩ := ha.ex
  exact ⟨⟨_, pt_not h, fun S σ H ρ P Q g h q => l S σ H ρ _ _ g h fun b H1 st hp => q (!b) H1 st hp⟩⟩
theorem de_one {op} {F : FE} (ha : DE G a F) : DE G (.BoolOp op [a] pos) F := by
  obtain ⟨t, h, l⟩ := ha.ex
  exact ⟨⟨_, pe_one h, l⟩⟩
theorem de_and {F F' : FE} (ha : DE G a F) (hb : DE G (.BoolOp .And (b :: rest) pos) F') : DE G (.BoolOp .And (a :: b :: rest) pos) (fun ρ P => F ρ fun c => isB c fun c => if c = true then F' ρ P else P (.bl false)) := by
  obtain ⟨t, h, l⟩ := ha.ex
  obtain ⟨u, h2, l2⟩ := hb.ex
  refine ⟨⟨_, pe_and h h2, fun S σ H ρ P Q g h q => ?_⟩⟩
  refine l S σ H ρ _ _ g h fun v d H1 st hv hp => ?_
  obtain ⟨b, rfl, hp⟩ := isB_inv hp
  refine ⟨b, hv, ?_⟩
  cases b with
  | true => exact l2 S σ H1 ρ _ _ (g.step st) hp fun v d H2 st2 => q v d H2 (st.trans st2)
  | false => exact q _ (.bl false) H1 st rfl hp
theorem de_or {F F' : FE} (ha : DE G a F) (hb : DE G (.BoolOp .Or (b :: rest) pos) F') : DE G (.BoolOp .Or (a :: b :: rest) pos) (fun ρ P => F ρ fun c => isB c fun c => if c = true then P (.bl true) else F' ρ P) := by
  obtain ⟨t, h, l⟩ := ha.ex
  obtain ⟨u, h2, l2⟩ := hb.ex
  refine ⟨⟨_, pe_or h h2, fun S σ H ρ P Q g h q => ?_⟩⟩
  refine l S σ H ρ _ _ g h fun v d H1 st hv hp => ?_
  obtain ⟨b, rfl, hp⟩ := isB_inv hp
  refine ⟨b, hv, ?_⟩
  cases b with
  | false => exact l2 S σ H1 ρ _ _ (g.step st) hp fun v d H2 st2 => q v d H2 (st.trans st2)
  | true => exact q _ (.bl true) H1 st rfl hp
theorem de_not {F : FE} (ha : DE G a F) : DE G (.UnaryOp .Not a pos) (fun ρ P => F ρ fun c => isB c fun c => P (.bl (!c))) := by
  obtain ⟨t, h, l⟩ := ha.ex
  refine ⟨⟨_, pe_not h, fun S σ H ρ P Q g h q => ?_⟩⟩
  refine l S σ H ρ _ _ g h fun v d H1 st hv hp => ?_
  obtain ⟨b, rfl, hp⟩ := isB_inv hp
  exact ⟨b, hv, q _ (.bl (!b)) H1 st rfl hp⟩
theorem de_if {Fc : FT} {F F' : FE} (hc : DT G c Fc) (ha : DE G a F) (hb : DE G b F') : DE G (.IfExp c a b pos) (fun ρ P => Fc ρ fun c => if c = true then F ρ P else F' ρ P) := by
  obtain ⟨t0, h0, l0⟩ := hc.ex
  obtain ⟨t, h, l⟩ := ha.ex
  obtain ⟨u, h2, l2⟩ := hb.ex
  refine ⟨⟨_, pe_ifExp h0 h h2, fun S σ H ρ P Q g h q => ?_⟩⟩
  refine l0 S σ H ρ _ _ g h fun b H1 st hp => ?_
  cases b with
  | true => exact l S σ H1 ρ _ _ (g.step st) hp fun v d H2 st2 => q v d H2 (st.trans st2)
  | false => exact l2 S σ H1 ρ _ _ (g.step st) hp fun v d H2 st2 => q v d H2 (st.trans st2)
end
end DL
namespace DL
open PySem PySem.Spec PyProof.Rows L2
section
variable {G : Ctx} {S S' : Addr → Prop} {σ : L2.St} {H H' : Hp} {ρ : List Slot} {pos : Pos}
theorem getset {α : Type} (l : List α) (i j : Nat) (x : α) : (l.set i x)[j]? = if j = i then (if i < l.length then some x else none) else l[j]? := by
  rw [List.getElem?_set]
  by_cases h : i = j
  · subst h; simp
  · rw [if_neg h, if_neg (fun e => h e.symm)]
/-- other slots stay, whatever else comes to be scratch: what the old heap did not know -/
theorem SlotOk.move {K : PySem.W.Frag} {H0 : Hp} {o : Option V} {s : Slot} (q : SlotOk K S H0 H o s) (fr : Fr S H S' H') (sub : ∀ a, S a → S' a) (keep : ∀ a u, s.isOwn = true → o = some (.ref a) → H a = some u → H' a = some u) : SlotOk K S' H0 H' o s := by
  cases s with
  | un => exact trivial
  | d x =>
    cases o with
    | none => exact q.elim
    | some v => exact Dv.move fr x v q
  | raw w =>
    cases o with
    | none => exact q.elim
    | some v => exact q
  | scr ns =>
    cases o with
    | none => exact q.elim
    | some v => exact ScrOk.move q fr
  | own ds =>
    cases o with
    | none => exact q.elim
    | some v =>
      obtain ⟨a, xs, rfl, e2, e3, e4, e5⟩ := (q : ∃ a xs, v = .ref a ∧ S a ∧ H0 a = none ∧ H a = some (.lst xs) ∧ DvL K S H ds xs)
      exact ⟨a, xs, rfl, sub a e2, e3, keep a _ rfl rfl e4, DvL.move fr ds xs e5⟩
  | ownd ks ds =>
    cases o with
    | none => exact q.elim
    | some v =>
      obtain ⟨a, xs, rfl, e2, e3, e4, e6, e5⟩ := (q : ∃ a kvs, v = .ref a ∧ S a ∧ H0 a = none ∧ H a = some (.dK kvs) ∧ kvs.map (·.1) = ks ∧ DvL K S H ds (kvs.map (·.2)))
      exact ⟨a, xs, rfl, sub a e2, e3, keep a _ rfl rfl e4, e6, DvL.move fr ds _ e5⟩
theorem Gd.set (g : Gd G S σ H ρ) {i : Nat} {d : Dat} {v : V} (h : Dv G.X.K S H d v) : Gd G S (σ.set i (some v)) H (ρ.set i (.d d)) := by
  refine ⟨g.wld, g.all, g.sub, by simp [g.len], fun j s hs => ?_, fun j k sj sk w h1 h2 o1 o2 e1 e2 => ?_⟩
  · rw [getset] at hs
    rw [getset]
    by_cases hj : j = i
    · subst hj
      rw [if_pos rfl] at hs ⊢
      have hl := g.len
      by_cases hi : j < ρ.length
      · rw [if_pos hi] at hs
        cases hs
        rw [if_pos (by omega)]
        exact h
      · rw [if_neg hi] at hs; cases hs
    · rw [if_neg hj] at hs ⊢
      exact g.slots j s hs
  · rw [getset] at h1 h2
    rw [getset] at e1 e2
    by_cases hj : j = i
    · rw [if_pos hj] at h1
      split at h1
      · cases h1; cases o1
      · cases h1
    · by_cases hk : k = i
      · rw [if_pos hk] at h2
        split at h2
        · cases h2; cases o2
        · cases h2
      · rw [if_neg hj] at h1 e1
        rw [if_neg hk] at h2 e2
        exact g.apart j k sj sk w h1 h2 o1 o2 e1 e2
/-- a slot forgotten -/
theorem Gd.wipe (g : Gd G S σ H ρ) {i : Nat} {o : Option V} : Gd G S (σ.set i o) H (ρ.set i .un) := by
  refine ⟨g.wld, g.all, g.sub, by simp [g.len], fun j s hs => ?_, fun j k sj sk w h1 h2 o1 o2 e1 e2 => ?_⟩
  · rw [getset] at hs
    rw [getset]
    by_cases hj : j = i
    · subst hj
      rw [if_pos rfl] at hs
      split at hs
      · cases hs; exact trivial
      · cases hs
    · rw [if_neg hj] at hs ⊢
      exact g.slots j s hs
  · rw [getset] at h1 h2
    rw [getset] at e1 e2
    by_cases hj : j = i
    · rw [if_pos hj] at h1
      split at h1
      · cases h1; cases o1
      · cases h1
    · by_cases hk : k = i
      · rw [if_pos hk] at h2
        split at h2
        · cases h2; cases o2
        · cases h2
      · rw [if_neg hj] at h1 e1
        rw [if_neg hk] at h2 e2
        exact g.apart j k sj sk w h1 h2 o1 o2 e1 e2
/-- the scratch grows by a new address -/
theorem Gd.grow (g : Gd G S σ H ρ) {p : Addr} {o : HO} (np : H p = none) : Gd G (fun a => S a ∨ a = p) σ (upd H p o) ρ ∧ Fr S H (fun a => S a ∨ a = p) (upd H p o) := by
  have fr : Fr S H (fun a => S a ∨ a = p) (upd H p o) := fun a u n e => ⟨fun z => z.elim n (ne_of_none e np), by rw [upd_ne (ne_of_none e np)]; exact e⟩
  have st : Stp G H (upd H p o) := Stp.new g.wld np
  refine ⟨⟨st.wld, fun a h => ?_, fun a h => .inl (g.sub a h), g.len, fun i s hs => (g.slots i s hs).move fr (fun a => .inl) fun a u _ _ e => by rw [upd_ne (ne_of_none e np)]; exact e, g.apart⟩, fr⟩
  rcases h with h | rfl
  · obtain ⟨u, e⟩ := g.all a h
    exact st.has a u e
  · exact ⟨o, upd_same⟩
theorem SlotOk.addr {K : PySem.W.Frag} {H0 : Hp} {o : Option V} {s : Slot} (q : SlotOk K S H0 H o s) (h : s.isOwn = true) : ∃ a u, o = some (.ref a) ∧ S a ∧ H a = some u ∧ H0 a = none := by
  cases s with
  | own ds =>
    cases o with
    | none => exact q.elim
    | some v =>
      obtain ⟨a, xs, rfl, e2, e3, e4, e5⟩ := (q : ∃ a xs, v = .ref a ∧ S a ∧ H0 a = none ∧ H a = some (.lst xs) ∧ DvL K S H ds xs)
      exact ⟨a, _, rfl, e2, e4, e3⟩
  | ownd ks ds =>
    cases o with
    | none => exact q.elim
    | some v =>
      obtain ⟨a, xs, rfl, e2, e3, e4, e6, e5⟩ := (q : ∃ a kvs, v = .ref a ∧ S a ∧ H0 a = none ∧ H a = some (.dK kvs) ∧ kvs.map (·.1) = ks ∧ DvL K S H ds (kvs.map (·.2)))
      exact ⟨a, _, rfl, e2, e4, e3⟩
  | un => cases h
  | d _ => cases h
  | raw _ => cases h
  | scr _ => cases h
/-- a slot that owns a new object -/
theorem Gd.setOwn (g : Gd G S σ H ρ) {i : Nat} {s : Slot} {p : Addr} {o : HO} (np : H p = none) (hs : s.isOwn = true) (h : SlotOk G.X.K (fun a => S a ∨ a = p) G.H0 (upd H p o) (some (.ref p)) s) :
    Gd G (fun a => S a ∨ a = p) (σ.set i (some (.ref p))) (upd H p o) (ρ.set i s) := by
  obtain ⟨g1, fr⟩ := g.grow (o := o) np
  have other : ∀ (j : Nat) sj, ρ[j]? = some sj → sj.isOwn = true → σ[j]? = some (some (.ref p)) → False := fun j sj hj oj e => by
    have q := g.slots j sj hj
    rw [e] at q
    obtain ⟨a, u, e1, _, e2, _⟩ := SlotOk.addr q oj
    cases e1
    rw [np] at e2; cases e2
  refine ⟨g1.wld, g1.all, g1.sub, by simp [g.len], fun j t ht => ?_, fun j k sj sk w h1 h2 o1 o2 e1 e2 => ?_⟩
  · rw [getset] at ht
    rw [getset]
    by_cases hj : j = i
    · subst hj
      rw [if_pos rfl] at ht ⊢
      have hl := g.len
      by_cases hi : j < ρ.length
      · rw [if_pos hi] at ht
        cases ht
        rw [if_pos (by omega)]
        exact h
      · rw [if_neg hi] at ht; cases ht
    · rw [if_neg hj] at ht ⊢
      exact g1.slots j t ht
  · rw [getset] at h1 h2
    rw [getset] at e1 e2
    by_cases hj : j = i
    · by_cases hk : k = i
      · omega
      · rw [if_pos hj] at e1
        split at e1
        · cases e1
          rw [if_neg hk] at h2 e2
          exact (other k sk h2 o2 e2).elim
        · cases e1
    · by_cases hk : k = i
      · rw [if_pos hk] at e2
        split at e2
        · cases e2
          rw [if_neg hj] at h1 e1
          exact (other j sj h1 o1 e1).elim
        · cases e2
      · rw [if_neg hj] at h1 e1
        rw [if_neg hk] at h2 e2
        exact g.apart j k sj sk w h1 h2 o1 o2 e1 e2
theorem SlotOk.noext {K : PySem.W.Frag} {S : Addr → Prop} {H0 H : Hp} {p : Addr} {s : Slot} (q : SlotOk K S H0 H (some (.ref p)) s) (h : s.isOwn = true) (φ : Heap → Prop) : H p ≠ some (.ext φ) := fun z => by
  cases s with
  | own ds =>
    obtain ⟨a, xs, e1, _, _, e4, _⟩ := (q : ∃ a xs, V.ref p = .ref a ∧ S a ∧ H0 a = none ∧ H a = some (.lst xs) ∧ DvL K S H ds xs)
    cases e1
    rw [z] at e4; cases e4
  | ownd ks ds =>
    obtain ⟨a, xs, e1, _, _, e4, _⟩ := (q : ∃ a kvs, V.ref p = .ref a ∧ S a ∧ H0 a = none ∧ H a = some (.dK kvs) ∧ kvs.map (·.1) = ks ∧ DvL K S H ds (kvs.map (·.2)))
    cases e1
    rw [z] at e4; cases e4
  | _ => cases h
/-- an owned object is changed -/
theorem Gd.write (g : Gd G S σ H ρ) {i : Nat} {s s' : Slot} {p : Addr} {o : HO} (hs : ρ[i]? = some s) (hp : σ[i]? = some (some (.ref p))) (ho : s.isOwn = true) (ho' : s'.isOwn = true) (h : SlotOk G.X.K S G.H0 (upd H p o) (some (.ref p)) s') :
    Gd G S σ (upd H p o) (ρ.set i s') ∧ Fr S H S (upd H p o) := by
  have q := g.slots i s hs
  rw [hp] at q
  obtain ⟨a, u, e1, sa, ea, e0⟩ := SlotOk.addr q ho
  cases e1
  have fr : Fr S H S (upd H p o) := fun b u n e => ⟨n, by rw [upd_ne (fun z => n (by rw [z]; exact sa))]; exact e⟩
  have ilt : i < ρ.length := (List.getElem?_eq_some_iff.mp hs).1
  refine ⟨⟨G.clo H _ g.wld (fun b u u0 e e' => ?_) (keepX_upd (SlotOk.noext q ho)), fun b hb => ?_, g.sub, by simp [g.len], fun j t ht => ?_, fun j k sj sk w h1 h2 o1 o2 e1 e2 => ?_⟩, fr⟩
  · rw [upd_ne (fun z => by rw [z, e0] at e; cases e)]; exact e'
  · by_cases hbp : b = p
    · exact ⟨o, by rw [hbp]; exact upd_same⟩
    · obtain ⟨u, e⟩ := g.all b hb
      exact ⟨u, by rw [upd_ne hbp]; exact e⟩
  · rw [getset] at ht
    by_cases hj : j = i
    · subst hj
      rw [if_pos rfl, if_pos ilt] at ht
      cases ht
      rw [hp]
      exact h
    · rw [if_neg hj] at ht
      refine (g.slots j t ht).move fr (fun _ z => z) fun b v ob eb e => ?_
      have hne : b ≠ p := fun z => by
        subst z
        have eb' : σ[j]? = some (some (.ref b)) := by
          cases ee : σ[j]? with
          | none => rw [ee] at eb; cases eb
          | some o => rw [ee] at eb; cases eb; rfl
        exact hj (g.apart j i t s _ ht hs ob ho eb' hp)
      rw [upd_ne hne]; exact e
  · rw [getset] at h1 h2
    have back : ∀ (j : Nat) (sj : Slot), (if j = i then if i < ρ.length then some s' else none else ρ[j]?) = some sj → sj.isOwn = true → ∃ t, ρ[j]? = some t ∧ t.isOwn = true := fun j sj e oj => by
      by_cases hj : j = i
      · subst hj; exact ⟨s, hs, ho⟩
      · rw [if_neg hj] at e; exact ⟨sj, e, oj⟩
    obtain ⟨tj, b1, b2⟩ := back j sj h1 o1
    obtain ⟨tk, c1, c2⟩ := back k sk h2 o2
    exact g.apart j k tj tk w b1 c1 b2 c2 e1 e2
/-- all that is owned becomes plain data -/
def Slot.freeze : Slot → Slot
  | .own ds => .d (.lst ds)
  | .ownd ks ds => .d (.dic ks ds)
  | s => s
theorem Gd.freeze (g : Gd G S σ H ρ) : Gd G G.S0 σ H (ρ.map Slot.freeze) ∧ Fr S H G.S0 H := by
  have fr : Fr S H G.S0 H := fun a o n e => ⟨fun z => n (g.sub a z), e⟩
  have n0 : ∀ a, G.H0 a = none → ¬ G.S0 a := fun a n z => by
    obtain ⟨o, e⟩ := G.s0 a z
    rw [n] at e; cases e
  refine ⟨⟨g.wld, fun a h => g.all a (g.sub a h), fun _ h => h, by simp [g.len], fun i s hs => ?_, fun i j si sj v h1 h2 o1 o2 e1 e2 => ?_⟩, fr⟩
  · rw [List.getElem?_map] at hs
    cases e : ρ[i]? with
    | none => rw [e] at hs; cases hs
    | some t =>
      rw [e] at hs
      cases hs
      have q := g.slots i t e
      cases t with
      | un => exact trivial
      | d x =>
        cases o : σ[i]?.join with
        | none => rw [o] at q; exact q.elim
        | some v => rw [o] at q; exact Dv.move fr x v q
      | raw w =>
        cases o : σ[i]?.join with
        | none => rw [o] at q; exact q.elim
        | some v => rw [o] at q; exact q
      | scr ns =>
        cases o : σ[i]?.join with
        | none => rw [o] at q; exact q.elim
        | some v => rw [o] at q; exact ScrOk.move q fr
      | own ds =>
        cases o : σ[i]?.join with
        | none => rw [o] at q; exact q.elim
        | some v =>
          rw [o] at q
          obtain ⟨a, xs, rfl, e2, e3, e4, e5⟩ := (q : ∃ a xs, v = .ref a ∧ S a ∧ G.H0 a = none ∧ H a = some (.lst xs) ∧ DvL G.X.K S H ds xs)
          exact ⟨a, xs, rfl, n0 a e3, e4, DvL.move fr ds xs e5⟩
      | ownd ks ds =>
        cases o : σ[i]?.join with
        | none => rw [o] at q; exact q.elim
        | some v =>
          rw [o] at q
          obtain ⟨a, xs, rfl, e2, e3, e4, e6, e5⟩ := (q : ∃ a kvs, v = .ref a ∧ S a ∧ G.H0 a = none ∧ H a = some (.dK kvs) ∧ kvs.map (·.1) = ks ∧ DvL G.X.K S H ds (kvs.map (·.2)))
          exact ⟨a, xs, rfl, n0 a e3, e4, e6, DvL.move fr ds _ e5⟩
  · rw [List.getElem?_map] at h1
    cases e : ρ[i]? with
    | none => rw [e] at h1; cases h1
    | some t =>
      rw [e] at h1
      cases h1
      cases t <;> cases o1

/-! ### statements -/
variable {e : Expr} {st : Stmt} {rest : List Stmt}
theorem EndsOk.from {D : DEnds} {Dh : Ends} (q : EndsOk G S H D Dh) (fr : Fr S H S' H') : EndsOk G S' H' D Dh :=
  ⟨fun S2 σ2 H2 ρ2 g f => q.nx S2 σ2 H2 ρ2 g (fr.trans f), q.rt, fun S2 σ2 H2 ρ2 g f => q.bk S2 σ2 H2 ρ2 g (fr.trans f), fun S2 σ2 H2 ρ2 g f => q.ct S2 σ2 H2 ρ2 g (fr.trans f)⟩
theorem ds_set {x : Str} {pos' : Pos} {F : FE} (i : Nat) (he : DE G e F) (hN : G.X.N.Nodup) (hi : G.X.N[i]? = some x := by rfl) (hx : Loc G.X.env.scope x := by first | exact Or.inl rfl | exact Or.inr rfl) (hs : swapsWith e (some (.Name x pos')) pos.line G.X.env = pure false := by rfl)
    (hf : G.X.fn x = true ∨ G.X.env.scope.names.lookup x = some .local := by first | exact .inl rfl | exact .inr rfl) : DS G (.Assign [.Name x pos'] e pos) (fun D ρ => F ρ fun d => D.nx (ρ.set i (.d d))) := by
  obtain ⟨t, h, l⟩ := he.ex
  refine ⟨⟨_, ps_set (i := i) hN hi hx h hs hf, fun S σ H ρ D Dh g h q => ?_⟩⟩
  exact l S σ H ρ _ _ g h fun v d H1 st hv hp => q.nx S _ H1 _ ((g.step st).set hv) (st.fr g) hp
theorem ds_ret {F : FE} (he : DE G e F) : DS G (.Return (some e) pos) (fun D ρ => F ρ D.rt) := by
  obtain ⟨t, h, l⟩ := he.ex
  refine ⟨⟨_, ps_ret h, fun S σ H ρ D Dh g h q => ?_⟩⟩
  exact l S σ H ρ _ _ g h fun v d H1 st hv hp => q.rt v d H1 st.wld (hv.move fun a o n e => ⟨fun z => n (g.sub a z), e⟩) hp
theorem ds_retN : DS G (.Return none pos) (fun D ρ => D.rt .non) :=
  ⟨⟨_, ps_retN, fun S σ H ρ D Dh g h q => q.rt .non .non H g.wld rfl h⟩⟩
theorem ds_freeze {F : FS} (h : DS G st F) : DS G st (fun D ρ => F D (ρ.map Slot.freeze)) := by
  obtain ⟨t, h, l⟩ := h.ex
  refine ⟨⟨t, h, fun S σ H ρ D Dh g h q => ?_⟩⟩
  obtain ⟨g1, fr⟩ := g.freeze
  exact l G.S0 σ H _ D Dh g1 h (q.from fr)
theorem ds_drop {F : FE} (he : DE G e F) (hs : swapsWith e none pos.line G.X.env = pure false := by rfl) : DS G (.Expr e pos) (fun D ρ => F ρ fun _ => D.nx ρ) := by
  obtain ⟨t, h, l⟩ := he.ex
  refine ⟨⟨_, ps_expr h hs, fun S σ H ρ D Dh g h q => ?_⟩⟩
  exact l S σ H ρ _ _ g h fun v d H1 st hv hp => q.nx S σ H1 ρ (g.step st) (st.fr g) hp
theorem ds_pass : DS G (.Pass pos) (fun D ρ => D.nx ρ) := ⟨⟨_, ps_pass, fun S σ H ρ D Dh g h q => q.nx S σ H ρ g (Fr.refl S H) h⟩⟩
theorem db_nil : DB G [] (fun D ρ => D.nx ρ) := ⟨⟨_, pss_nil, fun S σ H ρ D Dh g h q => q.nx S σ H ρ g (Fr.refl S H) h⟩⟩
theorem db_one {F : FS} (h : DS G st F) : DB G [st] F := by
  obtain ⟨t, h, l⟩ := h.ex
  exact ⟨⟨t, pss_one h, l⟩⟩
theorem db_cons {F F' : FS} (h : DS G st F) (hr : DB G rest F') : DB G (st :: rest) (fun D ρ => F { D with nx := F' D } ρ) := by
  obtain ⟨t, h, l⟩ := h.ex
  obtain ⟨u, h2, l2⟩ := hr.ex
  refine ⟨⟨_, pss_cons h h2, fun S σ H ρ D Dh g h q => ?_⟩⟩
  exact l S σ H ρ _ _ g h ⟨fun S' σ' H' ρ' g' fr hp => l2 S' σ' H' ρ' D Dh g' hp (q.from fr), q.rt, q.bk, q.ct⟩
theorem ds_if {c : Expr} {a b : List Stmt} {Fc : FT} {F F' : FS} (hc : DT G c Fc) (ha : DB G a F) (hb : DB G b F') : DS G (.If c a b pos) (fun D ρ => Fc ρ fun c => if c = true then F D ρ else F' D ρ) := by
  obtain ⟨t0, h0, l0⟩ := hc.ex
  obtain ⟨t, h, l⟩ := ha.ex
  obtain ⟨u, h2, l2⟩ := hb.ex
  refine ⟨⟨_, ps_if h0 h h2, fun S σ H ρ D Dh g h q => ?_⟩⟩
  refine l0 S σ H ρ _ _ g h fun b H1 st hp => ?_
  cases b with
  | true => exact l S σ H1 ρ D Dh (g.step st) hp (q.from (st.fr g))
  | false => exact l2 S σ H1 ρ D Dh (g.step st) hp (q.from (st.fr g))
end
end DL
namespace DL
open PySem PySem.Spec PyProof.Rows L2
/-- what a def promises, by what its arguments stand for: the arguments, what is wanted of its answer, of what it raises -/
structure Con where
  C : List Dat → (Dat → Prop) → (Exc → Prop) → Prop
  mono : ∀ ds P P' X X', C ds P X → (∀ d, P d → P' d) → (∀ x, X x → X' x) → C ds P' X'
def spD (K : PySem.W.Frag) (C : Con) : Sp := fun vs H Q E => ∃ (S : Addr → Prop) (ds : List Dat), (∀ a, S a → ∃ o, H a = some o) ∧ DvL K S H ds vs ∧
  C.C ds (fun d => ∀ v H', Evl.Ex H H' → Dv K S H' d v → Q v H')
    (fun x => ∀ fs d H', Evl.Ex H H' → H d = none → H' d = some (.xd fs) → fs.map (·.1) = x.2.map (·.1) → DvL K S H' (x.2.map (·.2)) (fs.map (·.2)) → E (.ref x.1) (some d) H')
/-- a promise of a value, under a condition -/
def Con.fn (pre : List Dat → Prop) (f : List Dat → Dat) : Con := ⟨fun ds P _ => pre ds ∧ P (f ds), fun _ _ _ _ _ h m _ => ⟨h.1, m _ h.2⟩⟩
section
variable {G : Ctx} {S : Addr → Prop} {σ : L2.St} {H H' : Hp} {ρ : List Slot} {pos : Pos}
theorem spD_use {C : Con} {vs : List V} {ds : List Dat} {P : Dat → Prop} {Q : VK} {E : XK} (g : Gd G S σ H ρ) (hv : DvL G.X.K S H ds vs) (h : C.C ds P (fun _ => False)) (q : ∀ v d H', Stp G H H' → Dv G.X.K S H' d v → P d → Q v H') : spD G.X.K C vs H Q E :=
  ⟨S, ds, g.all, hv, C.mono ds _ _ _ _ h (fun d hp v H' e hd => q v d H' (Stp.ex g.wld e) hd hp) fun _ z => z.elim⟩
/-- a call of a def that raises nothing -/
theorem de_call {C : Con} {k : Nat} {f : Addr} {fd : FuncData} {ps : List Str} {x : Str} {p : Pos} {e : Expr} {es : List Expr} {Fs : FA} (F : FnOk G.X.prog G.X.w G.X.K G.X.mg G.X.base CX0 k f fd ps (spD G.X.K C)) (hr : Room k G.X.A) (hg : Gl G.X x) (hm : G.X.mg x = some (.ref f))
    (hk : PySem.W.keepIn G.X.K (.ref f) = true) (hb : Binds G.X.K fd ps []) (ha : DA G (e :: es) Fs) (hdb : (x == ("__debug__" : Str)) = false := by decide) (he : starEach (e :: es) G.X.env = (false, eval e G.X.env) :: starEach es G.X.env := by rfl) (hpl : (backTo pos (starEach es G.X.env)).any (·.1) = false := by rfl) :
    DE G (.Call (.Name x p) (e :: es) [] pos) (fun ρ P => Fs ρ fun ds => C.C ds P (fun _ => False)) := by
  obtain ⟨t, h, l⟩ := ha.ex
  refine ⟨⟨_, pe_call F hr hg hm hk hb .nil pass0 h hdb he hpl, fun S σ H ρ P Q g h q => ?_⟩⟩
  refine l S σ H ρ _ _ g h fun vs ds H1 st hv hp => ?_
  rw [List.append_nil]
  exact spD_use (g.step st) hv hp fun v d H2 st2 => q v d H2 (st.trans st2)
theorem de_call0 {C : Con} {k : Nat} {f : Addr} {fd : FuncData} {ps : List Str} {x : Str} {p : Pos} (F : FnOk G.X.prog G.X.w G.X.K G.X.mg G.X.base CX0 k f fd ps (spD G.X.K C)) (hr : Room k G.X.A) (hg : Gl G.X x) (hm : G.X.mg x = some (.ref f))
    (hk : PySem.W.keepIn G.X.K (.ref f) = true) (hb : Binds G.X.K fd ps []) (hdb : (x == ("__debug__" : Str)) = false := by decide) : DE G (.Call (.Name x p) [] [] pos) (fun ρ P => C.C [] P (fun _ => False)) := by
  refine ⟨⟨_, pe_call0 F hr hg hm hk hb .nil pass0 hdb, fun S σ H ρ P Q g h q => ?_⟩⟩
  exact spD_use (vs := []) (ds := []) g rfl h q
/-- the slots at a def's entry -/
def start (n : Nat) (ds : List Dat) : List Slot := ds.map Slot.d ++ List.replicate (n - ds.length) Slot.un
theorem gd_start {G : Ctx} {N : List Str} {vs : List V} {ds : List Dat} (hw : G.W H) (ha : ∀ a, G.S0 a → ∃ o, H a = some o) (hv : DvL G.X.K G.S0 H ds vs) (hl : ds.length ≤ N.length) : Gd G G.S0 (L2.start N vs) H (start N.length ds) := by
  have hvl := hv.len
  refine ⟨hw, ha, fun _ h => h, by unfold L2.start start; simp [hvl], fun i s hs => ?_, fun i j si sj v h1 h2 o1 o2 _ _ => ?_⟩
  · unfold start at hs
    unfold L2.start
    by_cases hi : i < ds.length
    · rw [List.getElem?_append_left (by simpa using hi), List.getElem?_map] at hs
      cases e : ds[i]? with
      | none => rw [e] at hs; cases hs
      | some d =>
        rw [e] at hs
        cases hs
        obtain ⟨v, e1, e2⟩ := hv.get e
        rw [List.getElem?_append_left (by rw [List.length_map]; omega), List.getElem?_map, e1]
        exact e2
    · rw [List.getElem?_append_right (by simpa using hi), List.getElem?_replicate] at hs
      split at hs
      · cases hs; exact trivial
      · cases hs
  · unfold start at h1
    by_cases hi : i < ds.length
    · rw [List.getElem?_append_left (by simpa using hi), List.getElem?_map] at h1
      cases e : ds[i]? with
      | none => rw [e] at h1; cases h1
      | some d => rw [e] at h1; cases h1; cases o1
    · rw [List.getElem?_append_right (by simpa using hi), List.getElem?_replicate] at h1
      split at h1
      · cases h1; cases o1
      · cases h1
/-- the context of a pure def's body that raises nothing -/
abbrev ctx0 (P : Program) (w : World) (K : PySem.W.Frag) (mg : Str → Option Value) (base : Heap) (N : List Str) (qual : Str) (sc : Scope) (f : Addr) (cdv : Value) (A : Around) (outer : List Env) (s : Shared) (H : Hp) (S : Addr → Prop) (hS : ∀ a, S a → ∃ o, H a = some o) : Ctx where
  X := (cxOf CX0 P w K mg base N qual sc f cdv A outer s H E0).nox
  H0 := H
  S0 := S
  W := Evl.Ex H
  clo := fun H1 H2 h k _ a o e => k a o o e (h a o e)
  top := fun H1 h a o e => ⟨o, h a o e⟩
  s0 := hS
  E := E0
  EX := fun _ => False
  elink := fun _ _ _ _ _ z => z.elim
/-- THE RULE for a pure def that raises nothing -/
theorem fn_pure {P : Program} {w : World} {K : PySem.W.Frag} {mg : Str → Option Value} {base : Heap} {x qual : Str} {st : Stmt} {f : Addr} {fd : FuncData} {N ps : List Str} {k : Nat} {C : Con} (F : Fun K x qual st f fd) (Sc : FnScope N ps (defScope st)) (len : ∀ ds P X, C.C ds P X → ds.length = ps.length)
    (hbody : ∀ (cdv : Value) (A : Around) (outer : List Env) (s : Shared) (H : Hp) (S : Addr → Prop) (hS : ∀ a, S a → ∃ o, H a = some o), Room k (A.deeper (envOfC qual (defScope st) s.heap.objs.size f cdv)) →
      ∃ T, DB (ctx0 P w K mg base N qual (defScope st) f cdv A outer s H S hS) (defBody st) T ∧ ∀ ds R X, C.C ds R X → T { nx := fun _ => R .non, rt := R } (start N.length ds)) : FnOk P w K mg base CX0 (k + 1) f fd ps (spD K C) := by
  have hpl : ps.length ≤ N.length := by have := congrArg List.length Sc.pre; rw [List.length_take] at this; omega
  refine F.ok Sc (fun vs H Q E ⟨S, ds, _, hv, hc⟩ => by rw [hv.len]; exact len _ _ _ hc) fun cdv A outer s H vs Q E hr h => ?_
  obtain ⟨S, ds, hS, hv, hc⟩ := h
  obtain ⟨T, ⟨t, hp, l⟩, hT⟩ := hbody cdv A outer s H S hS hr
  refine ⟨t, ?_, ?_⟩
  · exact hp
  · refine l S _ H (start N.length ds) _ _ (gd_start (G := ctx0 P w K mg base N qual (defScope st) f cdv A outer s H S hS) (fun _ _ e => e) hS hv (by rw [len _ _ _ hc]; exact hpl)) (hT ds _ _ hc) ?_
    exact ⟨fun S' σ' H' ρ' g fr q => q .non H' g.wld rfl, fun v d H' hw hv q => q v H' hw hv, fun _ _ _ _ _ _ z => z.elim, fun _ _ _ _ _ _ z => z.elim⟩
end
end DL
namespace DL
open PySem PySem.Spec PyProof.Rows L2
section
variable {G : Ctx} {S S' : Addr → Prop} {σ : L2.St} {H H' : Hp} {ρ : List Slot} {pos : Pos}
/-! ### the shapes behind what values stand for -/
theorem dv_int {K : PySem.W.Frag} {i : Int} {v : V} (h : Dv K S H (.int i) v) : v = .int i := h
theorem dv_str {K : PySem.W.Frag} {i : Str} {v : V} (h : Dv K S H (.str i) v) : v = .str i := h
theorem dv_tup {K : PySem.W.Frag} {ds : List Dat} {v : V} (h : Dv K S H (.tup ds) v) : ∃ a xs, v = .ref a ∧ ((¬ S a ∧ H a = some (.tup xs)) ∨ WrT K a xs) ∧ DvL K S H ds xs := h
theorem dv_lst {K : PySem.W.Frag} {ds : List Dat} {v : V} (h : Dv K S H (.lst ds) v) : ∃ a xs, v = .ref a ∧ ¬ S a ∧ H a = some (.lst xs) ∧ DvL K S H ds xs := h
theorem dv_dic {K : PySem.W.Frag} {ks : List Key} {ds : List Dat} {v : V} (h : Dv K S H (.dic ks ds) v) : ∃ a kvs, v = .ref a ∧ ¬ S a ∧ H a = some (.dK kvs) ∧ kvs.map (·.1) = ks ∧ DvL K S H ds (kvs.map (·.2)) := h
/-- a new tuple, a new list -/
theorem new_tup {xs : List V} {ds : List Dat} {P : Dat → Prop} {Q : VK} (g : Gd G S σ H ρ) (hv : DvL G.X.K S H ds xs) (hp : P (.tup ds)) (q : ∀ v d H', Stp G H H' → Dv G.X.K S H' d v → P d → Q v H') : ∀ p, H p = none → Q (.ref p) (upd H p (.tup xs)) := fun p np => by
  have st : Stp G H (upd H p (.tup xs)) := Stp.new g.wld np
  exact q _ (.tup ds) _ st ⟨p, xs, rfl, .inl ⟨g.fresh np, upd_same⟩, st.dvl g hv⟩ hp
theorem new_lst {xs : List V} {ds : List Dat} {P : Dat → Prop} {Q : VK} (g : Gd G S σ H ρ) (hv : DvL G.X.K S H ds xs) (hp : P (.lst ds)) (q : ∀ v d H', Stp G H H' → Dv G.X.K S H' d v → P d → Q v H') : ∀ p, H p = none → Q (.ref p) (upd H p (.lst xs)) := fun p np => by
  have st : Stp G H (upd H p (.lst xs)) := Stp.new g.wld np
  exact q _ (.lst ds) _ st ⟨p, xs, rfl, g.fresh np, upd_same, st.dvl g hv⟩ hp

/-! ### + -/
def addD : R2D
  | .int i, .int j, P => P (.int (i + j))
  | .str x, .str y, P => x.length + y.length ≤ sizeLine ∧ P (.str (x ++ y))
  | .lst xs, .lst ys, P => xs.length + ys.length ≤ sizeLine ∧ P (.lst (xs ++ ys))
  | .tup xs, .tup ys, P => xs.length + ys.length ≤ sizeLine ∧ P (.tup (xs ++ ys))
  | _, _, _ => False
theorem serves_add : Serves G (fun x y H Q => (rI0 (fun i j => V.int (i + j)) x y H Q ∨ (∃ i j, x = .str i ∧ y = .str j ∧ i.length + j.length ≤ sizeLine ∧ Q (.str (i ++ j)) H)) ∨ (rCat x y H Q ∨ rCatA G.X.K x y H Q)) addD := by
  intro S σ ρ H x y dx dy P Q g hx hy h q
  cases dx with
  | int i =>
    cases dy with
    | int j => exact .inl (.inl ⟨i, j, hx, hy, q _ (.int (i + j)) H (Stp.refl g.wld) rfl h⟩)
    | _ => exact h.elim
  | str i =>
    cases dy with
    | str j => exact .inl (.inr ⟨i, j, hx, hy, h.1, q _ (.str (i ++ j)) H (Stp.refl g.wld) rfl h.2⟩)
    | _ => exact h.elim
  | lst ds =>
    cases dy with
    | lst es =>
      obtain ⟨a, xs, rfl, n1, e1, v1⟩ := dv_lst hx
      obtain ⟨b, ys, rfl, n2, e2, v2⟩ := dv_lst hy
      exact .inr (.inl ⟨a, b, xs, ys, rfl, rfl, e1, e2, by rw [v1.len, v2.len]; exact h.1, new_lst g (v1.append v2) h.2 q⟩)
    | _ => exact h.elim
  | tup ds =>
    cases dy with
    | tup es =>
      obtain ⟨a, xs, rfl, e1, v1⟩ := dv_tup hx
      obtain ⟨b, ys, rfl, e2, v2⟩ := dv_tup hy
      refine .inr (.inr ⟨a, b, xs, ys, rfl, rfl, sqT_of e1, sqT_of e2, by rw [v1.len, v2.len]; exact h.1, fun z => ?_, fun _ z => ?_, fun _ _ => new_tup g (v1.append v2) h.2 q⟩)
      · subst z
        have e : ds = [] := List.length_eq_zero_iff.mp (by rw [← v1.len]; rfl)
        subst e
        exact q _ (.tup es) H (Stp.refl g.wld) ⟨b, ys, rfl, e2, v2⟩ h.2
      · subst z
        have e : es = [] := List.length_eq_zero_iff.mp (by rw [← v2.len]; rfl)
        subst e
        have h2 := h.2
        rw [List.append_nil] at h2
        exact q _ (.tup ds) H (Stp.refl g.wld) ⟨a, xs, rfl, e1, v1⟩ h2
    | _ => exact h.elim
  | _ => exact h.elim
theorem de_add {a b : Expr} {Fa Fb : FE} (ha : DE G a Fa) (hb : DE G b Fb) : DE G (.BinOp a .Add b pos) (fun ρ P => Fa ρ fun x => Fb ρ fun y => addD x y P) :=
  de_bin (.or (.or op_add op_add_str) (.or op_cat op_catA)) serves_add ha hb
/-! ### ints -/
def intD (f : Int → Int → Dat) (C : Int → Int → Prop) : R2D
  | .int i, .int j, P => C i j ∧ P (f i j)
  | _, _, _ => False
theorem serves_I {C : Int → Int → Prop} {f : Int → Int → Int} : Serves G (rI C fun i j => .int (f i j)) (intD (fun i j => .int (f i j)) C) := by
  intro S σ ρ H x y dx dy P Q g hx hy h q
  cases dx with
  | int i =>
    cases dy with
    | int j => exact ⟨i, j, hx, hy, h.1, q _ (.int (f i j)) H (Stp.refl g.wld) rfl h.2⟩
    | _ => exact h.elim
  | _ => exact h.elim
def int0 (f : Int → Int → Dat) : R2D
  | .int i, .int j, P => P (f i j)
  | _, _, _ => False
theorem serves_I0 {f : Int → Int → Int} : Serves G (rI0 fun i j => .int (f i j)) (int0 (fun i j => .int (f i j))) := by
  intro S σ ρ H x y dx dy P Q g hx hy h q
  cases dx with
  | int i =>
    cases dy with
    | int j => exact ⟨i, j, hx, hy, q _ (.int (f i j)) H (Stp.refl g.wld) rfl h⟩
    | _ => exact h.elim
  | _ => exact h.elim
theorem serves_B0 {f : Int → Int → Bool} : Serves G (rI0 fun i j => .bl (f i j)) (int0 (fun i j => .bl (f i j))) := by
  intro S σ ρ H x y dx dy P Q g hx hy h q
  cases dx with
  | int i =>
    cases dy with
    | int j => exact ⟨i, j, hx, hy, q _ (.bl (f i j)) H (Stp.refl g.wld) rfl h⟩
    | _ => exact h.elim
  | _ => exact h.elim
variable {a b : Expr} {Fa Fb : FE}
theorem de_sub (ha : DE G a Fa) (hb : DE G b Fb) : DE G (.BinOp a .Sub b pos) (fun ρ P => Fa ρ fun x => Fb ρ fun y => int0 (fun i j => .int (i - j)) x y P) := de_bin op_sub serves_I0 ha hb
theorem de_lt (ha : DE G a Fa) (hb : DE G b Fb) : DE G (.Compare a [.Lt] [b] pos) (fun ρ P => Fa ρ fun x => Fb ρ fun y => int0 (fun i j => .bl (decide (i < j))) x y P) := de_cmp op_lt serves_B0 ha hb
theorem de_le (ha : DE G a Fa) (hb : DE G b Fb) : DE G (.Compare a [.LtE] [b] pos) (fun ρ P => Fa ρ fun x => Fb ρ fun y => int0 (fun i j => .bl (decide (i ≤ j))) x y P) := de_cmp op_le serves_B0 ha hb
theorem de_gt (ha : DE G a Fa) (hb : DE G b Fb) : DE G (.Compare a [.Gt] [b] pos) (fun ρ P => Fa ρ fun x => Fb ρ fun y => int0 (fun i j => .bl (decide (j < i))) x y P) := de_cmp op_gt serves_B0 ha hb
theorem de_ge (ha : DE G a Fa) (hb : DE G b Fb) : DE G (.Compare a [.GtE] [b] pos) (fun ρ P => Fa ρ fun x => Fb ρ fun y => int0 (fun i j => .bl (decide (j ≤ i))) x y P) := de_cmp op_ge serves_B0 ha hb
theorem dt_lt (ha : DE G a Fa) (hb : DE G b Fb) : DT G (.Compare a [.Lt] [b] pos) (fun ρ P => Fa ρ fun x => Fb ρ fun y => int0 (fun i j => .bl (decide (i < j))) x y fun z => isB z P) := dt_cmp op_lt serves_B0 ha hb
theorem dt_le (ha : DE G a Fa) (hb : DE G b Fb) : DT G (.Compare a [.LtE] [b] pos) (fun ρ P => Fa ρ fun x => Fb ρ fun y => int0 (fun i j => .bl (decide (i ≤ j))) x y fun z => isB z P) := dt_cmp op_le serves_B0 ha hb
theorem dt_gt (ha : DE G a Fa) (hb : DE G b Fb) : DT G (.Compare a [.Gt] [b] pos) (fun ρ P => Fa ρ fun x => Fb ρ fun y => int0 (fun i j => .bl (decide (j < i))) x y fun z => isB z P) := dt_cmp op_gt serves_B0 ha hb
theorem dt_ge (ha : DE G a Fa) (hb : DE G b Fb) : DT G (.Compare a [.GtE] [b] pos) (fun ρ P => Fa ρ fun x => Fb ρ fun y => int0 (fun i j => .bl (decide (j ≤ i))) x y fun z => isB z P) := dt_cmp op_ge serves_B0 ha hb
/-! ### ==, != -/
mutual
def toP : Dat → PyData
  | .non => .none
  | .bl b => .bool b
  | .int i => .int i
  | .str x => .str x
  | .tup ds => .tuple (toPs ds)
  | .lst ds => .list (toPs ds)
  | .dic _ _ => .dict []
def toPs : List Dat → List PyData
  | [] => []
  | d :: ds => toP d :: toPs ds
end
mutual
theorem dp_of {K : PySem.W.Frag} : ∀ (d : Dat) (v : V), Dv K S H d v → (toP d).canLay0 = true → Dp K H v (toP d)
  | .non, _, h, _ => by cases (h : _ = V.non); exact .non
  | .bl b, _, h, _ => by cases (h : _ = V.bl b); exact .bl b
  | .int b, _, h, _ => by cases (h : _ = V.int b); exact .int b
  | .str b, _, h, _ => by cases (h : _ = V.str b); exact .str b
  | .tup ds, _, h, c => by
    obtain ⟨a, xs, rfl, e1, v1⟩ := dv_tup h
    exact .tup (sqT_of e1) (dps_of ds xs v1 (by rw [toP, PyData.canLay0] at c; exact c))
  | .lst ds, _, h, c => by
    obtain ⟨a, xs, rfl, n, e1, v1⟩ := dv_lst h
    exact .lst (.inl (.inl e1)) (dps_of ds xs v1 (by rw [toP, PyData.canLay0] at c; exact c))
  | .dic _ _, _, _, c => by rw [toP, PyData.canLay0] at c; cases c
theorem dps_of {K : PySem.W.Frag} : ∀ (ds : List Dat) (vs : List V), DvL K S H ds vs → PyData.canLayAll0 (toPs ds) = true → DpAll K H vs (toPs ds)
  | [], _, h, _ => by cases (h : _ = []); exact .nil
  | d :: ds, _, h, c => by
    obtain ⟨v, r, rfl, h1, h2⟩ := (h : ∃ v r, _ = v :: r ∧ Dv K S H d v ∧ DvL K S H ds r)
    rw [toPs, PyData.canLayAll0, Bool.and_eq_true] at c
    exact .cons (dp_of d v h1 c.1) (dps_of ds r h2 c.2)
end
def eqD : R2D
  | .str x, .str y, P => P (.bl (decide (x = y)))
  | .int x, .int y, P => P (.bl (decide (x = y)))
  | .non, .non, P => P (.bl true)
  | .non, .str _, P => P (.bl false)
  | .str _, .non, P => P (.bl false)
  | x, y, P => SeqAt.shaped (toP x) = true ∧ SeqAt.shaped (toP y) = true ∧ P (.bl (PyData.eqv (toP x) (toP y)))
def neD : R2D
  | .str x, .str y, P => P (.bl (!decide (x = y)))
  | .int x, .int y, P => P (.bl (!decide (x = y)))
  | .non, .non, P => P (.bl false)
  | .non, .str _, P => P (.bl true)
  | .str _, .non, P => P (.bl true)
  | x, y, P => SeqAt.shaped (toP x) = true ∧ SeqAt.shaped (toP y) = true ∧ P (.bl (!PyData.eqv (toP x) (toP y)))
theorem dec_str {x y : Str} : decide (V.str x = V.str y) = decide (x = y) := by
  by_cases h : x = y
  · rw [h]; simp
  · rw [decide_eq_false h, decide_eq_false (fun e => h (V.str.inj e))]
theorem dec_int' {x y : Int} : decide (V.int x = V.int y) = decide (x = y) := by
  by_cases h : x = y
  · rw [h]; simp
  · rw [decide_eq_false h, decide_eq_false (fun e => h (V.int.inj e))]
theorem serves_eq : Serves G (fun x y H Q => rEq x y H Q ∨ rEqD G.X.K x y H Q) eqD := by
  intro S σ ρ H x y dx dy P Q g hx hy h q
  unfold eqD at h
  split at h
  · cases dv_str hx; cases dv_str hy
    refine .inl ⟨rfl, ?_⟩
    rw [dec_str]
    exact q _ (.bl _) H (Stp.refl g.wld) rfl h
  · cases dv_int hx; cases dv_int hy
    refine .inl ⟨rfl, ?_⟩
    rw [dec_int']
    exact q _ (.bl _) H (Stp.refl g.wld) rfl h
  · cases (hx : x = V.non); cases (hy : y = V.non)
    exact .inl ⟨rfl, q _ (.bl _) H (Stp.refl g.wld) (by simp [Dv]) h⟩
  · cases (hx : x = V.non); cases dv_str hy
    exact .inl ⟨rfl, q _ (.bl _) H (Stp.refl g.wld) (by simp [Dv]) h⟩
  · cases (hy : y = V.non); cases dv_str hx
    exact .inl ⟨rfl, q _ (.bl _) H (Stp.refl g.wld) (by simp [Dv]) h⟩
  · exact .inr ⟨_, _, dp_of _ _ hx (SeqAt.canLay_of_shaped h.1), dp_of _ _ hy (SeqAt.canLay_of_shaped h.2.1), h.1, h.2.1, q _ (.bl _) H (Stp.refl g.wld) rfl h.2.2⟩
theorem serves_ne : Serves G (fun x y H Q => rNe x y H Q ∨ rNeD G.X.K x y H Q) neD := by
  intro S σ ρ H x y dx dy P Q g hx hy h q
  unfold neD at h
  split at h
  · cases dv_str hx; cases dv_str hy
    refine .inl ⟨rfl, ?_⟩
    rw [dec_str]
    exact q _ (.bl _) H (Stp.refl g.wld) rfl h
  · cases dv_int hx; cases dv_int hy
    refine .inl ⟨rfl, ?_⟩
    rw [dec_int']
    exact q _ (.bl _) H (Stp.refl g.wld) rfl h
  · cases (hx : x = V.non); cases (hy : y = V.non)
    exact .inl ⟨rfl, q _ (.bl _) H (Stp.refl g.wld) (by simp [Dv]) h⟩
  · cases (hx : x = V.non); cases dv_str hy
    exact .inl ⟨rfl, q _ (.bl _) H (Stp.refl g.wld) (by simp [Dv]) h⟩
  · cases (hy : y = V.non); cases dv_str hx
    exact .inl ⟨rfl, q _ (.bl _) H (Stp.refl g.wld) (by simp [Dv]) h⟩
  · exact .inr ⟨_, _, dp_of _ _ hx (SeqAt.canLay_of_shaped h.1), dp_of _ _ hy (SeqAt.canLay_of_shaped h.2.1), h.1, h.2.1, q _ (.bl _) H (Stp.refl g.wld) rfl h.2.2⟩
theorem de_eq (hu : G.X.A.units + 64 < cLine) (ha : DE G a Fa) (hb : DE G b Fb) : DE G (.Compare a [.Eq] [b] pos) (fun ρ P => Fa ρ fun x => Fb ρ fun y => eqD x y P) := de_cmp (.or op_eq (op_eqD hu)) serves_eq ha hb
theorem de_ne (hu : G.X.A.units + 64 < cLine) (ha : DE G a Fa) (hb : DE G b Fb) : DE G (.Compare a [.NotEq] [b] pos) (fun ρ P => Fa ρ fun x => Fb ρ fun y => neD x y P) := de_cmp (.or op_ne (op_neD hu)) serves_ne ha hb
theorem dt_eq (hu : G.X.A.units + 64 < cLine) (ha : DE G a Fa) (hb : DE G b Fb) : DT G (.Compare a [.Eq] [b] pos) (fun ρ P => Fa ρ fun x => Fb ρ fun y => eqD x y fun z => isB z P) := dt_cmp (.or op_eq (op_eqD hu)) serves_eq ha hb
theorem dt_ne (hu : G.X.A.units + 64 < cLine) (ha : DE G a Fa) (hb : DE G b Fb) : DT G (.Compare a [.NotEq] [b] pos) (fun ρ P => Fa ρ fun x => Fb ρ fun y => neD x y fun z => isB z P) := dt_cmp (.or op_ne (op_neD hu)) serves_ne ha hb
/-! ### is None -/
def isN : Dat → Bool
  | .non => true
  | _ => false
theorem isN_of {K : PySem.W.Frag} {d : Dat} {v : V} (h : Dv K S H d v) : decide (v = .non) = isN d := by
  cases d with
  | non => cases (h : v = .non); rfl
  | bl b => cases (h : v = .bl b); rfl
  | int b => cases (h : v = .int b); rfl
  | str b => cases (h : v = .str b); rfl
  | tup ds => obtain ⟨a, xs, rfl, _⟩ := dv_tup h; rfl
  | lst ds => obtain ⟨a, xs, rfl, _⟩ := dv_lst h; rfl
  | dic ks ds => obtain ⟨a, xs, rfl, _⟩ := dv_dic h; rfl
theorem de_isN {j pos'} (ha : DE G a Fa) : DE G (.Compare a [.Is] [.Constant .none j pos'] pos) (fun ρ P => Fa ρ fun x => P (.bl (isN x))) := by
  obtain ⟨t, h, l⟩ := ha.ex
  refine ⟨⟨_, pe_cmp (pc_isN h), fun S σ H ρ P Q g h q => ?_⟩⟩
  refine l S σ H ρ _ _ g h fun v d H1 st hv hp => ?_
  rw [isN_of hv]
  exact q _ (.bl (isN d)) H1 st rfl hp
theorem de_notN {j pos'} (ha : DE G a Fa) : DE G (.Compare a [.IsNot] [.Constant .none j pos'] pos) (fun ρ P => Fa ρ fun x => P (.bl (!isN x))) := by
  obtain ⟨t, h, l⟩ := ha.ex
  refine ⟨⟨_, pe_cmp (pc_notN h), fun S σ H ρ P Q g h q => ?_⟩⟩
  refine l S σ H ρ _ _ g h fun v d H1 st hv hp => ?_
  rw [isN_of hv]
  exact q _ (.bl (!isN d)) H1 st rfl hp
theorem dt_isN {j pos'} (ha : DE G a Fa) : DT G (.Compare a [.Is] [.Constant .none j pos'] pos) (fun ρ P => Fa ρ fun x => P (isN x)) := by
  obtain ⟨t, h, l⟩ := ha.ex
  refine ⟨⟨_, pt_cmp (pc_isN h), fun S σ H ρ P Q g h q => ?_⟩⟩
  refine l S σ H ρ _ _ g h fun v d H1 st hv hp => ?_
  rw [isN_of hv]
  exact ⟨_, rfl, q _ H1 st hp⟩
theorem dt_notN {j pos'} (ha : DE G a Fa) : DT G (.Compare a [.IsNot] [.Constant .none j pos'] pos) (fun ρ P => Fa ρ fun x => P (!isN x)) := by
  obtain ⟨t, h, l⟩ := ha.ex
  refine ⟨⟨_, pt_cmp (pc_notN h), fun S σ H ρ P Q g h q => ?_⟩⟩
  refine l S σ H ρ _ _ g h fun v d H1 st hv hp => ?_
  rw [isN_of hv]
  exact ⟨_, rfl, q _ H1 st hp⟩
/-! ### type(x) == T -/
def tyName : Dat → String
  | .non => "NoneType"
  | .bl _ => "bool"
  | .int _ => "int"
  | .str _ => "str"
  | .tup _ => "tuple"
  | .lst _ => "list"
  | .dic _ _ => "dict"
theorem tyIs {X : Cx} {pins : List (Addr × Obj)} {s : Shared} {d : Dat} {v : V} {u : Value} (I : Inv X pins σ H s) (h : Dv X.K S H d v) (r : RelV v u) : s.TypeIs u (tyName d) := by
  cases d with
  | non => cases (h : v = .non); cases r; exact rfl
  | bl b => cases (h : v = .bl b); cases r; exact rfl
  | int b => cases (h : v = .int b); obtain ⟨t, rfl⟩ := r; exact typeIs_int s b t
  | str b => cases (h : v = .str b); obtain ⟨t, rfl⟩ := r; exact typeIs_str s b t
  | tup ds =>
    obtain ⟨a, xs, rfl, e, _⟩ := dv_tup h
    cases r
    obtain ⟨its, rv, p, _⟩ := I.tuple (sqT_of e)
    exact p.typeIs
  | lst ds =>
    obtain ⟨a, xs, rfl, n, e, _⟩ := dv_lst h
    cases r
    obtain ⟨its, rv, p, _⟩ := I.list (.inl (.inl e))
    exact p.isList.typeIs
  | dic ks ds =>
    obtain ⟨a, xs, rfl, n, e, _⟩ := dv_dic h
    cases r
    obtain ⟨_, _, vs, _, p⟩ := I.hok a _ e
    exact p.typeIs
def metas : List String := ["NoneType", "bool", "int", "str", "tuple", "list", "dict"]
theorem meta_ty {T : String} (h : T ∈ metas) (s : Shared) : s.TypeIs (.type T) "type" := by
  simp only [metas, List.mem_cons, List.not_mem_nil, or_false] at h
  rcases h with rfl | rfl | rfl | rfl | rfl | rfl | rfl <;> (show typeOf _ = pure (Value.type "type"); kernel_rfl)
theorem metas_nodup {T U : String} (h : T ∈ metas) (k : U ∈ metas) (n : T ≠ U) : (Value.type T == Value.type U) = false := by
  simp only [metas, List.mem_cons, List.not_mem_nil, or_false] at h k
  rcases h with rfl | rfl | rfl | rfl | rfl | rfl | rfl <;> rcases k with rfl | rfl | rfl | rfl | rfl | rfl | rfl <;> first | exact absurd rfl n | decide +kernel
theorem tyName_mem (d : Dat) : tyName d ∈ metas := by cases d <;> simp [tyName, metas]
def rTyD (K : PySem.W.Frag) : List V → Hp → VK → Prop := fun xs H Q => ∃ (x : V) (S : Addr → Prop) (d : Dat), xs = [x] ∧ Dv K S H d x ∧ Q (.ty (tyName d)) H
theorem call_tyD {X : Cx} : CallR X (.type "type") (rTyD X.K) := by
  intro pins s σ H xs us Q I r h
  obtain ⟨x, S, d, rfl, t, q⟩ := h
  obtain ⟨u, rfl, rx⟩ := vals1 r
  exact call_type_of (tyIs I t rx) (by cases d <;> (show (Value.type _ == Value.type _) = false; simp only [tyName]; decide +kernel)) ⟨.ty _, H, I, rfl, q⟩
def rTyEq : R2 := fun x y H Q => ∃ a b, x = .ty a ∧ y = .ty b ∧ a ∈ metas ∧ b ∈ metas ∧ Q (.bl (decide (a = b))) H
theorem op_tyEq {X : Cx} : OpR X (compareOp .Eq) rTyEq := by
  intro pins s σ H x y v u Q I rx ry h
  obtain ⟨a, b, rfl, rfl, ma, mb, q⟩ := h
  cases (show v = Value.type a from rx)
  cases (show u = Value.type b from ry)
  by_cases e : a = b
  · subst e
    exact TypeEq.eq_type_same (meta_ty ma) ⟨.bl true, H, I, rfl, by simpa using q⟩
  · exact TypeEq.eq_type_other (meta_ty ma) (meta_ty mb) (metas_nodup ma mb e) ⟨.bl false, H, I, rfl, by simpa [e] using q⟩
theorem lift_tyEq {te : TE} {F : FE} {T : String} (hT : T ∈ metas) (l : LiftE G te F) : LiftE G (tOp rTyEq (tCB (rTyD G.X.K) (tCons te tNil)) (tC (.ty T))) (fun ρ P => F ρ fun x => P (.bl (decide (tyName x = T)))) := by
  intro S σ H ρ P Q g h q
  refine l S σ H ρ _ _ g h fun v d H1 st hv hp => ?_
  exact ⟨v, S, d, rfl, hv, _, _, rfl, rfl, tyName_mem d, hT, q _ (.bl _) H1 st rfl hp⟩
theorem de_type {e : Expr} {F : FE} {T : Str} {TT : String} {p1 p2 p3 p4 : Pos} (hT : TT ∈ metas := by decide) (he : DE G e F) (hg : Gl G.X "type" := by rfl) (hm : G.X.mg "type" = none) (hgT : Gl G.X T := by rfl) (hmT : G.X.mg T = none) (hv : bootBuiltins T = some (.type TT)) (hn : T ≠ "__name__") (hd : (T == ("__debug__" : Str)) = false)
    (hs : starEach [e] G.X.env = (false, eval e G.X.env) :: starEach [] G.X.env := by rfl) :
    DE G (.Compare (.Call (.Name "type" p1) [e] [] p2) [.Eq] [.Name T p3] p4) (fun ρ P => F ρ fun x => P (.bl (decide (tyName x = TT)))) := by
  obtain ⟨t, h, l⟩ := he.ex
  exact ⟨⟨_, pe_cmpR op_tyEq (pe_callTy call_tyD hg hm (by decide +kernel) (pa_cons h pa_nil hs) (he := hs)) (pe_bltn (v := V.ty TT) hgT hmT hv rfl hn hd) (nobehind _ (by decide) (by decide)), lift_tyEq hT l⟩⟩
theorem dt_type {e : Expr} {F : FE} {T : Str} {TT : String} {p1 p2 p3 p4 : Pos} (hT : TT ∈ metas := by decide) (he : DE G e F) (hg : Gl G.X "type" := by rfl) (hm : G.X.mg "type" = none) (hgT : Gl G.X T := by rfl) (hmT : G.X.mg T = none) (hv : bootBuiltins T = some (.type TT)) (hn : T ≠ "__name__") (hd : (T == ("__debug__" : Str)) = false)
    (hs : starEach [e] G.X.env = (false, eval e G.X.env) :: starEach [] G.X.env := by rfl) :
    DT G (.Compare (.Call (.Name "type" p1) [e] [] p2) [.Eq] [.Name T p3] p4) (fun ρ P => F ρ fun x => P (decide (tyName x = TT))) := by
  obtain ⟨t, h, l⟩ := he.ex
  refine ⟨⟨_, pt_cmpR op_tyEq (pe_callTy call_tyD hg hm (by decide +kernel) (pa_cons h pa_nil hs) (he := hs)) (pe_bltn (v := V.ty TT) hgT hmT hv rfl hn hd) (nobehind _ (by decide) (by decide)), fun S σ H ρ P Q g h q => ?_⟩⟩
  exact lift_tyEq hT l S σ H ρ (fun z => isB z P) _ g h fun v d H1 st hv hp => by
    obtain ⟨b, rfl, hp⟩ := isB_inv hp
    exact ⟨b, hv, q b H1 st hp⟩
end
end DL
namespace DL
open PySem PySem.Spec PyProof.Rows L2
section
variable {G : Ctx} {S S' : Addr → Prop} {σ : L2.St} {H H' : Hp} {ρ : List Slot} {pos : Pos} {a b : Expr} {Fa Fb : FE}
/-! ### in, not in -/
def strsOf : List Dat → Option (List Str)
  | [] => some []
  | .str x :: r => (strsOf r).map (x :: ·)
  | _ :: _ => none
theorem strsOf_eq : ∀ {ds : List Dat} {zs : List Str}, strsOf ds = some zs → ds = zs.map Dat.str
  | [], zs, h => by cases h; rfl
  | .str x :: r, zs, h => by
    unfold strsOf at h
    cases e : strsOf r with
    | none => rw [e] at h; cases h
    | some ys =>
      rw [e] at h
      cases h
      rw [strsOf_eq e]; rfl
  | .non :: _, _, h => by cases h
  | .bl _ :: _, _, h => by cases h
  | .int _ :: _, _, h => by cases h
  | .tup _ :: _, _, h => by cases h
  | .lst _ :: _, _, h => by cases h
  | .dic _ _ :: _, _, h => by cases h
theorem inV_str (x : Str) : ∀ (zs : List Str), inV (.str x) (zs.map V.str) = decide (x ∈ zs)
  | [] => by simp [inV]
  | z :: zs => by
    have ih := inV_str x zs
    unfold inV at ih ⊢
    rw [List.map_cons, List.any_cons, ih]
    by_cases h : x = z
    · subst h; simp [eqV]
    · have h2 : (z == x) = false := beq_eq_false_iff_ne.mpr (fun e => h e.symm)
      simp [eqV, h2, h]
theorem flat_strs : ∀ (zs : List Str), (zs.map V.str).all flatV = true
  | [] => rfl
  | z :: zs => by rw [List.map_cons, List.all_cons, flat_strs zs]; rfl
def inOf (neg : Bool) (x : Str) (ds : List Dat) (P : Dat → Prop) : Prop := match strsOf ds with
  | some zs => P (.bl (if neg then !decide (x ∈ zs) else decide (x ∈ zs)))
  | none => False
def inD (neg : Bool) : R2D
  | .str x, .tup ds, P => inOf neg x ds P
  | .str x, .lst ds, P => inOf neg x ds P
  | _, _, _ => False
theorem inOf_inv {neg : Bool} {x : Str} {ds : List Dat} {P : Dat → Prop} (h : inOf neg x ds P) : ∃ zs : List Str, ds = zs.map Dat.str ∧ P (.bl (if neg then !decide (x ∈ zs) else decide (x ∈ zs))) := by
  unfold inOf at h
  split at h
  · rename_i zs e; exact ⟨zs, strsOf_eq e, h⟩
  · exact h.elim
theorem serves_in {neg : Bool} : Serves G (rIn G.X.K neg) (inD neg) := by
  intro S σ ρ H x y dx dy P Q g hx hy h q
  cases dx with
  | str z =>
    cases dv_str hx
    cases dy with
    | tup ds =>
      obtain ⟨zs, rfl, hp⟩ := inOf_inv h
      obtain ⟨a, xs, rfl, e, v⟩ := dv_tup hy
      rw [v.strs] at e
      refine ⟨a, zs.map V.str, rfl, .inr (sqT_of e), rfl, flat_strs zs, ?_⟩
      rw [inV_str]
      exact q _ (.bl _) H (Stp.refl g.wld) rfl hp
    | lst ds =>
      obtain ⟨zs, rfl, hp⟩ := inOf_inv h
      obtain ⟨a, xs, rfl, n, e, v⟩ := dv_lst hy
      rw [v.strs] at e
      refine ⟨a, zs.map V.str, rfl, .inl (.inl (.inl e)), rfl, flat_strs zs, ?_⟩
      rw [inV_str]
      exact q _ (.bl _) H (Stp.refl g.wld) rfl hp
    | _ => exact h.elim
  | _ => exact h.elim
theorem de_in (ha : DE G a Fa) (hb : DE G b Fb) (hm : behindInMarks .In b = false := by rfl) : DE G (.Compare a [.In] [b] pos) (fun ρ P => Fa ρ fun x => Fb ρ fun y => inD false x y P) := de_cmp op_in_seq serves_in ha hb hm
theorem de_nin (ha : DE G a Fa) (hb : DE G b Fb) (hm : behindInMarks .NotIn b = false := by rfl) : DE G (.Compare a [.NotIn] [b] pos) (fun ρ P => Fa ρ fun x => Fb ρ fun y => inD true x y P) := de_cmp op_notIn_seq serves_in ha hb hm
theorem dt_in (ha : DE G a Fa) (hb : DE G b Fb) (hm : behindInMarks .In b = false := by rfl) : DT G (.Compare a [.In] [b] pos) (fun ρ P => Fa ρ fun x => Fb ρ fun y => inD false x y fun z => isB z P) := dt_cmp op_in_seq serves_in ha hb hm
theorem dt_nin (ha : DE G a Fa) (hb : DE G b Fb) (hm : behindInMarks .NotIn b = false := by rfl) : DT G (.Compare a [.NotIn] [b] pos) (fun ρ P => Fa ρ fun x => Fb ρ fun y => inD true x y fun z => isB z P) := dt_cmp op_notIn_seq serves_in ha hb hm

/-! ### subscripts, slices -/
def someD {α : Type} (o : Option α) (P : α → Prop) : Prop := match o with
  | some x => P x
  | none => False
theorem someD_inv {α : Type} {o : Option α} {P : α → Prop} (h : someD o P) : ∃ x, o = some x ∧ P x := by
  cases o with
  | none => exact h.elim
  | some x => exact ⟨x, rfl, h⟩
def ixD : R2D
  | .tup ds, .int i, P => someD (atI ds i) P
  | .lst ds, .int i, P => someD (atI ds i) P
  | .str z, .int i, P => z.length ≤ sizeLine ∧ someD (atI z.cps.toList i) fun c => P (.str ⟨#[c]⟩)
  | _, _, _ => False
theorem atI_dv {K : PySem.W.Frag} {ds : List Dat} {xs : List V} {i : Int} {d : Dat} (v : DvL K S H ds xs) (h : atI ds i = some d) : ∃ x, atI xs i = some x ∧ Dv K S H d x := by
  unfold atI at h ⊢
  rw [v.len]
  cases e : ixN ds.length i with
  | none => rw [e] at h; cases h
  | some j =>
    rw [e] at h
    exact v.get h
theorem serves_ix : Serves G (fun x y H Q => (rIxL G.X.K x y H Q ∨ rIxT G.X.K x y H Q) ∨ rIxS x y H Q) ixD := by
  intro S σ ρ H x y dx dy P Q g hx hy h q
  cases dy with
  | int i =>
    cases dv_int hy
    cases dx with
    | tup ds =>
      obtain ⟨d, e, hp⟩ := someD_inv h
      obtain ⟨a, xs, rfl, e1, v⟩ := dv_tup hx
      obtain ⟨z, ez, hz⟩ := atI_dv v e
      exact .inl (.inr ⟨a, xs, i, z, rfl, rfl, sqT_of e1, ez, q z d H (Stp.refl g.wld) hz hp⟩)
    | lst ds =>
      obtain ⟨d, e, hp⟩ := someD_inv h
      obtain ⟨a, xs, rfl, n, e1, v⟩ := dv_lst hx
      obtain ⟨z, ez, hz⟩ := atI_dv v e
      exact .inl (.inl ⟨a, xs, i, z, rfl, rfl, .inl (.inl e1), ez, q z d H (Stp.refl g.wld) hz hp⟩)
    | str z =>
      cases dv_str hx
      obtain ⟨d, e, hp⟩ := someD_inv h.2
      exact .inr ⟨z, i, d, rfl, rfl, h.1, e, q _ (.str _) H (Stp.refl g.wld) rfl hp⟩
    | _ => exact h.elim
  | _ => cases dx <;> exact h.elim
theorem de_ix (ha : DE G a Fa) (hb : DE G b Fb) (hs : PlainIx b := by exact fun _ _ => rfl) : DE G (.Subscript a b pos) (fun ρ P => Fa ρ fun x => Fb ρ fun y => ixD x y P) := by
  obtain ⟨ta, h1, l1⟩ := ha.ex
  obtain ⟨tb, h2, l2⟩ := hb.ex
  exact ⟨⟨_, pe_ix (.or (.or ix_list ix_tup) ix_str) h1 h2 hs, lift_op serves_ix l1 l2⟩⟩
abbrev FO := List Slot → (Option Int → Prop) → Prop
def LiftO (G : Ctx) (t : TO) (F : FO) : Prop := ∀ S σ H ρ P (Q : Option Int → Hp → Prop), Gd G S σ H ρ → F ρ P → (∀ b H', Stp G H H' → P b → Q b H') → t σ H Q
structure DO (G : Ctx) (e : Option Expr) (F : FO) : Prop where
  ex : ∃ t, PO G.X e t ∧ LiftO G t F
theorem do_none : DO G none (fun _ P => P none) := ⟨⟨_, po_none, fun _ _ H _ _ _ g h q => q none H (Stp.refl g.wld) h⟩⟩
def isI (d : Dat) (P : Int → Prop) : Prop := match d with
  | .int b => P b
  | _ => False
theorem isI_inv {d : Dat} {P : Int → Prop} (h : isI d P) : ∃ b, d = .int b ∧ P b := by
  unfold isI at h
  split at h
  · exact ⟨_, rfl, h⟩
  · exact h.elim
theorem do_some (ha : DE G a Fa) : DO G (some a) (fun ρ P => Fa ρ fun x => isI x fun i => P (some i)) := by
  obtain ⟨t, h, l⟩ := ha.ex
  refine ⟨⟨_, po_some h, fun S σ H ρ P Q g h q => ?_⟩⟩
  refine l S σ H ρ _ _ g h fun v d H1 st hv hp => ?_
  obtain ⟨i, rfl, hp⟩ := isI_inv hp
  exact ⟨i, hv, q _ H1 st hp⟩
def cutG {α : Type} (xs : List α) (lo hi : Option Int) : List α := (xs.drop (HT.sIx xs.length 0 lo)).take (HT.sIx xs.length xs.length hi - HT.sIx xs.length 0 lo)
def slD (x : Dat) (lo hi : Option Int) (P : Dat → Prop) : Prop := match x with
  | .tup ds => P (.tup (cutG ds lo hi))
  | .lst ds => P (.lst (cutG ds lo hi))
  | .str z => z.length ≤ sizeLine ∧ P (.str (cutS z lo hi))
  | _ => False
theorem cut_dv {K : PySem.W.Frag} {ds : List Dat} {xs : List V} (v : DvL K S H ds xs) (lo hi : Option Int) : DvL K S H (cutG ds lo hi) (cutV xs lo hi) := by
  unfold cutG cutV
  rw [v.len]
  exact (v.drop _).take _
theorem de_sl {lo hi : Option Expr} {p2 : Pos} {Fl Fh : FO} (ha : DE G a Fa) (hl : DO G lo Fl) (hh : DO G hi Fh) : DE G (.Subscript a (.Slice lo hi none p2) pos) (fun ρ P => Fa ρ fun x => Fl ρ fun l => Fh ρ fun u => slD x l u P) := by
  obtain ⟨t, h, l⟩ := ha.ex
  obtain ⟨t1, h1, l1⟩ := hl.ex
  obtain ⟨t2, h2, l2⟩ := hh.ex
  refine ⟨⟨_, pe_slice (.or (.or sl_list sl_tupA) sl_str) h h1 h2, fun S σ H ρ P Q g h q => ?_⟩⟩
  refine l S σ H ρ _ _ g h fun v d H1 st hv hp => ?_
  have g1 := g.step st
  refine l1 S σ H1 ρ _ _ g1 hp fun lo H2 st2 hp => ?_
  have g2 := g1.step st2
  refine l2 S σ H2 ρ _ _ g2 hp fun hi H3 st3 hp => ?_
  have g3 := g2.step st3
  have hv3 := st3.dv g2 (st2.dv g1 hv)
  have q' : ∀ v d H', Stp G H3 H' → Dv G.X.K S H' d v → P d → Q v H' := fun v d H' s4 => q v d H' (((st.trans st2).trans st3).trans s4)
  cases d with
  | tup ds =>
    obtain ⟨a, xs, rfl, e, v⟩ := dv_tup hv3
    refine .inl (.inr ⟨a, xs, rfl, sqT_of e, fun w => ?_, fun _ => new_tup g3 (cut_dv v lo hi) hp q'⟩)
    have ec : cutG ds lo hi = ds := by
      unfold cutG
      rw [← v.len, w.1, w.2, List.drop_zero, Nat.sub_zero, v.len, List.take_length]
    have hp' : P (.tup ds) := by
      have hp2 : P (.tup (cutG ds lo hi)) := hp
      rw [ec] at hp2; exact hp2
    exact q' _ (.tup ds) H3 (Stp.refl g3.wld) ⟨a, xs, rfl, e, v⟩ hp'
  | lst ds =>
    obtain ⟨a, xs, rfl, n, e, v⟩ := dv_lst hv3
    exact .inl (.inl ⟨a, xs, rfl, .inl (.inl e), new_lst g3 (cut_dv v lo hi) hp q'⟩)
  | str z =>
    cases dv_str hv3
    exact .inr ⟨z, rfl, hp.1, q' _ (.str _) H3 (Stp.refl g3.wld) rfl hp.2⟩
  | _ => exact hp.elim

/-! ### calls of built-ins by what their arguments stand for -/
abbrev RCD := List Dat → (Dat → Prop) → Prop
def ServesC (G : Ctx) (r : List V → Hp → VK → Prop) (D : RCD) : Prop := ∀ S σ ρ H vs ds P (Q : VK), Gd G S σ H ρ → DvL G.X.K S H ds vs → D ds P → (∀ v d H', Stp G H H' → Dv G.X.K S H' d v → P d → Q v H') → r vs H Q
theorem lift_cb {r : List V → Hp → VK → Prop} {D : RCD} {t : TA} {Fs : FA} (hr : ServesC G r D) (l : LiftA G t Fs) : LiftE G (tCB r t) (fun ρ P => Fs ρ fun ds => D ds P) := by
  intro S σ H ρ P Q g h q
  refine l S σ H ρ _ _ g h fun vs ds H1 st hv hp => ?_
  exact hr S σ ρ H1 vs ds P Q (g.step st) hv hp fun v d H2 st2 => q v d H2 (st.trans st2)
theorem de_cb {id : String} {r : List V → Hp → VK → Prop} {D : RCD} {x : Str} {p : Pos} {e : Expr} {es : List Expr} {Fs : FA} (hc : CallR G.X (.builtin id) r) (hr : ServesC G r D) (hm : G.X.mg x = none) (hv : bootBuiltins x = some (.builtin id)) (ha : DA G (e :: es) Fs) (hg : Gl G.X x := by rfl)
    (hn : x ≠ "__name__" := by decide) (hdb : (x == ("__debug__" : Str)) = false := by decide) (he : starEach (e :: es) G.X.env = (false, eval e G.X.env) :: starEach es G.X.env := by rfl) (hpl : (backTo pos (starEach es G.X.env)).any (·.1) = false := by rfl) :
    DE G (.Call (.Name x p) (e :: es) [] pos) (fun ρ P => Fs ρ fun ds => D ds P) := by
  obtain ⟨t, h, l⟩ := ha.ex
  exact ⟨⟨_, pe_callB hc hg hm hv h hn hdb he hpl, lift_cb hr l⟩⟩
theorem de_ct {T : String} {r : List V → Hp → VK → Prop} {D : RCD} {x : Str} {p : Pos} {e : Expr} {es : List Expr} {Fs : FA} (hc : CallR G.X (.type T) r) (hr : ServesC G r D) (hm : G.X.mg x = none) (hv : bootBuiltins x = some (.type T)) (ha : DA G (e :: es) Fs) (hg : Gl G.X x := by rfl)
    (hn : x ≠ "__name__" := by decide) (hdb : (x == ("__debug__" : Str)) = false := by decide) (he : starEach (e :: es) G.X.env = (false, eval e G.X.env) :: starEach es G.X.env := by rfl) (hpl : (backTo pos (starEach es G.X.env)).any (·.1) = false := by rfl) :
    DE G (.Call (.Name x p) (e :: es) [] pos) (fun ρ P => Fs ρ fun ds => D ds P) := by
  obtain ⟨t, h, l⟩ := ha.ex
  exact ⟨⟨_, pe_callTy hc hg hm hv h hn hdb he hpl, lift_cb hr l⟩⟩
theorem dvl1 {K : PySem.W.Frag} {d : Dat} {vs : List V} (h : DvL K S H [d] vs) : ∃ v, vs = [v] ∧ Dv K S H d v := by
  obtain ⟨v, r, rfl, h1, h2⟩ := (h : ∃ v r, vs = v :: r ∧ Dv K S H d v ∧ DvL K S H [] r)
  cases (h2 : r = [])
  exact ⟨v, rfl, h1⟩
theorem dvl2 {K : PySem.W.Frag} {d e : Dat} {vs : List V} (h : DvL K S H [d, e] vs) : ∃ v w, vs = [v, w] ∧ Dv K S H d v ∧ Dv K S H e w := by
  obtain ⟨v, r, rfl, h1, h2⟩ := (h : ∃ v r, vs = v :: r ∧ Dv K S H d v ∧ DvL K S H [e] r)
  obtain ⟨w, rfl, h3⟩ := dvl1 h2
  exact ⟨v, w, rfl, h1, h3⟩
def lenD : RCD
  | [.str x], P => x.length ≤ sizeLine ∧ P (.int (x.length : Nat))
  | [.tup x], P => P (.int (x.length : Nat))
  | [.lst x], P => P (.int (x.length : Nat))
  | _, _ => False
theorem serves_len : ServesC G (fun xs H Q => ∃ x n, xs = [x] ∧ LenV G.X.K x H n ∧ Q (.int n) H) lenD := by
  intro S σ ρ H vs ds P Q g hv h q
  unfold lenD at h
  split at h
  · obtain ⟨v, rfl, h1⟩ := dvl1 hv
    cases dv_str h1
    exact ⟨_, _, rfl, ⟨h.1, rfl⟩, q _ (.int _) H (Stp.refl g.wld) rfl h.2⟩
  · obtain ⟨v, rfl, h1⟩ := dvl1 hv
    obtain ⟨a, xs, rfl, e, hl⟩ := dv_tup h1
    exact ⟨_, _, rfl, .inr ⟨xs, sqT_of e, rfl⟩, q _ (.int _) H (Stp.refl g.wld) (by rw [hl.len]; rfl) h⟩
  · obtain ⟨v, rfl, h1⟩ := dvl1 hv
    obtain ⟨a, xs, rfl, n, e, hl⟩ := dv_lst h1
    exact ⟨_, _, rfl, .inl ⟨xs, .inl (.inl e), rfl⟩, q _ (.int _) H (Stp.refl g.wld) (by rw [hl.len]; rfl) h⟩
  · exact h.elim
theorem de_len {p : Pos} {Fs : FA} (hm : G.X.mg "len" = none) (ha : DA G [a] Fs) (hg : Gl G.X "len" := by rfl) (he : starEach [a] G.X.env = (false, eval a G.X.env) :: starEach [] G.X.env := by rfl) : DE G (.Call (.Name "len" p) [a] [] pos) (fun ρ P => Fs ρ fun ds => lenD ds P) := de_cb call_len serves_len hm PySem.boot_len ha hg (he := he)
def minD : RCD
  | [.int i, .int j], P => P (.int (if j < i then j else i))
  | _, _ => False
theorem serves_min2 : ServesC G (fun xs H Q => ∃ i j, xs = [.int i, .int j] ∧ Q (.int (if j < i then j else i)) H) minD := by
  intro S σ ρ H vs ds P Q g hv h q
  unfold minD at h
  split at h
  · obtain ⟨v, w, rfl, h1, h2⟩ := dvl2 hv
    cases dv_int h1; cases dv_int h2
    exact ⟨_, _, rfl, q _ (.int _) H (Stp.refl g.wld) rfl h⟩
  · exact h.elim
theorem de_min2 {p : Pos} {Fs : FA} (hc : G.X.calm = true) (hm : G.X.mg "min" = none) (ha : DA G [a, b] Fs) (hg : Gl G.X "min" := by rfl) (he : starEach [a, b] G.X.env = (false, eval a G.X.env) :: starEach [b] G.X.env := by rfl) (hpl : (backTo pos (starEach [b] G.X.env)).any (·.1) = false := by rfl) : DE G (.Call (.Name "min" p) [a, b] [] pos) (fun ρ P => Fs ρ fun ds => minD ds P) := de_cb (call_min2 hc) serves_min2 hm (by decide +kernel) ha hg (he := he) (hpl := hpl)
def strD : RCD
  | [.int i], P => i.natAbs.log2 < 1920 ∧ P (.str (toString i))
  | _, _ => False
theorem serves_str : ServesC G (fun xs H Q => ∃ i, xs = [.int i] ∧ i.natAbs.log2 < 1920 ∧ Q (.str (toString i)) H) strD := by
  intro S σ ρ H vs ds P Q g hv h q
  unfold strD at h
  split at h
  · obtain ⟨v, rfl, h1⟩ := dvl1 hv
    cases dv_int h1
    exact ⟨_, rfl, h.1, q _ (.str _) H (Stp.refl g.wld) rfl h.2⟩
  · exact h.elim
theorem de_strI {p : Pos} {Fs : FA} (hm : G.X.mg "str" = none) (ha : DA G [a] Fs) (hg : Gl G.X "str" := by rfl) (he : starEach [a] G.X.env = (false, eval a G.X.env) :: starEach [] G.X.env := by rfl) : DE G (.Call (.Name "str" p) [a] [] pos) (fun ρ P => Fs ρ fun ds => strD ds P) := de_ct call_str_int serves_str hm (by decide +kernel) ha hg (he := he)
def listD : RCD
  | [.tup x], P => P (.lst x)
  | [.lst x], P => P (.lst x)
  | _, _ => False
theorem serves_list : ServesC G (fun xs H Q => ∃ p ys, xs = [.ref p] ∧ (SqL G.X.K H p ys ∨ SqT G.X.K H p ys) ∧ ∀ l, H l = none → Q (.ref l) (upd H l (.lst ys))) listD := by
  intro S σ ρ H vs ds P Q g hv h q
  unfold listD at h
  split at h
  · obtain ⟨v, rfl, h1⟩ := dvl1 hv
    obtain ⟨a, xs, rfl, e, hl⟩ := dv_tup h1
    exact ⟨_, _, rfl, .inr (sqT_of e), new_lst g hl h q⟩
  · obtain ⟨v, rfl, h1⟩ := dvl1 hv
    obtain ⟨a, xs, rfl, n, e, hl⟩ := dv_lst h1
    exact ⟨_, _, rfl, .inl (.inl (.inl e)), new_lst g hl h q⟩
  · exact h.elim
theorem de_list {p : Pos} {Fs : FA} (hm : G.X.mg "list" = none) (ha : DA G [a] Fs) (hg : Gl G.X "list" := by rfl) (he : starEach [a] G.X.env = (false, eval a G.X.env) :: starEach [] G.X.env := by rfl) : DE G (.Call (.Name "list" p) [a] [] pos) (fun ρ P => Fs ρ fun ds => listD ds P) := de_ct call_list_of serves_list hm (by decide +kernel) ha hg (he := he)
def tupleD : RCD
  | [.tup x], P => P (.tup x)
  | [.lst x], P => P (.tup x)
  | _, _ => False
theorem serves_tuple : ServesC G (fun xs H Q => ∃ p ys, xs = [.ref p] ∧ ((SqL G.X.K H p ys ∧ ∀ l, H l = none → Q (.ref l) (upd H l (.tup ys))) ∨ (SqT G.X.K H p ys ∧ Q (.ref p) H))) tupleD := by
  intro S σ ρ H vs ds P Q g hv h q
  unfold tupleD at h
  split at h
  · obtain ⟨v, rfl, h1⟩ := dvl1 hv
    obtain ⟨a, xs, rfl, e, hl⟩ := dv_tup h1
    exact ⟨_, _, rfl, .inr ⟨sqT_of e, q _ (.tup _) H (Stp.refl g.wld) ⟨a, xs, rfl, e, hl⟩ h⟩⟩
  · obtain ⟨v, rfl, h1⟩ := dvl1 hv
    obtain ⟨a, xs, rfl, n, e, hl⟩ := dv_lst h1
    exact ⟨_, _, rfl, .inl ⟨.inl (.inl e), new_tup g hl h q⟩⟩
  · exact h.elim
theorem de_tuple {p : Pos} {Fs : FA} (hm : G.X.mg "tuple" = none) (ha : DA G [a] Fs) (hg : Gl G.X "tuple" := by rfl) (he : starEach [a] G.X.env = (false, eval a G.X.env) :: starEach [] G.X.env := by rfl) : DE G (.Call (.Name "tuple" p) [a] [] pos) (fun ρ P => Fs ρ fun ds => tupleD ds P) := de_ct call_tuple_of serves_tuple hm (by decide +kernel) ha hg (he := he)
def blsOf : List Dat → Option (List Bool)
  | [] => some []
  | .bl x :: r => (blsOf r).map (x :: ·)
  | _ :: _ => none
theorem blsOf_vals {K : PySem.W.Frag} : ∀ {ds : List Dat} {zs : List Bool} {vs : List V}, blsOf ds = some zs → DvL K S H ds vs → vs = zs.map V.bl
  | [], zs, _, h, v => by cases h; exact v
  | .bl x :: r, zs, vs, h, v => by
    unfold blsOf at h
    cases e : blsOf r with
    | none => rw [e] at h; cases h
    | some ys =>
      rw [e] at h
      cases h
      obtain ⟨v, r', rfl, h1, h2⟩ := (v : ∃ v r', vs = v :: r' ∧ Dv K S H (.bl x) v ∧ DvL K S H r r')
      cases (h1 : v = .bl x)
      rw [blsOf_vals e h2]; rfl
  | .non :: _, _, _, h, _ => by cases h
  | .str _ :: _, _, _, h, _ => by cases h
  | .int _ :: _, _, _, h, _ => by cases h
  | .tup _ :: _, _, _, h, _ => by cases h
  | .lst _ :: _, _, _, h, _ => by cases h
  | .dic _ _ :: _, _, _, h, _ => by cases h
def allD : RCD
  | [.lst ds], P => someD (blsOf ds) fun bs => P (.bl (bs.all id))
  | _, _ => False
theorem serves_all : ServesC G (rAll G.X.K) allD := by
  intro S σ ρ H vs ds P Q g hv h q
  unfold allD at h
  split at h
  · obtain ⟨bs, e, hp⟩ := someD_inv h
    obtain ⟨v, rfl, h1⟩ := dvl1 hv
    obtain ⟨a, xs, rfl, n, e1, hl⟩ := dv_lst h1
    rw [blsOf_vals e hl] at e1
    exact ⟨a, bs, rfl, .inl (.inl e1), q _ (.bl _) H (Stp.refl g.wld) rfl hp⟩
  · exact h.elim
theorem de_all {p : Pos} {Fs : FA} (hc : G.X.calm = true) (hm : G.X.mg "all" = none) (ha : DA G [a] Fs) (hg : Gl G.X "all" := by rfl) (he : starEach [a] G.X.env = (false, eval a G.X.env) :: starEach [] G.X.env := by rfl) : DE G (.Call (.Name "all" p) [a] [] pos) (fun ρ P => Fs ρ fun ds => allD ds P) := de_cb (cr_all hc) serves_all hm (by decide +kernel) ha hg (he := he)

/-! ### texts -/
def isS (d : Dat) (P : Str → Prop) : Prop := match d with
  | .str b => P b
  | _ => False
theorem isS_inv {d : Dat} {P : Str → Prop} (h : isS d P) : ∃ b, d = .str b ∧ P b := by
  unfold isS at h
  split at h
  · exact ⟨_, rfl, h⟩
  · exact h.elim
def seqOf (d : Dat) (P : List Dat → Prop) : Prop := match d with
  | .tup x => P x
  | .lst x => P x
  | _ => False
def joinD (x : Str) (y : Dat) (P : Dat → Prop) : Prop := seqOf y fun ds => someD (strsOf ds) fun ys => (ys.map (·.length)).sum + ys.length * x.length ≤ 16777216 ∧ P (.str (Txt.join x ys))
theorem de_join {apos : Pos} (ha : DE G a Fa) (hb : DE G b Fb) (hs : starEach [b] G.X.env = [(false, eval b G.X.env)] := by rfl) (hbase : attributeBase a "join" G.X.env (eval a G.X.env) = eval a G.X.env := by rfl) (hline : (apos.endLine == pos.line) = true := by rfl) :
    DE G (.Call (.Attribute a "join" apos) [b] [] pos) (fun ρ P => Fa ρ fun x => isS x fun x => Fb ρ fun y => joinD x y P) := by
  obtain ⟨ta, h1, l1⟩ := ha.ex
  obtain ⟨tb, h2, l2⟩ := hb.ex
  refine ⟨⟨_, pe_join h1 h2 hs hbase hline, fun S σ H ρ P Q g h q => ?_⟩⟩
  refine l1 S σ H ρ _ _ g h fun v d H1 st hv hp => ?_
  have g1 := g.step st
  obtain ⟨z, rfl, hp⟩ := isS_inv hp
  cases dv_str hv
  refine ⟨⟨z, rfl⟩, l2 S σ H1 ρ _ _ g1 hp fun v2 d2 H2 st2 hv2 hp => ?_⟩
  have q' := fun y => q (.str (Txt.join z y)) (.str _) H2 (st.trans st2) rfl
  cases d2 with
  | tup ds =>
    obtain ⟨ys, e, hz, hp⟩ := someD_inv hp
    obtain ⟨a, xs, rfl, e1, hl⟩ := dv_tup hv2
    rw [strsOf_eq e] at hl
    rw [hl.strs] at e1
    exact ⟨z, a, ys, rfl, rfl, .inr (sqT_of e1), hz, q' ys hp⟩
  | lst ds =>
    obtain ⟨ys, e, hz, hp⟩ := someD_inv hp
    obtain ⟨a, xs, rfl, n, e1, hl⟩ := dv_lst hv2
    rw [strsOf_eq e] at hl
    rw [hl.strs] at e1
    exact ⟨z, a, ys, rfl, rfl, .inl (.inl (.inl e1)), hz, q' ys hp⟩
  | _ => exact hp.elim
/-- f-strings -/
def fmtD (d : Dat) (P : Str → Prop) : Prop := match d with
  | .str y => y.length ≤ sizeLine ∧ P y
  | .int i => i.natAbs.log2 < 1920 ∧ P (toString i)
  | _ => False
abbrev FJ := List Slot → (Str → Prop) → Prop
theorem de_fmt (ha : DE G a Fa) : DE G (.FormattedValue a (-1) none pos) (fun ρ P => Fa ρ fun x => fmtD x fun s => P (.str s)) := by
  obtain ⟨ta, h1, l1⟩ := ha.ex
  refine ⟨⟨_, pe_fmt h1, fun S σ H ρ P Q g h q => ?_⟩⟩
  refine l1 S σ H ρ _ _ g h fun v d H1 st hv hp => ?_
  cases d with
  | str y => cases dv_str hv; exact .inl ⟨y, rfl, hp.1, q _ (.str _) H1 st rfl hp.2⟩
  | int i => cases dv_int hv; exact .inr ⟨i, rfl, hp.1, q _ (.str _) H1 st rfl hp.2⟩
  | _ => exact hp.elim
structure DJ (G : Ctx) (es : List Expr) (F : Str → FJ) : Prop where
  ex : ∃ ts, PJ G.X es ts ∧ ∀ acc S σ H ρ P (Q : Str → Hp → Prop), Gd G S σ H ρ → F acc ρ P → (∀ z H', Stp G H H' → P z → Q z H') → tJs ts acc σ H Q
theorem dj_nil : DJ G [] (fun acc _ P => P acc) := ⟨⟨[], .nil, fun acc S σ H ρ P Q g h q => q acc H (Stp.refl g.wld) h⟩⟩
theorem dj_cons {es : List Expr} {F : Str → FJ} (ha : DE G a Fa) (hr : DJ G es F) : DJ G (a :: es) (fun acc ρ P => Fa ρ fun x => isS x fun y => (acc ++ y).length ≤ sizeLine ∧ F (acc ++ y) ρ P) := by
  obtain ⟨ta, h1, l1⟩ := ha.ex
  obtain ⟨ts, h2, l2⟩ := hr.ex
  refine ⟨⟨ta :: ts, .cons h1 h2, fun acc S σ H ρ P Q g h q => ?_⟩⟩
  refine l1 S σ H ρ _ _ g h fun v d H1 st hv hp => ?_
  obtain ⟨y, rfl, hz, hp⟩ := isS_inv hp
  cases dv_str hv
  exact ⟨y, rfl, hz, l2 _ S σ H1 ρ P Q (g.step st) hp fun z H2 st2 => q z H2 (st.trans st2)⟩
theorem de_joined {v1 v2 : Expr} {rest : List Expr} {F : Str → FJ} (h : DJ G (v1 :: v2 :: rest) F) : DE G (.JoinedStr (v1 :: v2 :: rest) pos) (fun ρ P => F Str.empty ρ fun s => P (.str s)) := by
  obtain ⟨ts, h1, l1⟩ := h.ex
  refine ⟨⟨_, pe_joined h1, fun S σ H ρ P Q g h q => ?_⟩⟩
  exact l1 _ S σ H ρ _ _ g h fun z H' st hp => q _ (.str z) H' st rfl hp

/-! ### targets -/
abbrev FG := Dat → List Slot → (List Slot → Prop) → Prop
abbrev FGs := List Dat → List Slot → (List Slot → Prop) → Prop
def LiftG (G : Ctx) (t : TG) (F : FG) : Prop := ∀ S σ H ρ d v P (Q : L2.St → Hp → Prop), Gd G S σ H ρ → Dv G.X.K S H d v → F d ρ P → (∀ σ' ρ', Gd G S σ' H ρ' → P ρ' → Q σ' H) → t v σ H Q
def LiftGs (G : Ctx) (t : TGs) (F : FGs) : Prop := ∀ S σ H ρ d v P (Q : L2.St → Hp → Prop), Gd G S σ H ρ → DvL G.X.K S H d v → F d ρ P → (∀ σ' ρ', Gd G S σ' H ρ' → P ρ' → Q σ' H) → t v σ H Q
structure DG (G : Ctx) (e : Expr) (F : FG) : Prop where
  ex : ∃ t, PG G.X e t ∧ LiftG G t F
structure DGs (G : Ctx) (e : List Expr) (F : FGs) : Prop where
  ex : ∃ t, PGs G.X e t ∧ LiftGs G t F
theorem dg_name {x : Str} (i : Nat) (hN : G.X.N.Nodup) (hi : G.X.N[i]? = some x := by rfl) (hx : Loc G.X.env.scope x := by first | exact Or.inl rfl | exact Or.inr rfl) (hf : G.X.fn x = true ∨ G.X.env.scope.names.lookup x = some .local := by first | exact .inl rfl | exact .inr rfl) : DG G (.Name x pos) (fun d ρ P => P (ρ.set i (.d d))) :=
  ⟨⟨gName i, pg_name hN hi hx hf, fun S σ H ρ d v P Q g hv h q => q _ _ (g.set hv) h⟩⟩
theorem dgs_nil : DGs G [] (fun ds ρ P => ds = [] ∧ P ρ) := ⟨⟨gNil, pgs_nil, fun S σ H ρ d v P Q g hv h q => by
  obtain ⟨rfl, h⟩ := h
  exact ⟨hv, q σ ρ g h⟩⟩⟩
def consD {α : Type} (ds : List α) (P : α → List α → Prop) : Prop := match ds with
  | d :: r => P d r
  | [] => False
theorem dgs_cons {e : Expr} {es : List Expr} {F : FG} {F' : FGs} (h1 : DG G e F) (h2 : DGs G es F') (hs : (assignEach (e :: es) G.X.env).map (·.2) = assign e G.X.env :: (assignEach es G.X.env).map (·.2) := by rfl) :
    DGs G (e :: es) (fun ds ρ P => consD ds fun d r => F d ρ fun ρ' => F' r ρ' P) := by
  obtain ⟨t, p1, l1⟩ := h1.ex
  obtain ⟨u, p2, l2⟩ := h2.ex
  refine ⟨⟨_, pgs_cons p1 p2 hs, fun S σ H ρ d v P Q g hv h q => ?_⟩⟩
  cases d with
  | nil => exact h.elim
  | cons d ds =>
    obtain ⟨x, r, rfl, h1, h2⟩ := (hv : ∃ x r, v = x :: r ∧ Dv G.X.K S H d x ∧ DvL G.X.K S H ds r)
    exact ⟨x, r, rfl, l1 S σ H ρ d x _ _ g h1 h fun σ' ρ' g' hp => l2 S σ' H ρ' ds r P Q g' h2 hp q⟩
def tupD (d : Dat) (n : Nat) (P : List Dat → Prop) : Prop := match d with
  | .tup ds => ds.length = n ∧ P ds
  | _ => False
theorem dg_tup {es : List Expr} {k : Nat} {F : FGs} (n : Nat) (hc : G.X.calm = true) (h : DGs G es F) (hn : (assignEach es G.X.env).length = n := by rfl) (hst : (assignEach es G.X.env).findIdx? (·.1) = none := by rfl) : DG G (.Tuple es k pos) (fun d ρ P => tupD d n fun ds => F ds ρ P) := by
  obtain ⟨t, p1, l1⟩ := h.ex
  refine ⟨⟨_, pg_tup hc p1 hn hst, fun S σ H ρ d v P Q g hv h q => ?_⟩⟩
  cases d with
  | tup ds =>
    obtain ⟨a, xs, rfl, e, hl⟩ := dv_tup hv
    exact ⟨a, xs, rfl, sqT_of e, by rw [hl.len]; exact h.1, l1 S σ H ρ ds xs P Q g hl h.2 q⟩
  | _ => exact h.elim
theorem ds_asg {tg e : Expr} {F : FE} {Fg : FG} (he : DE G e F) (hg : DG G tg Fg) (hs : swapsWithSole [tg] e pos.line G.X.env = pure false := by rfl) (hw : swappedStores [tg] e G.X.env = pure none := by rfl) (h1 : (assignEach [tg] G.X.env).map (·.2) = [assign tg G.X.env] := by rfl) :
    DS G (.Assign [tg] e pos) (fun D ρ => F ρ fun d => Fg d ρ D.nx) := by
  obtain ⟨t, p1, l1⟩ := he.ex
  obtain ⟨u, p2, l2⟩ := hg.ex
  refine ⟨⟨_, ps_asg p1 p2 hs hw h1, fun S σ H ρ D Dh g h q => ?_⟩⟩
  refine l1 S σ H ρ _ _ g h fun v d H1 st hv hp => ?_
  have g1 := g.step st
  exact l2 S σ H1 ρ d v _ _ g1 hv hp fun σ' ρ' g' hp => q.nx S σ' H1 ρ' g' (st.fr g) hp
end
end DL
namespace DL
open PySem PySem.Spec PyProof.Rows L2
section
variable {G : Ctx} {S S' : Addr → Prop} {σ : L2.St} {H H' : Hp} {ρ : List Slot} {pos : Pos} {a b : Expr} {Fa Fb : FE}
/-! ### what is walked -/
structure WalkOk (G : Ctx) (J : It) (items : List Dat) (S : Addr → Prop) (H1 : Hp) : Prop where
  go : ∀ i S' H', i < items.length → Fr S H1 S' H' → J.go i H'
  yld : ∀ i d S' σ' ρ' H' x H2, items[i]? = some d → Gd G S' σ' H' ρ' → Fr S H1 S' H' → J.yld i H' x H2 → Stp G H' H2 ∧ Dv G.X.K S' H2 d x
  stop : ∀ S' H', Fr S H1 S' H' → J.stop items.length H'
abbrev FI := List Slot → (List Dat → Prop) → Prop
def LiftI (G : Ctx) (w : TI) (F : FI) : Prop := ∀ S σ H ρ P (R : It → Hp → Prop), Gd G S σ H ρ → F ρ P → (∀ J items H1, Stp G H H1 → WalkOk G J items S H1 → P items → R J H1) → w σ H R
structure DI (G : Ctx) (tg iter : Expr) (F : FI) : Prop where
  ex : ∃ w, PI G.X tg iter w ∧ LiftI G w F
/-- a list or a tuple -/
def iSeq (K : PySem.W.Frag) (tl : TE) : TI := fun σ H R => tl σ H fun x H1 => ∃ a, x = .ref a ∧ (((∃ xs, SqL K H1 a xs) ∧ R (Itl K a) H1) ∨ ((∃ xs, SqT K H1 a xs) ∧ R (Itt K a) H1))
theorem pi_seq {X : Cx} {tg l : Expr} {tl : TE} (hl : PE X l tl) : PI X tg l (iSeq X.K tl) := by
  refine ⟨fun pins s σ H R I h => ?_⟩
  refine thn (hl.run pins s σ H _ I h) fun v s1 ⟨x, H1, I1, r1, q1⟩ => ?_
  obtain ⟨a, e, q⟩ := q1
  subst e
  cases r1
  have fp : ∀ b ∈ [s1.heap.objs.size], FpOk X pins H1 b := fun b hb => by
    have e : b = s1.heap.objs.size := by simpa using hb
    subst e
    exact I1.fpOk (Nat.le_refl _) (I1.hok.fresh (Nat.le_refl _))
  rcases q with ⟨⟨xs, hq⟩, q⟩ | ⟨⟨xs, hq⟩, q⟩
  · obtain ⟨its, rv, p, hz⟩ := I1.list hq
    refine wpAny_pyIter_list p.isList ?_
    exact ⟨s1.heap.objs.size, [s1.heap.objs.size], _, _, H1, rfl, I1.kept (t' := s1.toks) fun b o e => Heap.get?_push_of_some _ e, turn_list a _, ⟨_, Heap.get?_push_size _ rfl, rfl, rfl⟩, fp, q⟩
  · obtain ⟨its, rv, p, hz⟩ := I1.tuple hq
    refine wpAny_pyIter_tuple (show s1.heap.IsTuple a its.toArray from p) ?_
    exact ⟨s1.heap.objs.size, [s1.heap.objs.size], _, _, H1, rfl, I1.kept (t' := s1.toks) fun b o e => Heap.get?_push_of_some _ e, turn_tuple a _, ⟨_, Heap.get?_push_size _ rfl, rfl, rfl⟩, fp, q⟩
theorem frT {K : PySem.W.Frag} {S' : Addr → Prop} {H1 : Hp} {a : Addr} {xs : List V} (fr : Fr S H1 S' H') (e : (¬ S a ∧ H1 a = some (.tup xs)) ∨ WrT K a xs) : SqT K H' a xs := by
  rcases e with ⟨n, e⟩ | e
  · exact .inl (.inl (fr a _ n e).2)
  · exact .inr e
theorem walk_lst {xs : List V} {ds : List Dat} {p : Addr} (n : ¬ S p) (e : H p = some (.lst xs)) (hl : DvL G.X.K S H ds xs) : WalkOk G (Itl G.X.K p) ds S H := by
  refine ⟨fun i S' H' hi fr => ?_, fun i d S' σ' ρ' H' x H2 hd g fr y => ?_, fun S' H' fr => ⟨xs, .inl (.inl (fr p _ n e).2), by rw [hl.len]; exact Nat.le_refl _⟩⟩
  · obtain ⟨v, ev, _⟩ := hl.get (List.getElem?_eq_getElem hi)
    exact ⟨xs, v, .inl (.inl (fr p _ n e).2), ev⟩
  · obtain ⟨rfl, y⟩ := y
    obtain ⟨v, ev, hv⟩ := hl.get hd
    cases ev.symm.trans (y xs (.inl (.inl (fr p _ n e).2)))
    exact ⟨Stp.refl g.wld, hv.move fr⟩
theorem walk_tup {xs : List V} {ds : List Dat} {p : Addr} (e : (¬ S p ∧ H p = some (.tup xs)) ∨ WrT G.X.K p xs) (hl : DvL G.X.K S H ds xs) : WalkOk G (Itt G.X.K p) ds S H := by
  refine ⟨fun i S' H' hi fr => ?_, fun i d S' σ' ρ' H' x H2 hd g fr y => ?_, fun S' H' fr => ⟨xs, frT fr e, by rw [hl.len]; exact Nat.le_refl _⟩⟩
  · obtain ⟨v, ev, _⟩ := hl.get (List.getElem?_eq_getElem hi)
    exact ⟨xs, v, frT fr e, ev⟩
  · obtain ⟨rfl, y⟩ := y
    obtain ⟨v, ev, hv⟩ := hl.get hd
    cases ev.symm.trans (y xs (frT fr e))
    exact ⟨Stp.refl g.wld, hv.move fr⟩
theorem di_seq {tg : Expr} (ha : DE G a Fa) : DI G tg a (fun ρ P => Fa ρ fun x => seqOf x P) := by
  obtain ⟨t, h1, l1⟩ := ha.ex
  refine ⟨⟨_, pi_seq h1, fun S σ H ρ P R g h q => ?_⟩⟩
  refine l1 S σ H ρ _ _ g h fun v d H1 st hv hp => ?_
  cases d with
  | lst ds =>
    obtain ⟨p, xs, rfl, n, e, hl⟩ := dv_lst hv
    exact ⟨p, rfl, .inl ⟨⟨xs, .inl (.inl e)⟩, q _ ds H1 st (walk_lst n e hl) hp⟩⟩
  | tup ds =>
    obtain ⟨p, xs, rfl, e, hl⟩ := dv_tup hv
    exact ⟨p, rfl, .inr ⟨⟨xs, sqT_of e⟩, q _ ds H1 st (walk_tup e hl) hp⟩⟩
  | _ => exact hp.elim
/-- a text, sign by sign -/
def signs (z : Str) : List Dat := z.cps.toList.map fun c => .str ⟨#[c]⟩
theorem di_str {tg : Expr} (ha : DE G a Fa) : DI G tg a (fun ρ P => Fa ρ fun x => isS x fun z => P (signs z)) := by
  obtain ⟨t, h1, l1⟩ := ha.ex
  refine ⟨⟨_, pi_str h1, fun S σ H ρ P R g h q => ?_⟩⟩
  refine l1 S σ H ρ _ _ g h fun v d H1 st hv hp => ?_
  obtain ⟨z, rfl, hp⟩ := isS_inv hp
  cases dv_str hv
  refine ⟨z, rfl, q _ (signs z) H1 st ⟨fun i S' H' hi _ => ?_, fun i d S' σ' ρ' H' x H2 hd g fr y => ?_, fun S' H' _ => ?_⟩ hp⟩
  · have h2 : i < z.cps.size := by simpa [signs] using hi
    exact h2
  · obtain ⟨rfl, c, ec, rfl⟩ := y
    rw [signs, List.getElem?_map, Array.getElem?_toList, ec] at hd
    cases hd
    exact ⟨Stp.refl g.wld, rfl⟩
  · simp [signs, Its]
/-- range(n) -/
def rints (lo : Int) (n : Nat) : List Dat := (List.range n).map fun (i : Nat) => .int (lo + (i : Int))
theorem walk_rng {lo : Int} {n : Nat} : WalkOk G (Itr lo n) (rints lo n) S H := by
  refine ⟨fun i S' H' hi _ => by simpa [rints, Itr] using hi, fun i d S' σ' ρ' H' x H2 hd g fr y => ?_, fun S' H' _ => by simp [rints, Itr]⟩
  obtain ⟨rfl, rfl⟩ := y
  rw [rints, List.getElem?_map] at hd
  cases e : (List.range n)[i]? with
  | none => rw [e] at hd; cases hd
  | some j =>
    rw [e] at hd
    cases hd
    have hj : j = i := by
      obtain ⟨h1, h2⟩ := List.getElem?_eq_some_iff.mp e
      rw [List.getElem_range] at h2; exact h2.symm
    subst hj
    exact ⟨Stp.refl g.wld, rfl⟩
def int1 (ds : List Dat) (P : Int → Prop) : Prop := match ds with
  | [.int i] => P i
  | _ => False
def int2 (ds : List Dat) (P : Int → Int → Prop) : Prop := match ds with
  | [.int i, .int j] => P i j
  | _ => False
theorem di_range1 {tg : Expr} {p : Pos} {Fs : FA} (hm : G.X.mg "range" = none) (ha : DA G [a] Fs) (hg : Gl G.X "range" := by rfl) (hs : starEach [a] G.X.env = [(false, eval a G.X.env)] := by rfl) : DI G tg (.Call (.Name "range" p) [a] [] pos) (fun ρ P => Fs ρ fun ds => int1 ds fun n => (-(2 ^ 62) ≤ n ∧ n < 2 ^ 62) ∧ P (rints 0 n.toNat)) := by
  obtain ⟨t, h1, l1⟩ := ha.ex
  refine ⟨⟨_, pi_range1 hg hm h1 hs, fun S σ H ρ P R g h q => ?_⟩⟩
  refine l1 S σ H ρ _ _ g h fun vs ds H1 st hv hp => ?_
  unfold int1 at hp
  split at hp
  · obtain ⟨v, rfl, hd⟩ := dvl1 hv
    cases dv_int hd
    exact ⟨_, rfl, hp.1.1, hp.1.2, q _ _ H1 st walk_rng hp.2⟩
  · exact hp.elim
theorem di_range2 {tg : Expr} {p : Pos} {Fs : FA} (hm : G.X.mg "range" = none) (ha : DA G [a, b] Fs) (hg : Gl G.X "range" := by rfl) (hs : starEach [a, b] G.X.env = [(false, eval a G.X.env), (false, eval b G.X.env)] := by rfl) (hs2 : starEach [b] G.X.env = [(false, eval b G.X.env)] := by rfl) : DI G tg (.Call (.Name "range" p) [a, b] [] pos) (fun ρ P => Fs ρ fun ds => int2 ds fun m n => (-(2 ^ 62) ≤ m ∧ m < 2 ^ 62 ∧ -(2 ^ 62) ≤ n ∧ n < 2 ^ 62) ∧ P (rints m (n - m).toNat)) := by
  obtain ⟨t, h1, l1⟩ := ha.ex
  refine ⟨⟨_, pi_range2 hg hm h1 hs hs2, fun S σ H ρ P R g h q => ?_⟩⟩
  refine l1 S σ H ρ _ _ g h fun vs ds H1 st hv hp => ?_
  unfold int2 at hp
  split at hp
  · obtain ⟨v, w, rfl, hd, he⟩ := dvl2 hv
    cases dv_int hd; cases dv_int he
    exact ⟨_, _, rfl, hp.1, q _ _ H1 st walk_rng hp.2⟩
  · exact hp.elim
/-- zip of two lists, of two tuples -/
def zips : List Dat → List Dat → List Dat
  | x :: xs, y :: ys => .tup [x, y] :: zips xs ys
  | _, _ => []
theorem zips_get : ∀ {xs ys : List Dat} {i : Nat} {d : Dat}, (zips xs ys)[i]? = some d → ∃ x y, xs[i]? = some x ∧ ys[i]? = some y ∧ d = .tup [x, y]
  | [], _, _, _, h => by simp [zips] at h
  | _ :: _, [], _, _, h => by simp [zips] at h
  | x :: xs, y :: ys, 0, d, h => by simp [zips] at h; exact ⟨x, y, rfl, rfl, h.symm⟩
  | x :: xs, y :: ys, i + 1, d, h => by
    obtain ⟨x', y', h1, h2, h3⟩ := zips_get (xs := xs) (ys := ys) (i := i) (d := d) (by simpa [zips] using h)
    exact ⟨x', y', by simpa using h1, by simpa using h2, h3⟩
theorem zips_len : ∀ (xs ys : List Dat), (zips xs ys).length = min xs.length ys.length
  | [], _ => by simp [zips]
  | _ :: _, [] => by simp [zips]
  | x :: xs, y :: ys => by simp [zips, zips_len xs ys]
def zipD (ds : List Dat) (P : List Dat → Prop) : Prop := match ds with
  | [.lst x, .lst y] => P (zips x y)
  | [.tup x, .tup y] => P (zips x y)
  | _ => False
theorem di_zip {elts : List Expr} {kk : Nat} {tpos p : Pos} {Fs : FA} (hm : G.X.mg "zip" = none) (ha : DA G [a, b] Fs) (hg : Gl G.X "zip" := by rfl) (hs : starEach [a, b] G.X.env = (false, eval a G.X.env) :: starEach [b] G.X.env := by rfl) (hpl : (backTo pos (starEach [b] G.X.env)).any (·.1) = false := by rfl) :
    DI G (.Tuple elts kk tpos) (.Call (.Name "zip" p) [a, b] [] pos) (fun ρ P => Fs ρ fun ds => zipD ds P) := by
  obtain ⟨t, h1, l1⟩ := ha.ex
  refine ⟨⟨_, RZ.pi_zipA hg hm h1 hs hpl, fun S σ H ρ P R g h q => ?_⟩⟩
  refine l1 S σ H ρ _ _ g h fun vs ds H1 st hv hp => ?_
  have g1 := g.step st
  unfold zipD at hp
  split at hp
  · rename_i x y
    obtain ⟨v, w, rfl, hd, he⟩ := dvl2 hv
    obtain ⟨p1, xs, rfl, n1, e1, v1⟩ := dv_lst hd
    obtain ⟨p2, ys, rfl, n2, e2, v2⟩ := dv_lst he
    refine ⟨p1, p2, xs, ys, rfl, .inl ⟨.inl (.inl e1), .inl (.inl e2), q _ _ H1 st ⟨fun i S' H' hi fr => ?_, fun i d S' σ' ρ' H' z H2 hd g fr yl => ?_, fun S' H' fr => ?_⟩ hp⟩⟩
    · obtain ⟨x', y', h1, h2, _⟩ := zips_get (List.getElem?_eq_getElem hi)
      obtain ⟨u, eu, _⟩ := v1.get h1
      obtain ⟨u', eu', _⟩ := v2.get h2
      exact ⟨xs, ys, u, u', .inl (.inl (fr _ _ n1 e1).2), .inl (.inl (fr _ _ n2 e2).2), eu, eu'⟩
    · obtain ⟨x', y', h1, h2, rfl⟩ := zips_get hd
      obtain ⟨u, eu, hu⟩ := v1.get h1
      obtain ⟨u', eu', hu'⟩ := v2.get h2
      obtain ⟨T, c1, c2, rfl, nT, rfl, f1, f2⟩ := yl
      cases eu.symm.trans (f1 xs (.inl (.inl (fr _ _ n1 e1).2)))
      cases eu'.symm.trans (f2 ys (.inl (.inl (fr _ _ n2 e2).2)))
      have s2 : Stp G H' (upd H' T (.tup [u, u'])) := Stp.new g.wld nT
      exact ⟨s2, T, [u, u'], rfl, .inl ⟨g.fresh nT, upd_same⟩, s2.dvl g ⟨u, _, rfl, hu.move fr, u', _, rfl, hu'.move fr, rfl⟩⟩
    · refine ⟨xs, ys, .inl (.inl (fr _ _ n1 e1).2), .inl (.inl (fr _ _ n2 e2).2), ?_⟩
      rw [zips_len, v1.len, v2.len]
      omega
  · rename_i x y
    obtain ⟨v, w, rfl, hd, he⟩ := dvl2 hv
    obtain ⟨p1, xs, rfl, e1, v1⟩ := dv_tup hd
    obtain ⟨p2, ys, rfl, e2, v2⟩ := dv_tup he
    refine ⟨p1, p2, xs, ys, rfl, .inr ⟨sqT_of e1, sqT_of e2, q _ _ H1 st ⟨fun i S' H' hi fr => ?_, fun i d S' σ' ρ' H' z H2 hd g fr yl => ?_, fun S' H' fr => ?_⟩ hp⟩⟩
    · obtain ⟨x', y', h1, h2, _⟩ := zips_get (List.getElem?_eq_getElem hi)
      obtain ⟨u, eu, _⟩ := v1.get h1
      obtain ⟨u', eu', _⟩ := v2.get h2
      exact ⟨xs, ys, u, u', frT fr e1, frT fr e2, eu, eu'⟩
    · obtain ⟨x', y', h1, h2, rfl⟩ := zips_get hd
      obtain ⟨u, eu, hu⟩ := v1.get h1
      obtain ⟨u', eu', hu'⟩ := v2.get h2
      obtain ⟨T, c1, c2, rfl, nT, rfl, f1, f2⟩ := yl
      cases eu.symm.trans (f1 xs (frT fr e1))
      cases eu'.symm.trans (f2 ys (frT fr e2))
      have s2 : Stp G H' (upd H' T (.tup [u, u'])) := Stp.new g.wld nT
      exact ⟨s2, T, [u, u'], rfl, .inl ⟨g.fresh nT, upd_same⟩, s2.dvl g ⟨u, _, rfl, hu.move fr, u', _, rfl, hu'.move fr, rfl⟩⟩
    · refine ⟨xs, ys, frT fr e1, frT fr e2, ?_⟩
      rw [zips_len, v1.len, v2.len]
      omega
  · exact hp.elim

/-! ### for -/
def forF (g : FG) (body : FS) : List Dat → FS
  | [], D, ρ => D.nx ρ
  | d :: ds, D, ρ => g d ρ fun ρ' => body { nx := forF g body ds D, ct := forF g body ds D, bk := D.nx, rt := D.rt } ρ'
theorem lift_for {w : TI} {F : FI} {t : TG} {g : FG} {tb : TS} {body : FS} (lw : LiftI G w F) (lg : LiftG G t g) (lb : LiftS G tb body) : LiftS G (tFor w t tb) (fun D ρ => F ρ fun items => forF g body items D ρ) := by
  intro S σ H ρ D Dh gd h q
  refine lw S σ H ρ _ _ gd h fun J items H1 st wk hp => ?_
  have g1 := gd.step st
  have fr1 : Fr S H S H1 := st.fr gd
  refine ⟨fun i m σ' H' => m = items.length - i ∧ i ≤ items.length ∧ ∃ S' ρ', Gd G S' σ' H' ρ' ∧ Fr S H1 S' H' ∧ forF g body (items.drop i) D ρ', ⟨items.length, rfl, Nat.zero_le _, S, ρ, g1, Fr.refl _ _, hp⟩, ?_⟩
  rintro i m σ' H' ⟨rfl, hi, S', ρ', g', fr, hf⟩
  by_cases hlt : i < items.length
  · refine .inr ⟨wk.go i S' H' hlt fr, fun σ2 H2 => ∃ S2 ρ2, Gd G S2 σ2 H2 ρ2 ∧ Fr S H1 S2 H2 ∧ forF g body (items.drop (i + 1)) D ρ2, fun σ2 H2 ⟨S2, ρ2, a1, a2, a3⟩ => ⟨items.length - (i + 1), by omega, rfl, hlt, S2, ρ2, a1, a2, a3⟩, fun x H2 y => ?_⟩
    obtain ⟨s2, hd⟩ := wk.yld i _ S' σ' ρ' H' x H2 (List.getElem?_eq_getElem hlt) g' fr y
    have g2 := g'.step s2
    rw [List.drop_eq_getElem_cons hlt] at hf
    refine lg S' σ' H2 ρ' _ x _ _ g2 hd hf fun σ3 ρ3 g3 hb => ?_
    have frx : Fr S' H' S' H2 := s2.fr g'
    refine lb S' σ3 H2 ρ3 _ _ g3 hb ⟨fun S4 σ4 H4 ρ4 g4 fr4 hn => ⟨S4, ρ4, g4, (fr.trans frx).trans fr4, hn⟩, q.rt, fun S4 σ4 H4 ρ4 g4 fr4 hn => q.nx S4 σ4 H4 ρ4 g4 (fr1.trans ((fr.trans frx).trans fr4)) hn, fun S4 σ4 H4 ρ4 g4 fr4 hn => ⟨S4, ρ4, g4, (fr.trans frx).trans fr4, hn⟩⟩
  · have e : i = items.length := by omega
    subst e
    rw [List.drop_length] at hf
    exact .inl ⟨wk.stop S' H' fr, q.nx S' σ' H' ρ' g' (fr1.trans fr) hf⟩
theorem ds_for {tg iter : Expr} {body : List Stmt} {F : FI} {g : FG} {Fb : FS} (hp : PassesOwn (model G.X.prog G.X.w) G.X.A G.X.env G.X.xe) (hc : G.X.calm = true) (hi : DI G tg iter F) (hg : DG G tg g) (hb : DB G body Fb) (hs : ∀ x, foldedSetIterable iter G.X.env x = pure x := by intro _; rfl) :
    DS G (.For tg iter body [] pos) (fun D ρ => F ρ fun items => forF g Fb items D ρ) := by
  obtain ⟨w, h1, l1⟩ := hi.ex
  obtain ⟨t, h2, l2⟩ := hg.ex
  obtain ⟨u, h3, l3⟩ := hb.ex
  exact ⟨⟨_, ps_for hp hc h1 h2 h3 hs, lift_for l1 l2 l3⟩⟩

/-! ### comprehensions -/
/-- the frame of a comprehension -/
abbrev Ctx.blk (G : Ctx) (s : Shared) (H : Hp) (scope : Scope) (cenv : Env) (fp : List Addr) : Ctx := { G with X := G.X.blk s H scope cenv fp }
theorem Gd.blk {s : Shared} {H9 : Hp} {scope : Scope} {cenv : Env} {fp : List Addr} (g : Gd G S σ H ρ) : Gd (G.blk s H9 scope cenv fp) S σ H ρ := ⟨g.wld, g.all, g.sub, g.len, g.slots, g.apart⟩
def compF (Fg : FG) (Ft : FT) (Fe : FE) (ρ : List Slot) : List Dat → List Dat → (List Dat → Prop) → Prop
  | [], acc, P => P acc
  | d :: ds, acc, P => Fg d ρ fun ρ2 => Ft ρ2 fun b => if b = true then Fe ρ2 fun y => acc.length < sizeLine ∧ compF Fg Ft Fe ρ ds (acc ++ [y]) P else compF Fg Ft Fe ρ ds acc P
structure DTs (G : Ctx) (ifs : List Expr) (F : FT) : Prop where
  ex : ∃ t, PTs G.X ifs t ∧ LiftT G t F
theorem dts_nil : DTs G [] (fun _ P => P true) := ⟨⟨_, pts_nil, fun _ _ H _ _ _ g h q => q true H (Stp.refl g.wld) h⟩⟩
theorem dts_one {F : FT} (h : DT G a F) : DTs G [a] F := by
  obtain ⟨t, h, l⟩ := h.ex
  exact ⟨⟨_, pts_one h, l⟩⟩
/-- the weakest readings -/
def tW (G : Ctx) (F : FE) : TE := fun σ H Q => ∃ S ρ P, Gd G S σ H ρ ∧ F ρ P ∧ ∀ v d H', Stp G H H' → Dv G.X.K S H' d v → P d → Q v H'
def tTW (G : Ctx) (F : FT) : TT := fun σ H Q => ∃ S ρ P, Gd G S σ H ρ ∧ F ρ P ∧ ∀ b H', Stp G H H' → P b → Q b H'
theorem Stp.unblk {s : Shared} {H9 : Hp} {scope : Scope} {cenv : Env} {fp : List Addr} (g : Stp (G.blk s H9 scope cenv fp) H H') : Stp G H H' := ⟨g.wld, g.keep, g.has⟩
theorem DE.blk {e : Expr} {F : FE} {s : Shared} {H9 : Hp} {scope : Scope} {cenv : Env} {fp : List Addr} (h : DE (G.blk s H9 scope cenv fp) e F) : PE (G.X.blk s H9 scope cenv fp) e (tW G F) := by
  obtain ⟨t, h, l⟩ := h.ex
  refine ⟨fun pins s' σ H Q I ⟨S, ρ, P, g, hf, q⟩ => h.run pins s' σ H Q I (l S σ H ρ P Q g.blk hf fun v d H' st => q v d H' st.unblk)⟩
theorem DTs.blk {e : List Expr} {F : FT} {s : Shared} {H9 : Hp} {scope : Scope} {cenv : Env} {fp : List Addr} (h : DTs (G.blk s H9 scope cenv fp) e F) : PTs (G.X.blk s H9 scope cenv fp) e (tTW G F) := by
  obtain ⟨t, h, l⟩ := h.ex
  refine ⟨fun pins s' σ H Q I ⟨S, ρ, P, g, hf, q⟩ => h.run pins s' σ H Q I (l S σ H ρ P Q g.blk hf fun b H' st => q b H' st.unblk)⟩
/-- the new list changes; nothing else sees it -/
theorem Gd.acc {D : Addr} {o : HO} (g : Gd G S' σ H ρ) (sd : S' D) (h0 : G.H0 D = none) (hx : ∀ φ, H D ≠ some (.ext φ)) (hn : ∀ (i : Nat) (s : Slot), ρ[i]? = some s → s.isOwn = true → σ[i]? ≠ some (some (.ref D))) : Gd G S' σ (upd H D o) ρ ∧ Fr S' H S' (upd H D o) := by
  have fr : Fr S' H S' (upd H D o) := fun b u n e => ⟨n, by rw [upd_ne (fun z => n (by rw [z]; exact sd))]; exact e⟩
  refine ⟨⟨G.clo H _ g.wld (fun b u u0 e e' => by rw [upd_ne (fun z => by rw [z, h0] at e; cases e)]; exact e') (keepX_upd hx), fun b hb => ?_, g.sub, g.len, fun i s hs => (g.slots i s hs).move fr (fun _ z => z) fun b u ob eb e => ?_, g.apart⟩, fr⟩
  · by_cases hbp : b = D
    · exact ⟨o, by rw [hbp]; exact upd_same⟩
    · obtain ⟨u, e⟩ := g.all b hb
      exact ⟨u, by rw [upd_ne hbp]; exact e⟩
  · have hne : b ≠ D := fun z => by
      subst z
      refine hn i s hs ob ?_
      cases ee : σ[i]? with
      | none => rw [ee] at eb; cases eb
      | some o => rw [ee] at eb; cases eb; rfl
    rw [upd_ne hne]; exact e
theorem lift_lc {w : TI} {F : FI} {Ft : FT} {Fe : FE} (j : Nat) (lw : LiftI G w F) :
    ∀ S σ H ρ P (Q : VK), Gd G S σ H ρ → (F ρ fun items => compF (fun d ρ P => P (ρ.set j (.d d))) Ft Fe (ρ.set j .un) items [] P) → (∀ p xs ds H', H p = none → Stp G H H' → H' p = some (.lst xs) → DvL G.X.K (fun a => S a ∨ a = p) H' ds xs → P ds → Q (.ref p) H') → tLc w (gName j) (tTW G Ft) (tW G Fe) [j] σ H Q := by
  intro S σ H ρ P Q gd h q
  refine lw S σ H ρ _ _ gd h fun J items H1 st wk hp D nD => ?_
  have g1 := gd.step st
  have gw : Gd G S (σ.set j none) H1 (ρ.set j .un) := g1.wipe
  have nS : ¬ S D := g1.fresh nD
  have nS0 : ¬ G.S0 D := fun z => nS (gd.sub D z)
  have h0 : G.H0 D = none := g1.fresh0 nD
  have ndH : H D = none := by
    cases e : H D with
    | none => rfl
    | some o =>
      obtain ⟨o', e'⟩ := st.has D o e
      rw [nD] at e'; cases e'
  obtain ⟨g2, fr2⟩ := gw.grow (o := .lst []) nD
  have hn : ∀ (i : Nat) (s : Slot), (ρ.set j .un)[i]? = some s → s.isOwn = true → (σ.set j none)[i]? ≠ some (some (.ref D)) := fun i s hs ho e => by
    have k := gw.slots i s hs
    rw [e] at k
    obtain ⟨a, u, e1, _, e2, _⟩ := SlotOk.addr k ho
    cases e1
    rw [nD] at e2; cases e2
  have wipe1 : L2.wipe σ [j] = σ.set j none := rfl
  have hn2 : ∀ (d : Dat) (x : V) (i : Nat) (s : Slot), ((ρ.set j .un).set j (.d d))[i]? = some s → s.isOwn = true → ((σ.set j none).set j (some x))[i]? ≠ some (some (.ref D)) := fun d x i s hs ho => by
    by_cases hi : i = j
    · subst hi
      rw [getset, if_pos rfl] at hs
      split at hs
      · cases hs; cases ho
      · cases hs
    · rw [getset, if_neg hi] at hs
      rw [getset, if_neg hi]
      exact hn i s hs ho
  let Pv : Nat → Hp → Prop := fun i H' => ∃ acc dacc, H' D = some (.lst acc) ∧ DvL G.X.K (fun a => S a ∨ a = D) H' dacc acc ∧ Gd G (fun a => S a ∨ a = D) (σ.set j none) H' (ρ.set j .un) ∧ Fr S H1 (fun a => S a ∨ a = D) H' ∧ Stp G H H' ∧
    compF (fun d ρ P => P (ρ.set j (.d d))) Ft Fe (ρ.set j .un) (items.drop i) dacc P
  refine ⟨fun i m H' => m = items.length - i ∧ i ≤ items.length ∧ Pv i H', ⟨items.length, rfl, Nat.zero_le _, [], [], upd_same, rfl, g2, fr2, st.trans (Stp.new g1.wld nD), hp⟩, ?_⟩
  rintro i m H' ⟨rfl, hi, acc, dacc, eD, hacc, g', fr, st', hf⟩
  by_cases hlt : i < items.length
  · refine .inr ⟨wk.go i _ H' hlt fr, Pv (i + 1), fun H2 p => ⟨items.length - (i + 1), by omega, rfl, hlt, p⟩, fun x H2 y => ?_⟩
    obtain ⟨s2, hd⟩ := wk.yld i _ _ _ _ H' x H2 (List.getElem?_eq_getElem hlt) g' fr y
    have g3 := g'.step s2
    rw [List.drop_eq_getElem_cons hlt] at hf
    rw [wipe1]
    refine ⟨by show ((σ.set j none).set j (some x)).set j none = σ.set j none; rw [List.set_set, List.set_set], ?_⟩
    have gx : Gd G (fun a => S a ∨ a = D) ((σ.set j none).set j (some x)) H2 ((ρ.set j .un).set j (.d items[i])) := g3.set hd
    refine ⟨_, _, _, gx, hf, fun b H3 st3 hb => ?_⟩
    have s13 := s2.trans st3
    cases b with
    | false =>
      exact ⟨acc, dacc, s13.keep D _ nS0 eD, s13.dvl g' hacc, g'.step s13, fr.trans (s13.fr g'), st'.trans s13, hb⟩
    | true =>
      refine ⟨_, _, _, gx.step st3, hb, fun v d H4 st4 hv ⟨hz, hc⟩ => ?_⟩
      have s14 := s13.trans st4
      have g4 := g'.step s14
      have eD4 := s14.keep D _ nS0 eD
      obtain ⟨g5, fr5⟩ := g4.acc (o := .lst (acc ++ [v])) (.inr rfl) h0 (fun φ z => by rw [eD4] at z; cases z) hn
      have hacc4 := s14.dvl g' hacc
      refine ⟨acc, eD4, by rw [hacc4.len]; exact hz, acc ++ [v], dacc ++ [d], upd_same, (hacc4.append (es := [d]) (us := [v]) ⟨v, [], rfl, hv, rfl⟩).move fr5, g5, (fr.trans (s14.fr g')).trans fr5, ?_, hc⟩
      have ss := st'.trans s14
      refine ⟨g5.wld, fun a o n e => ?_, fun a o e => ?_⟩
      · rw [upd_ne (ne_of_none e ndH)]; exact ss.keep a o n e
      · obtain ⟨o', e'⟩ := ss.has a o e
        exact ⟨o', by rw [upd_ne (ne_of_none e ndH)]; exact e'⟩
  · have e : i = items.length := by omega
    subst e
    rw [List.drop_length] at hf
    exact .inl ⟨wk.stop _ H' fr, q D acc dacc H' ndH st' eD hacc hf⟩
abbrev gNm (j : Nat) : FG := fun d ρ P => P (ρ.set j (.d d))
theorem de_lc {elt tg iter : Expr} {ifs : List Expr} {scope : Scope} {x : Str} (j : Nat) {F : FI} {Ft : FT} {Fe : FE} (hc : G.X.calm = true) (hN : G.X.N.Nodup) (hi : DI G tg iter F) (ok : BlkOk G.X.N G.X.env.scope scope [(x, j)])
    (hg : ∀ (s : Shared) (H : Hp) (C : Addr) (cl : List (Str × Addr)) (fp : List Addr), PG (G.X.blk s H scope (compEnvC scope cl C G.X.env) fp) tg (gName j)) (ht : ∀ (s : Shared) (H : Hp) (C : Addr) (cl : List (Str × Addr)) (fp : List Addr), DTs (G.blk s H scope (compEnvC scope cl C G.X.env) fp) ifs Ft)
    (he : ∀ (s : Shared) (H : Hp) (C : Addr) (cl : List (Str × Addr)) (fp : List Addr), DE (G.blk s H scope (compEnvC scope cl C G.X.env) fp) elt Fe) (hs : ∀ x, foldedSetIterable iter G.X.env x = pure x := by intro _; rfl) :
    DE G (.ListComp elt [⟨tg, iter, ifs, 0⟩] scope pos) (fun ρ P => F ρ fun items => compF (gNm j) Ft Fe (ρ.set j .un) items [] fun ds => P (.lst ds)) := by
  obtain ⟨w, h1, l1⟩ := hi.ex
  refine ⟨⟨_, pe_lc (own := [(x, j)]) hc hN h1 ok hg (fun s H C cl fp => (ht s H C cl fp).blk) (fun s H C cl fp => (he s H C cl fp).blk) hs, fun S σ H ρ P Q g h q => ?_⟩⟩
  refine lift_lc j l1 S σ H ρ _ Q g h fun p xs ds H' np st e hv hp => ?_
  have nS : ¬ S p := g.fresh np
  exact q _ (.lst ds) H' st ⟨p, xs, rfl, nS, e, hv.move fun a o n e => ⟨fun z => n (.inl z), e⟩⟩ hp
theorem ds_setLc {y : Str} {py spos : Pos} {elt tg iter : Expr} {ifs : List Expr} {scope : Scope} {x : Str} (i j : Nat) {F : FI} {Ft : FT} {Fe : FE} (hc : G.X.calm = true) (hN : G.X.N.Nodup) (hsw : swapsWith (.ListComp elt [⟨tg, iter, ifs, 0⟩] scope pos) (some (.Name y py)) spos.line G.X.env = pure true) (hi : DI G tg iter F) (ok : BlkOk G.X.N G.X.env.scope scope [(x, j)])
    (hg : ∀ (s : Shared) (H : Hp) (C : Addr) (cl : List (Str × Addr)) (fp : List Addr), PG (G.X.blk s H scope (compEnvC scope cl C G.X.env) fp) tg (gName j)) (ht : ∀ (s : Shared) (H : Hp) (C : Addr) (cl : List (Str × Addr)) (fp : List Addr), DTs (G.blk s H scope (compEnvC scope cl C G.X.env) fp) ifs Ft)
    (he : ∀ (s : Shared) (H : Hp) (C : Addr) (cl : List (Str × Addr)) (fp : List Addr), DE (G.blk s H scope (compEnvC scope cl C G.X.env) fp) elt Fe) (hy : G.X.N[i]? = some y := by rfl) (hyl : G.X.env.scope.names.lookup y = some .local := by rfl) (hs : ∀ x, foldedSetIterable iter G.X.env x = pure x := by intro _; rfl) :
    DS G (.Assign [.Name y py] (.ListComp elt [⟨tg, iter, ifs, 0⟩] scope pos) spos) (fun D ρ => F ρ fun items => compF (gNm j) Ft Fe (ρ.set j .un) items [] fun ds => D.nx (ρ.set i (.d (.lst ds)))) := by
  obtain ⟨w, h1, l1⟩ := hi.ex
  refine ⟨⟨_, ps_setLc (i := i) (own := [(x, j)]) hc hN hy hyl hsw h1 ok hg (fun s H C cl fp => (ht s H C cl fp).blk) (fun s H C cl fp => (he s H C cl fp).blk) hs, fun S σ H ρ D Dh g h q => ?_⟩⟩
  refine lift_lc j l1 S σ H ρ _ _ g h fun p xs ds H' np st e hv hp => ?_
  have g1 := g.step st
  have nS : ¬ S p := g.fresh np
  exact q.nx S _ H' _ (g1.set (d := .lst ds) ⟨p, xs, rfl, nS, e, hv.move fun a o n e => ⟨fun z => n (.inl z), e⟩⟩) (st.fr g) hp
end
end DL
namespace DL
open PySem PySem.Spec PyProof.Rows L2
section
variable {G : Ctx} {S S' : Addr → Prop} {σ : L2.St} {H H' : Hp} {ρ : List Slot} {pos : Pos} {a b : Expr} {Fa Fb : FE}
/-! ### lists of one's own -/
def ownL (ρ : List Slot) (i : Nat) (P : List Dat → Prop) : Prop := match ρ[i]? with
  | some (.own ds) => P ds
  | _ => False
theorem ownL_inv {ρ : List Slot} {i : Nat} {P : List Dat → Prop} (h : ownL ρ i P) : ∃ x, ρ[i]? = some (.own x) ∧ P x := by
  unfold ownL at h
  split at h
  · rename_i x e; exact ⟨x, e, h⟩
  · exact h.elim
/-- name = [e, ..], the list one's own -/
theorem ds_setOwn {x : Str} {pos' p2 : Pos} {es : List Expr} {Fs : FA} (i : Nat) (he : DA G es Fs) (hN : G.X.N.Nodup) (hi : G.X.N[i]? = some x := by rfl) (hx : Loc G.X.env.scope x := by first | exact Or.inl rfl | exact Or.inr rfl) (hs : swapsWith (.List es p2) (some (.Name x pos')) pos.line G.X.env = pure false := by rfl)
    (hf : G.X.fn x = true ∨ G.X.env.scope.names.lookup x = some .local := by first | exact .inl rfl | exact .inr rfl) : DS G (.Assign [.Name x pos'] (.List es p2) pos) (fun D ρ => Fs ρ fun ds => ds.length ≤ sizeLine ∧ D.nx (ρ.set i (.own ds))) := by
  obtain ⟨t, h, l⟩ := he.ex
  refine ⟨⟨_, ps_set (i := i) hN hi hx (pe_lst h) hs hf, fun S σ H ρ D Dh g h q => ?_⟩⟩
  refine l S σ H ρ _ _ g h fun vs ds H1 st hv hp => ⟨by rw [hv.len]; exact hp.1, fun p np => ?_⟩
  have g1 := g.step st
  obtain ⟨g2, fr⟩ := g1.grow (o := .lst vs) np
  exact q.nx _ _ _ _ (g1.setOwn (i := i) (s := .own ds) np rfl ⟨p, vs, rfl, .inr rfl, g1.fresh0 np, upd_same, hv.move fr⟩) (Fr.trans (st.fr g) fr) hp.2
theorem own_append {i : Nat} {ds es : List Dat} {p : Addr} {xs ys : List V} (g : Gd G S σ H ρ) (hs : ρ[i]? = some (.own ds)) (hp : σ[i]? = some (some (.ref p))) (sp : S p) (e0 : G.H0 p = none) (hl : DvL G.X.K S H ds xs) (hy : DvL G.X.K S H es ys) :
    Gd G S σ (upd H p (.lst (xs ++ ys))) (ρ.set i (.own (ds ++ es))) ∧ Fr S H S (upd H p (.lst (xs ++ ys))) := by
  have fr : Fr S H S (upd H p (.lst (xs ++ ys))) := fun b u n e => ⟨n, by rw [upd_ne (fun z => n (by rw [z]; exact sp))]; exact e⟩
  exact g.write (s' := .own (ds ++ es)) hs hp rfl rfl ⟨p, xs ++ ys, rfl, sp, e0, upd_same, (hl.append hy).move fr⟩
/-- name.append(e), the list one's own -/
theorem ds_append {x : Str} {e : Expr} {F : FE} {np apos cpos : Pos} (i : Nat) (hi : G.X.N[i]? = some x := by rfl) (hv : Vis G.X.env.scope x := by first | exact Or.inl rfl | exact Or.inr (Or.inl rfl) | exact Or.inr (Or.inr rfl)) (hd : (x == ("__debug__" : Str)) = false := by decide)
    (hcd : (x == ("__classdict__" : Str)) = false := by decide) (he : DE G e F) (hst : starEach [e] G.X.env = (false, eval e G.X.env) :: starEach [] G.X.env := by rfl)
    (hbase : attributeBase (.Name x np) "append" G.X.env (eval (.Name x np) G.X.env) = eval (.Name x np) G.X.env := by rfl)
    (hfew : ((backTo cpos (starEach [e] G.X.env)).all (fun x => !x.1) && (backToKw cpos (keywordEach [] G.X.env)).all (fun x => x.1.isSome) && decide ([e].length + ([] : List Keyword).length + (if ([] : List Keyword).isEmpty then 0 else 1) < 30)) = true := by rfl)
    (hline : (apos.endLine == cpos.line) = true := by rfl) (hplain : (backTo cpos (starEach [] G.X.env)).any (·.1) = false := by rfl) (hs : swapsWith (.Call (.Attribute (.Name x np) "append" apos) [e] [] cpos) none pos.line G.X.env = pure false := by rfl) :
    DS G (.Expr (.Call (.Attribute (.Name x np) "append" apos) [e] [] cpos) pos) (fun D ρ => ownL ρ i fun ds => F ρ fun y => ds.length < sizeLine ∧ D.nx (ρ.set i (.own (ds ++ [y])))) := by
  obtain ⟨t, h, l⟩ := he.ex
  refine ⟨⟨_, ps_expr (pe_bm PySem.F.plainAttrs_list PySem.F.slot_list_append PySem.F.type_list_append mt_append (pe_var hi hv hd hcd) (pa_cons h pa_nil hst) hbase hfew hline hst hplain) hs, fun S σ H ρ D Dh g h q => ?_⟩⟩
  obtain ⟨ds, es, hf⟩ := ownL_inv h
  obtain ⟨p, xs, e1, sp, e0, eh, hl⟩ := g.slot_own es
  refine ⟨.ref p, e1, .inl ⟨rfl, xs, .inl (.inl eh)⟩, l S σ H ρ _ _ g hf fun v d H1 st hv ⟨hz, hp⟩ => ?_⟩
  have g1 := g.step st
  obtain ⟨p', xs', e1', sp', e0', eh', hl'⟩ := g1.slot_own es
  cases e1.symm.trans e1'
  obtain ⟨g2, fr⟩ := own_append (es := [d]) (ys := [v]) g1 es e1 sp e0 hl' ⟨v, [], rfl, hv, rfl⟩
  exact ⟨p, xs', v, rfl, rfl, eh', by rw [hl'.len]; exact hz, q.nx _ _ _ _ g2 (Fr.trans (st.fr g) fr) hp⟩
/-- name.extend(e), the list one's own -/
def lstD (d : Dat) (P : List Dat → Prop) : Prop := match d with
  | .lst ds => P ds
  | _ => False
theorem ds_extend {x : Str} {e : Expr} {F : FE} {np apos cpos : Pos} (i : Nat) (hi : G.X.N[i]? = some x := by rfl) (hv : Vis G.X.env.scope x := by first | exact Or.inl rfl | exact Or.inr (Or.inl rfl) | exact Or.inr (Or.inr rfl)) (hd : (x == ("__debug__" : Str)) = false := by decide)
    (hcd : (x == ("__classdict__" : Str)) = false := by decide) (he : DE G e F) (hst : starEach [e] G.X.env = (false, eval e G.X.env) :: starEach [] G.X.env := by rfl)
    (hbase : attributeBase (.Name x np) "extend" G.X.env (eval (.Name x np) G.X.env) = eval (.Name x np) G.X.env := by rfl)
    (hfew : ((backTo cpos (starEach [e] G.X.env)).all (fun x => !x.1) && (backToKw cpos (keywordEach [] G.X.env)).all (fun x => x.1.isSome) && decide ([e].length + ([] : List Keyword).length + (if ([] : List Keyword).isEmpty then 0 else 1) < 30)) = true := by rfl)
    (hline : (apos.endLine == cpos.line) = true := by rfl) (hplain : (backTo cpos (starEach [] G.X.env)).any (·.1) = false := by rfl) (hs : swapsWith (.Call (.Attribute (.Name x np) "extend" apos) [e] [] cpos) none pos.line G.X.env = pure false := by rfl) :
    DS G (.Expr (.Call (.Attribute (.Name x np) "extend" apos) [e] [] cpos) pos) (fun D ρ => ownL ρ i fun ds => F ρ fun y => lstD y fun es => ds.length + es.length ≤ sizeLine ∧ D.nx (ρ.set i (.own (ds ++ es)))) := by
  obtain ⟨t, h, l⟩ := he.ex
  refine ⟨⟨_, ps_expr (pe_bm PySem.F.plainAttrs_list PySem.F.slot_list_extend PySem.F.type_list_extend mt_extend (pe_var hi hv hd hcd) (pa_cons h pa_nil hst) hbase hfew hline hst hplain) hs, fun S σ H ρ D Dh g h q => ?_⟩⟩
  obtain ⟨ds, es, hf⟩ := ownL_inv h
  obtain ⟨p, xs, e1, sp, e0, eh, hl⟩ := g.slot_own es
  refine ⟨.ref p, e1, .inl ⟨rfl, xs, .inl (.inl eh)⟩, l S σ H ρ _ _ g hf fun v d H1 st hv hp => ?_⟩
  have g1 := g.step st
  obtain ⟨p', xs', e1', sp', e0', eh', hl'⟩ := g1.slot_own es
  cases e1.symm.trans e1'
  cases d with
  | lst ys =>
    obtain ⟨c, zs, rfl, n, ec, hl2⟩ := dv_lst hv
    obtain ⟨g2, fr⟩ := own_append g1 es e1 sp e0 hl' hl2
    exact ⟨p, c, xs', zs, rfl, rfl, eh', ec, by rw [hl'.len, hl2.len]; exact hp.1, q.nx _ _ _ _ g2 (Fr.trans (st.fr g) fr) hp.2⟩
  | _ => exact hp.elim

/-! ### dicts -/
def getK : List Key → List Dat → Key → Option Dat
  | k0 :: ks, d0 :: ds, k => if k0 = k then some d0 else getK ks ds k
  | _, _, _ => none
theorem dkey {K : PySem.W.Frag} : ∀ {kvs : List (Key × V)} {ks : List Key} {ds : List Dat} {k : Key}, kvs.map (·.1) = ks → DvL K S H ds (kvs.map (·.2)) → ∀ {d : Dat}, getK ks ds k = some d → ∃ v, valV kvs k = some v ∧ Dv K S H d v
  | [], ks, ds, k, hk, hv, d, h => by
    subst hk; simp [getK] at h
  | (k0, v0) :: r, ks, ds, k, hk, hv, d, h => by
    subst hk
    cases ds with
    | nil => simp [getK] at h
    | cons d0 ds =>
      obtain ⟨v, r', e1, h1, h2⟩ := (hv : ∃ v r', _ = v :: r' ∧ Dv K S H d0 v ∧ DvL K S H ds r')
      rw [List.map_cons] at e1
      injection e1 with ea eb
      subst ea; subst eb
      rw [List.map_cons, getK] at h
      by_cases e : k0 = k
      · rw [if_pos e] at h
        cases h
        exact ⟨v0, valV_pos e, h1⟩
      · rw [if_neg e] at h
        obtain ⟨v, ev, hv'⟩ := dkey (kvs := r) rfl h2 h
        exact ⟨v, by rw [valV_neg e]; exact ev, hv'⟩
/-- d[text] -/
def getD : R2D
  | .dic ks ds, .str z, P => someD (getK ks ds (Sum.inr z)) P
  | _, _, _ => False
theorem de_dget (hu : G.X.A.units + 1 < cLine) (ha : DE G a Fa) (hb : DE G b Fb) (hs : NoSl b := by exact fun _ _ => rfl) : DE G (.Subscript a b pos) (fun ρ P => Fa ρ fun x => Fb ρ fun y => getD x y P) := by
  obtain ⟨ta, h1, l1⟩ := ha.ex
  obtain ⟨tb, h2, l2⟩ := hb.ex
  refine ⟨⟨_, pe_dget hu h1 h2 hs, fun S σ H ρ P Q g h q => ?_⟩⟩
  refine l1 S σ H ρ _ _ g h fun v d H1 st hv hp => ?_
  have g1 := g.step st
  refine l2 S σ H1 ρ _ _ g1 hp fun v2 d2 H2 st2 hv2 hp => ?_
  cases d with
  | dic ks ds =>
    cases d2 with
    | str z =>
      cases dv_str hv2
      obtain ⟨d, e, hp⟩ := someD_inv hp
      obtain ⟨p, kvs, rfl, n, e1, ek, hl⟩ := dv_dic (st2.dv g1 hv)
      obtain ⟨w, ew, hw⟩ := dkey ek hl e
      exact ⟨p, w, rfl, by rw [← ew]; exact DGet.k (k := Sum.inr z) e1, q w d H2 (st.trans st2) hw hp⟩
    | _ => exact hp.elim
  | _ => exact hp.elim
/-- sorted(d), the keys texts -/
def keyStrs : List Key → Option (List Str)
  | [] => some []
  | .inr x :: r => (keyStrs r).map (x :: ·)
  | .inl _ :: _ => none
theorem keyStrs_eq : ∀ {ks : List Key} {zs : List Str}, keyStrs ks = some zs → ks = zs.map Sum.inr
  | [], _, h => by cases h; rfl
  | .inr x :: r, _, h => by
    unfold keyStrs at h
    cases e : keyStrs r with
    | none => rw [e] at h; cases h
    | some ys => rw [e] at h; cases h; rw [keyStrs_eq e]; rfl
  | .inl _ :: _, _, h => by cases h
def sortedD : RCD
  | [.dic ks _], P => someD (keyStrs ks) fun zs => zs.length < 64 ∧ ∀ ys : List Str, ys.Perm zs → sortedS ys = true → P (.lst (ys.map Dat.str))
  | _, _ => False
theorem serves_sortedD : ServesC G (fun xs H Q => ∃ (a : Addr) (kvs : List (Key × V)) (ks : List Str), xs = [.ref a] ∧ Rd H a (.dK kvs) ∧ kvs.map (·.1) = ks.map Sum.inr ∧ ks.length < 64 ∧
    ∀ ys p, ys.Perm ks → sortedS ys = true → H p = none → Q (.ref p) (upd H p (.lst (ys.map V.str)))) sortedD := by
  intro S σ ρ H vs ds P Q g hv h q
  unfold sortedD at h
  split at h
  · obtain ⟨zs, e, h64, hp⟩ := someD_inv h
    obtain ⟨v, rfl, h1⟩ := dvl1 hv
    obtain ⟨p, kvs, rfl, n, e1, ek, hl⟩ := dv_dic h1
    exact ⟨p, kvs, zs, rfl, .inl e1, by rw [ek, keyStrs_eq e], h64, fun ys p hperm hs np => new_lst g (DvL.of_strs ys) (hp ys hperm hs) q p np⟩
  · exact h.elim
theorem de_sortedD {p : Pos} {Fs : FA} (hc : G.X.calm = true) (hm : G.X.mg "sorted" = none) (ha : DA G [a] Fs) (hg : Gl G.X "sorted" := by rfl) (he : starEach [a] G.X.env = (false, eval a G.X.env) :: starEach [] G.X.env := by rfl) : DE G (.Call (.Name "sorted" p) [a] [] pos) (fun ρ P => Fs ρ fun ds => sortedD ds P) := de_cb (call_sortedD hc) serves_sortedD hm (by decide +kernel) ha hg (he := he)
/-- {} -/
theorem de_dnew : DE G (.Dict [] [] pos) (fun _ P => P (.dic [] [])) := by
  refine ⟨⟨_, pe_dnewK, fun S σ H ρ P Q g h q => fun p np => ?_⟩⟩
  exact q _ (.dic [] []) _ (Stp.new g.wld np) ⟨p, [], rfl, g.fresh np, upd_same, rfl, rfl⟩ h
end
end DL
namespace DL
open PySem PySem.Spec PyProof.Rows L2
/-! ### t * 1 is t -/
theorem tuple_mul1 (l : Addr) (items : Array Value) (n : Nat) (dd : Option Addr) (sl : Array (Option Value)) (u : Tok) :
    Meets (Builtin.«tuple.__mul__» ⟨[.ref l, .int 1 u], []⟩) (fun _ R s => s.heap.get? l = some { cls := .type "tuple", dict := dd, data := .seq items n, slots := sl } ∧ R (.ok (.ret (Value.ref l))) s) :=
  .of_wp fun prog w A R s h => by
    obtain ⟨hp, g, d, tk, os⟩ := s
    obtain ⟨hl, h⟩ := h
    have f1 := AutoSeq1.idx_int
    have c1 : (items.isEmpty || (1 : Int) == 1) = true := by simp
    wp_walk using wpAny_loadPart' hl
    exact ⟨_, rfl, h⟩
def rRep1 (K : PySem.W.Frag) : R2 := fun x y H Q => ∃ l xs, x = .ref l ∧ y = .int 1 ∧ SqT K H l xs ∧ Q (.ref l) H
section
variable {X : Cx}
theorem op_rep1 : OpR X (binaryOp .Mult) (rRep1 X.K) := by
  intro pins s σ H x y v u Q I rx ry h
  obtain ⟨l, xs, rfl, rfl, hT, q⟩ := h
  cases rx
  obtain ⟨t, rfl⟩ := ry
  obtain ⟨its, r, ⟨⟨cls, dd, data, sl⟩, ho, hc, n, hd⟩, hs⟩ := I.tuple hT
  simp only at hc hd
  subst hc hd
  exact wpAny_binaryOp_repeat_ref (T := "tuple") (U := "int") (by decide) ⟨_, ho, rfl⟩ (fun s' => typeIs_int s' 1 t) noFill_tuple_mul F.fills_int_mul F.slot_int_rmul repeat_tuple F.slot_int_index.lookup
    (call_meets F.slot_int_rmul (typeIs_int s 1 t) F.entry_int_rmul (F.args_int_rmul_2 _ _) (int_rmul_tuple 1 t l its.toArray n dd sl)
      ⟨ho, rfl, ⟨_, ho, rfl⟩, call_meets F.slot_tuple_mul ⟨_, ho, rfl⟩ F.entry_tuple_mul (F.args_tuple_mul_2 _ _) (tuple_mul1 l its.toArray n dd sl t) ⟨ho, .ref l, H, I, rfl, q⟩⟩)
end
section
variable {G : Ctx} {S S' : Addr → Prop} {σ : L2.St} {H H' : Hp} {ρ : List Slot} {pos : Pos} {a b : Expr} {Fa Fb : FE}
def repD : R2D
  | .tup ds, .int k, P => ds ≠ [] ∧ 1 ≤ k ∧ k ≤ 1000 ∧ ds.length ≤ 1000 ∧ P (.tup (List.replicate k.toNat ds).flatten)
  | _, _, _ => False
theorem DvL.rep {K : PySem.W.Frag} {ds : List Dat} {xs : List V} (v : DvL K S H ds xs) : ∀ k : Nat, DvL K S H (List.replicate k ds).flatten (List.replicate k xs).flatten
  | 0 => rfl
  | k + 1 => by
    rw [List.replicate_succ, List.replicate_succ, List.flatten_cons, List.flatten_cons]
    exact v.append (v.rep k)
theorem serves_rep : Serves G (fun x y H Q => rRepT G.X.K x y H Q ∨ rRep1 G.X.K x y H Q) repD := by
  intro S σ ρ H x y dx dy P Q g hx hy h q
  cases dx with
  | tup ds =>
    cases dy with
    | int k =>
      obtain ⟨h1, h2, h3, h4, hp⟩ := h
      obtain ⟨a, xs, rfl, e, hl⟩ := dv_tup hx
      cases dv_int hy
      by_cases hk : k = 1
      · subst hk
        refine .inr ⟨a, xs, rfl, rfl, sqT_of e, q _ (.tup ds) H (Stp.refl g.wld) hx ?_⟩
        simpa using hp
      · exact .inl ⟨a, k, xs, rfl, rfl, sqT_of e, fun z => h1 (List.length_eq_zero_iff.mp (by rw [← hl.len, z]; rfl)), by omega, h3, by rw [hl.len]; exact h4, new_tup g (hl.rep k.toNat) hp q⟩
    | _ => exact h.elim
  | _ => exact h.elim
theorem de_rep (ha : DE G a Fa) (hb : DE G b Fb) : DE G (.BinOp a .Mult b pos) (fun ρ P => Fa ρ fun x => Fb ρ fun y => repD x y P) := de_bin (.or op_repT op_rep1) serves_rep ha hb

/-! ### written dicts with text keys -/
structure WD (K : PySem.W.Frag) (w : World) (d : Addr) (tab : Str → Option Value) : Prop where
  ex : ∃ es n, KDict K w d es n
  get : ∀ z, PySem.W.nsIn K d z = some (tab z)
def tabIn (neg : Bool) (tab : Str → Option Dat) (x : Dat) (P : Dat → Prop) : Prop := isS x fun z => P (.bl (if neg then !(tab z).isSome else (tab z).isSome))
/-- what the written values stand for -/
def TabOk (K : PySem.W.Frag) (tv : Str → Option Value) (td : Str → Option Dat) : Prop := ∀ z, match tv z, td z with
  | some u, some d => ∃ v, RelV v u ∧ ∀ S H, Dv K S H d v
  | none, none => True
  | _, _ => False
theorem TabOk.some {K : PySem.W.Frag} {tv : Str → Option Value} {td : Str → Option Dat} (h : TabOk K tv td) (z : Str) : (tv z).isSome = (td z).isSome := by
  have q := h z
  cases e : tv z <;> cases e2 : td z <;> rw [e, e2] at q <;> first | rfl | exact q.elim
theorem de_inW {x : Str} {d : Addr} {tv : Str → Option Value} {td : Str → Option Dat} {p : Pos} (W : WD G.X.K G.X.w d tv) (T : TabOk G.X.K tv td) (hm : G.X.mg x = some (.ref d)) (ha : DE G a Fa) (hg : Gl G.X x := by rfl) (hd : (x == ("__debug__" : Str)) = false := by decide) (hb : behindInMarks .In (.Name x p) = false := by rfl) :
    DE G (.Compare a [.In] [.Name x p] pos) (fun ρ P => Fa ρ fun y => tabIn false td y P) := by
  obtain ⟨es, n, D⟩ := W.ex
  obtain ⟨t, h, l⟩ := ha.ex
  refine ⟨⟨_, pe_cmpR (op_in_kd D) h (pe_glob (v := .ref d) hg hm rfl hd) hb, fun S σ H ρ P Q g h q => ?_⟩⟩
  refine l S σ H ρ _ _ g h fun v d' H1 st hv hp => ?_
  obtain ⟨z, rfl, hp⟩ := isS_inv hp
  cases dv_str hv
  refine ⟨z, _, rfl, rfl, W.get z, ?_⟩
  rw [T.some z]
  exact q _ (.bl _) H1 st rfl hp
theorem de_ninW {x : Str} {d : Addr} {tv : Str → Option Value} {td : Str → Option Dat} {p : Pos} (W : WD G.X.K G.X.w d tv) (T : TabOk G.X.K tv td) (hm : G.X.mg x = some (.ref d)) (ha : DE G a Fa) (hg : Gl G.X x := by rfl) (hd : (x == ("__debug__" : Str)) = false := by decide) (hb : behindInMarks .NotIn (.Name x p) = false := by rfl) :
    DE G (.Compare a [.NotIn] [.Name x p] pos) (fun ρ P => Fa ρ fun y => tabIn true td y P) := by
  obtain ⟨es, n, D⟩ := W.ex
  obtain ⟨t, h, l⟩ := ha.ex
  refine ⟨⟨_, pe_cmpR (op_notIn_kd D) h (pe_glob (v := .ref d) hg hm rfl hd) hb, fun S σ H ρ P Q g h q => ?_⟩⟩
  refine l S σ H ρ _ _ g h fun v d' H1 st hv hp => ?_
  obtain ⟨z, rfl, hp⟩ := isS_inv hp
  cases dv_str hv
  refine ⟨z, _, rfl, rfl, W.get z, ?_⟩
  rw [T.some z]
  exact q _ (.bl _) H1 st rfl hp
theorem dt_inW {x : Str} {d : Addr} {tv : Str → Option Value} {td : Str → Option Dat} {p : Pos} (W : WD G.X.K G.X.w d tv) (T : TabOk G.X.K tv td) (hm : G.X.mg x = some (.ref d)) (ha : DE G a Fa) (hg : Gl G.X x := by rfl) (hd : (x == ("__debug__" : Str)) = false := by decide) (hb : behindInMarks .In (.Name x p) = false := by rfl) :
    DT G (.Compare a [.In] [.Name x p] pos) (fun ρ P => Fa ρ fun y => tabIn false td y fun z => isB z P) := by
  obtain ⟨es, n, D⟩ := W.ex
  obtain ⟨t, h, l⟩ := ha.ex
  refine ⟨⟨_, pt_cmpR (op_in_kd D) h (pe_glob (v := .ref d) hg hm rfl hd) hb, fun S σ H ρ P Q g h q => ?_⟩⟩
  refine l S σ H ρ _ _ g h fun v d' H1 st hv hp => ?_
  obtain ⟨z, rfl, hp⟩ := isS_inv hp
  cases dv_str hv
  refine ⟨z, _, rfl, rfl, W.get z, ?_⟩
  rw [T.some z]
  exact ⟨_, rfl, q _ H1 st hp⟩
theorem dt_ninW {x : Str} {d : Addr} {tv : Str → Option Value} {td : Str → Option Dat} {p : Pos} (W : WD G.X.K G.X.w d tv) (T : TabOk G.X.K tv td) (hm : G.X.mg x = some (.ref d)) (ha : DE G a Fa) (hg : Gl G.X x := by rfl) (hd : (x == ("__debug__" : Str)) = false := by decide) (hb : behindInMarks .NotIn (.Name x p) = false := by rfl) :
    DT G (.Compare a [.NotIn] [.Name x p] pos) (fun ρ P => Fa ρ fun y => tabIn true td y fun z => isB z P) := by
  obtain ⟨es, n, D⟩ := W.ex
  obtain ⟨t, h, l⟩ := ha.ex
  refine ⟨⟨_, pt_cmpR (op_notIn_kd D) h (pe_glob (v := .ref d) hg hm rfl hd) hb, fun S σ H ρ P Q g h q => ?_⟩⟩
  refine l S σ H ρ _ _ g h fun v d' H1 st hv hp => ?_
  obtain ⟨z, rfl, hp⟩ := isS_inv hp
  cases dv_str hv
  refine ⟨z, _, rfl, rfl, W.get z, ?_⟩
  rw [T.some z]
  exact ⟨_, rfl, q _ H1 st hp⟩
/-- D[key] of a written dict -/
theorem pe_itemW {X : Cx} {d : Addr} {es : Array DictEntry} {n : Nat} {o i : Expr} {ta tb : TE} (D : KDict X.K X.w d es n) (ha : PE X o ta) (hb : PE X i tb) (hs : NoSl i) : PE X (.Subscript o i pos) (fun σ H Q => ta σ H fun x H1 => tb σ H1 fun y H2 => ∃ (z : Str) (u0 : Value) (v0 : V), x = .ref d ∧ y = .str z ∧ PySem.W.nsIn X.K d z = some (some u0) ∧ RelV v0 u0 ∧ Q v0 H2) := by
  refine ⟨fun pins s σ H Q I h => ?_⟩
  refine subD_of PySem.F.slot_dict_getitem.lookup hs (thn (ha.run pins s σ H _ I h) fun u s1 ⟨x, H1, I1, rx, q1⟩ => thn (hb.run pins s1 σ H1 _ I1 q1) fun iv s2 ⟨y, H2, I2, ry, z, u0, v0, ex, ey, en, rv, q2⟩ => ?_)
  subst ex
  obtain rfl : u = Value.ref d := rx
  exact ⟨kd_type D I2, op_item_kd D pins s2 σ H2 (.ref d) y _ _ Q I2 rfl ry ⟨z, u0, v0, rfl, ey, en, rv, q2⟩⟩
theorem de_itemW {x : Str} {d : Addr} {tv : Str → Option Value} {td : Str → Option Dat} {p : Pos} (W : WD G.X.K G.X.w d tv) (T : TabOk G.X.K tv td) (hm : G.X.mg x = some (.ref d)) (hb : DE G b Fb) (hg : Gl G.X x := by rfl) (hd : (x == ("__debug__" : Str)) = false := by decide) (hs : NoSl b := by exact fun _ _ => rfl) :
    DE G (.Subscript (.Name x p) b pos) (fun ρ P => Fb ρ fun y => isS y fun z => someD (td z) P) := by
  obtain ⟨es, n, D⟩ := W.ex
  obtain ⟨t, h, l⟩ := hb.ex
  refine ⟨⟨_, pe_itemW D (pe_glob (v := .ref d) hg hm rfl hd) h hs, fun S σ H ρ P Q g h q => ?_⟩⟩
  refine l S σ H ρ _ _ g h fun v d' H1 st hv hp => ?_
  obtain ⟨z, rfl, hp⟩ := isS_inv hp
  obtain ⟨dt, e, hp⟩ := someD_inv hp
  cases dv_str hv
  have k := T z
  rw [e] at k
  cases e2 : tv z with
  | none => rw [e2] at k; exact k.elim
  | some u =>
    rw [e2] at k
    obtain ⟨v, rv, hdv⟩ := k
    exact ⟨z, u, v, rfl, rfl, by rw [W.get z, e2], rv, q v dt H1 st (hdv _ _) hp⟩
/-! ### a def by its name -/
structure Callee (P : Program) (w : World) (K : PySem.W.Frag) (mg : Str → Option Value) (base : Heap) (x : Str) (k : Nat) (ps : List Str) (C : Con) : Prop where
  ex : ∃ f fd, FnOk P w K mg base CX0 k f fd ps (spD K C) ∧ mg x = some (.ref f) ∧ PySem.W.keepIn K (.ref f) = true ∧ Binds K fd ps []
theorem de_fn {x : Str} {k m : Nat} {ps : List Str} {C : Con} {p : Pos} {e : Expr} {es : List Expr} {Fs : FA} (h : Callee G.X.prog G.X.w G.X.K G.X.mg G.X.base x k ps C) (hr : Room m G.X.A) (ha : DA G (e :: es) Fs) (hk : k ≤ m := by decide) (hg : Gl G.X x := by rfl) (hdb : (x == ("__debug__" : Str)) = false := by decide)
    (he : starEach (e :: es) G.X.env = (false, eval e G.X.env) :: starEach es G.X.env := by rfl) (hpl : (backTo pos (starEach es G.X.env)).any (·.1) = false := by rfl) :
    DE G (.Call (.Name x p) (e :: es) [] pos) (fun ρ P => Fs ρ fun ds => C.C ds P (fun _ => False)) := by
  obtain ⟨f, fd, F, hm, hkp, hb⟩ := h.ex
  exact de_call F (hr.mono hk) hg hm hkp hb ha hdb he hpl
/-- the built-ins that a text uses, by their own names -/
structure Bt (mg : Str → Option Value) : Prop where
  type : mg "type" = none
  tuple : mg "tuple" = none
  str : mg "str" = none
  int : mg "int" = none
  list : mg "list" = none
  len : mg "len" = none
  min : mg "min" = none
  zip : mg "zip" = none
  range : mg "range" = none
  all : mg "all" = none
  sorted : mg "sorted" = none
  dict : mg "dict" = none
  isinstance : mg "isinstance" = none
  bool : mg "bool" = none
  repr : mg "repr" = none
  enumerate : mg "enumerate" = none
def CI (mg : Str → Option Value) (x : Str) (i : Int) : Prop := ∃ t, mg x = some (.int i t)
theorem de_ci {x : Str} {i : Int} (h : CI G.X.mg x i) (hg : Gl G.X x := by rfl) (hd : (x == ("__debug__" : Str)) = false := by decide) : DE G (.Name x pos) (fun _ P => P (.int i)) := by
  obtain ⟨t, h⟩ := h
  exact de_glob hg h (v := .int i) ⟨t, rfl⟩ (fun _ _ => rfl) hd
/-- a written tuple of texts -/
structure CT (K : PySem.W.Frag) (mg : Str → Option Value) (x : Str) (d : Dat) : Prop where
  ex : ∃ a, mg x = some (.ref a) ∧ ∀ S H, Dv K S H d (.ref a)
theorem de_ctup {x : Str} {d : Dat} (h : CT G.X.K G.X.mg x d) (hg : Gl G.X x := by rfl) (hd : (x == ("__debug__" : Str)) = false := by decide) : DE G (.Name x pos) (fun _ P => P d) := by
  obtain ⟨a, h, hv⟩ := h.ex
  exact de_glob hg h (v := .ref a) rfl hv hd
end
end DL
namespace DL
open PySem PySem.Spec PyProof.Rows L2
section
variable {G : Ctx} {S S' : Addr → Prop} {σ : L2.St} {H H' : Hp} {ρ : List Slot} {pos : Pos} {a b c : Expr} {Fa Fb Fc : FE}
/-- <= of ints, of texts -/
def leD : R2D
  | .int i, .int j, P => P (.bl (decide (i ≤ j)))
  | .str x, .str y, P => P (.bl (!decide (y.cps.toList < x.cps.toList)))
  | _, _, _ => False
theorem serves_le : Serves G (fun x y H Q => rI0 (fun i j => .bl (decide (i ≤ j))) x y H Q ∨ (∃ i j, x = .str i ∧ y = .str j ∧ Q (.bl (!decide (j.cps.toList < i.cps.toList))) H)) leD := by
  intro S σ ρ H x y dx dy P Q g hx hy h q
  cases dx with
  | int i =>
    cases dy with
    | int j => exact .inl ⟨i, j, hx, hy, q _ (.bl _) H (Stp.refl g.wld) rfl h⟩
    | _ => exact h.elim
  | str i =>
    cases dy with
    | str j => exact .inr ⟨i, j, hx, hy, q _ (.bl _) H (Stp.refl g.wld) rfl h⟩
    | _ => exact h.elim
  | _ => exact h.elim
theorem lift_chain {r r' : R2} {D D' : R2D} {ta tb tc : TE} (hr : Serves G r D) (hr' : Serves G r' D') (la : LiftE G ta Fa) (lb : LiftE G tb Fb) (lc : LiftE G tc Fc) :
    LiftE G (tChain r r' ta tb tc) (fun ρ P => Fa ρ fun x => Fb ρ fun y => D x y fun z => isB z fun k => if k = true then Fc ρ fun w => D' y w P else P (.bl false)) := by
  intro S σ H ρ P Q g h q
  refine la S σ H ρ _ _ g h fun v d H1 st hv h' => ?_
  have g1 := g.step st
  refine lb S σ H1 ρ _ _ g1 h' fun v2 d2 H2 st2 hv2 hp => ?_
  have g2 := g1.step st2
  refine hr S σ ρ H2 v v2 d d2 _ _ g2 (st2.dv g1 hv) hv2 hp fun v3 d3 H3 st3 hv3 hp => ?_
  obtain ⟨k, rfl, hp⟩ := isB_inv hp
  refine ⟨k, hv3, ?_⟩
  have g3 := g2.step st3
  have s13 := (st.trans st2).trans st3
  cases k with
  | true =>
    refine lc S σ H3 ρ _ _ g3 hp fun v4 d4 H4 st4 hv4 hp => ?_
    exact hr' S σ ρ H4 v2 v4 d2 d4 P Q (g3.step st4) (st4.dv g3 (st3.dv g2 hv2)) hv4 hp fun v5 d5 H5 st5 => q v5 d5 H5 ((s13.trans st4).trans st5)
  | false => exact q _ (.bl false) H3 s13 rfl hp
theorem de_chain_le (ha : DE G a Fa) (hb : DE G b Fb) (hc : DE G c Fc) (hm : lastMarks [CmpOp.LtE, CmpOp.LtE] [b, c] = false := by rfl) : DE G (.Compare a [.LtE, .LtE] [b, c] pos) (fun ρ P => Fa ρ fun x => Fb ρ fun y => leD x y fun z => isB z fun k => if k = true then Fc ρ fun w => leD y w P else P (.bl false)) := by
  obtain ⟨ta, h1, l1⟩ := ha.ex
  obtain ⟨tb, h2, l2⟩ := hb.ex
  obtain ⟨tc, h3, l3⟩ := hc.ex
  exact ⟨⟨_, pe_chain (.or op_le op_le_str) (.or op_le op_le_str) h1 h2 h3 hm, lift_chain serves_le serves_le l1 l2 l3⟩⟩
/-- -a -/
def negD (d : Dat) (P : Dat → Prop) : Prop := match d with
  | .int i => P (.int (-i))
  | _ => False
theorem de_neg (ha : DE G a Fa) : DE G (.UnaryOp .USub a pos) (fun ρ P => Fa ρ fun x => negD x P) := by
  obtain ⟨t, h, l⟩ := ha.ex
  refine ⟨⟨_, pe_un un_neg h, fun S σ H ρ P Q g h q => ?_⟩⟩
  refine l S σ H ρ _ _ g h fun v d H1 st hv hp => ?_
  cases d with
  | int i => exact ⟨i, hv, q _ (.int (-i)) H1 st rfl hp⟩
  | _ => exact hp.elim
/-- x += e, ints -/
theorem ds_augI {x : Str} {e : Expr} {F : FE} {pos' : Pos} (i : Nat) (he : DE G e F) (hN : G.X.N.Nodup) (hi : G.X.N[i]? = some x := by rfl) (hx : Loc G.X.env.scope x := by first | exact Or.inl rfl | exact Or.inr rfl) (hf : G.X.fn x = true ∨ G.X.env.scope.names.lookup x = some .local := by first | exact .inl rfl | exact .inr rfl) :
    DS G (.AugAssign (.Name x pos') .Add e pos) (fun D ρ => rd ρ i fun x => F ρ fun y => int0 (fun i j => .int (i + j)) x y fun z => D.nx (ρ.set i (.d z))) := by
  obtain ⟨t, h, l⟩ := he.ex
  refine ⟨⟨_, ps_aug (i := i) hN hi hx h ip_add hf, fun S σ H ρ D Dh g h q => ?_⟩⟩
  obtain ⟨d, e, hp⟩ := rd_inv h
  obtain ⟨v, e1, hv⟩ := g.slot_d e
  refine ⟨v, e1, l S σ H ρ _ _ g hp fun w d2 H1 st hw hp => ?_⟩
  have g1 := g.step st
  cases d with
  | int i1 =>
    cases d2 with
    | int j1 =>
      cases dv_int hv; cases dv_int hw
      exact ⟨i1, j1, rfl, rfl, q.nx _ _ _ _ (g1.set (d := .int (i1 + j1)) (v := .int (i1 + j1)) rfl) (st.fr g) hp⟩
    | _ => exact hp.elim
  | _ => exact hp.elim
/-- a, b = e1, e2 -/
def two {α : Type} (ds : List α) (P : α → α → Prop) : Prop := match ds with
  | [x, y] => P x y
  | _ => False
theorem ds_par {x y : Str} {Fs : FA} {px py pt : Pos} {kt k2 pt2} (i j : Nat) (ha : DA G [a, b] Fs) (hN : G.X.N.Nodup) (hc : G.X.calm = true := by rfl) (hi : G.X.N[i]? = some x := by rfl) (hj : G.X.N[j]? = some y := by rfl) (hij : i ≠ j := by decide)
    (hx : G.X.env.scope.names.lookup x = some .local := by rfl) (hy : G.X.env.scope.names.lookup y = some .local := by rfl)
    (hw : swappedStores [.Tuple [.Name x px, .Name y py] kt pt] (.Tuple [a, b] k2 pt2) G.X.env = pure (some [x, y]) := by rfl)
    (hs : swapsWithSole [.Tuple [.Name x px, .Name y py] kt pt] (.Tuple [a, b] k2 pt2) pos.line G.X.env = pure false := by rfl) :
    DS G (.Assign [.Tuple [.Name x px, .Name y py] kt pt] (.Tuple [a, b] k2 pt2) pos) (fun D ρ => Fs ρ fun ds => two ds fun d e => D.nx ((ρ.set i (.d d)).set j (.d e))) := by
  obtain ⟨t, h, l⟩ := ha.ex
  refine ⟨⟨_, ps_par hc hN hi hj hij hx hy h hw hs, fun S σ H ρ D Dh g h q => ?_⟩⟩
  refine l S σ H ρ _ _ g h fun vs ds H1 st hv hp => ?_
  unfold two at hp
  split at hp
  · obtain ⟨v, w, rfl, h1, h2⟩ := dvl2 hv
    exact ⟨v, w, rfl, q.nx _ _ _ _ (((g.step st).set h1).set h2) (st.fr g) hp⟩
  · exact hp.elim
end
end DL
namespace DL
open PySem PySem.Spec PyProof.Rows L2
theorem slot_type_ne : PySem.Slot "type" (cmpInfo .NotEq).2.1 "object.__ne__" :=
  .of (owner := "object") (n := "__ne__") (by rw [typeLookup_type, builtinLookup_eq_fast]; kernel_rfl) (by decide +kernel) (by decide +kernel) (by decide +kernel)
    (by first | exact .inl (by decide +kernel) | exact .inr (by decide +kernel)) (by rw [isSubtype_type]; kernel_rfl)
theorem slot_type_ne_refl : PySem.Slot "type" (cmpInfo .NotEq).2.2 "object.__ne__" :=
  .of (owner := "object") (n := "__ne__") (by rw [typeLookup_type, builtinLookup_eq_fast]; kernel_rfl) (by decide +kernel) (by decide +kernel) (by decide +kernel)
    (by first | exact .inl (by decide +kernel) | exact .inr (by decide +kernel)) (by rw [isSubtype_type]; kernel_rfl)
theorem meets_ne_same {X : String} : Meets (Builtin.«object.__ne__» ⟨[.type X, .type X], []⟩) (fun _ R s => s.TypeIs (.type X) "type" ∧ R (.ok (.ret (.bool false))) s) :=
  .of_wp fun prog w A R s h => by
    obtain ⟨hT, h⟩ := h
    unfold Builtin.«object.__ne__»
    simp only [slotArgs]
    refine wpAny_bind (wpAny_pure ?_)
    refine wpAny_bind (wpAny_cRoomFor_or (.inl rfl) ?_)
    refine wpAny_bind (wpAny_callSpecialIfBound?_slot (T := "type") hT TypeEq.slot_type_eq (call_gives TypeEq.slot_type_eq hT F.entry_object_eq (F.args_object_eq_2 _ _) (TypeEq.object_eq_same rfl (by simp)) ?_))
    show wpAny (model prog w) A.in1 (truthy (.bool true) >>= fun b => ret (.bool !b)) _ _ s
    exact wpAny_bind (wpAny_truthy_bool (wpAny_pure ⟨_, rfl, h⟩))
theorem meets_ne_other {X Y : String} (hne : (Value.type X == Value.type Y) = false) : Meets (Builtin.«object.__ne__» ⟨[.type X, .type Y], []⟩) (fun _ R s => s.TypeIs (.type X) "type" ∧ R (.ok (.ret .notImplemented)) s) :=
  .of_wp fun prog w A R s h => by
    obtain ⟨hT, h⟩ := h
    unfold Builtin.«object.__ne__»
    simp only [slotArgs]
    refine wpAny_bind (wpAny_pure ?_)
    refine wpAny_bind (wpAny_cRoomFor_or (.inl rfl) ?_)
    refine wpAny_bind (wpAny_callSpecialIfBound?_slot (T := "type") hT TypeEq.slot_type_eq (call_gives TypeEq.slot_type_eq hT F.entry_object_eq (F.args_object_eq_2 _ _) (TypeEq.object_eq_other rfl hne) ?_))
    exact wpAny_pure ⟨_, rfl, h⟩
section
variable {M : Model} {A : Around} {E : Value → Shared → Prop} {s : Shared}
theorem wpAny_richCompare_ne_same_decline {a b : Value} {T id : String} {k : Bool} {Q : Value → Shared → Prop} (ha : ∀ s' : Shared, s'.TypeIs a T) (hb : ∀ s' : Shared, s'.TypeIs b T)
    (h1 : PySem.Slot T (cmpInfo .NotEq).2.1 id) (h2 : PySem.Slot T (cmpInfo .NotEq).2.2 id) (hv : [a, b].any Value.onHeap = false) (hk : isSame a b = pure k)
    (hc : wpAny M A (call (.builtin id) [a, b]) (fun v s₁ => v = .notImplemented ∧ wpAny M A (call (.builtin id) [b, a]) (fun v s₂ => v = .notImplemented ∧ Q (.bool (!k)) s₂) E s₁) E s) :
    wpAny M A (richCompare .NotEq a b) Q E s := by
  rcases hi : cmpInfo CmpOp.NotEq with ⟨sym, f, r⟩
  rw [hi] at h1 h2
  simp only [richCompare, hi, (ha s).oneThing_none]
  try with_reducible refine wpAny_holding ?_
  refine wpAny_bind (wpAny_cRoomFor_or (.inl hv) ?_)
  refine wpAny_bind (wpAny_typeOf (ha s) (wpAny_bind (wpAny_typeOf (hb s) ?_)))
  simp only [bne_self_eq_false, Bool.false_eq_true, if_false, pure_bind, Bool.not_false, if_true]
  refine wpAny_bind (m := tryCompare a _ b) (wpAny_tryCompare_declines (ha s) h1 (wpAny_mono hc (fun v s₁ h₁ => ⟨h₁.1, ?_⟩) fun _ _ x => x))
  refine wpAny_bind (m := tryCompare b _ a) (wpAny_tryCompare_declines (hb s₁) h2 (wpAny_mono h₁.2 (fun v s₂ h₂ => ⟨h₂.1, ?_⟩) fun _ _ x => x))
  refine wpAny_bind (wpAny_rule (wpAny_bind (wpAny_of_eq hk (wpAny_pure h₂.2))))
end
section
variable {prog : Program} {w : World} {A : Around} {E : Value → Shared → Prop} {s : Shared} {Q : Value → Shared → Prop}
theorem ne_type_same {X : String} (hX : ∀ s' : Shared, s'.TypeIs (.type X) "type") (h : Q (.bool false) s) : wpAny (model prog w) A (compareOp .NotEq (.type X) (.type X)) Q E s := by
  show wpAny _ A (richCompare .NotEq _ _) Q E s
  exact wpAny_richCompare_same (T := "type") (hX s) (hX s) slot_type_ne
    (call_meets slot_type_ne (hX s) F.entry_object_ne (F.args_object_ne_2 _ _) meets_ne_same ⟨hX s, (by intro e; cases e), h⟩)
theorem ne_type_other {X Y : String} (hX : ∀ s' : Shared, s'.TypeIs (.type X) "type") (hY : ∀ s' : Shared, s'.TypeIs (.type Y) "type") (hne : (Value.type X == Value.type Y) = false) (h : Q (.bool true) s) : wpAny (model prog w) A (compareOp .NotEq (.type X) (.type Y)) Q E s := by
  have hne' : (Value.type Y == Value.type X) = false := by
    rw [Bool.eq_false_iff] at hne ⊢
    intro e
    exact hne (by rw [beq_iff_eq] at e ⊢; exact e.symm)
  show wpAny _ A (richCompare .NotEq _ _) Q E s
  exact wpAny_richCompare_ne_same_decline (T := "type") (k := false) hX hY slot_type_ne slot_type_ne_refl rfl (by rw [isSame_plain rfl, hne])
    (call_meets slot_type_ne (hX s) F.entry_object_ne (F.args_object_ne_2 _ _) (meets_ne_other hne)
      ⟨hX s, rfl, call_meets slot_type_ne_refl (hY s) F.entry_object_ne (F.args_object_ne_2 _ _) (meets_ne_other hne') ⟨hY s, rfl, h⟩⟩)
end
def rTyNe : R2 := fun x y H Q => ∃ a b, x = .ty a ∧ y = .ty b ∧ a ∈ metas ∧ b ∈ metas ∧ Q (.bl (!decide (a = b))) H
theorem op_tyNe {X : Cx} : OpR X (compareOp .NotEq) rTyNe := by
  intro pins s σ H x y v u Q I rx ry h
  obtain ⟨a, b, rfl, rfl, ma, mb, q⟩ := h
  cases (show v = Value.type a from rx)
  cases (show u = Value.type b from ry)
  by_cases e : a = b
  · subst e
    exact ne_type_same (meta_ty ma) ⟨.bl false, H, I, rfl, by simpa using q⟩
  · exact ne_type_other (meta_ty ma) (meta_ty mb) (metas_nodup ma mb e) ⟨.bl true, H, I, rfl, by simpa [e] using q⟩
section
variable {G : Ctx}
theorem lift_tyNe {te : TE} {F : FE} {T : String} (hT : T ∈ metas) (l : LiftE G te F) : LiftE G (tOp rTyNe (tCB (rTyD G.X.K) (tCons te tNil)) (tC (.ty T))) (fun ρ P => F ρ fun x => P (.bl (!decide (tyName x = T)))) := by
  intro S σ H ρ P Q g h q
  refine l S σ H ρ _ _ g h fun v d H1 st hv hp => ?_
  exact ⟨v, S, d, rfl, hv, _, _, rfl, rfl, tyName_mem d, hT, q _ (.bl _) H1 st rfl hp⟩
theorem de_ntype {e : Expr} {F : FE} {T : Str} {TT : String} {p1 p2 p3 p4 : Pos} (hT : TT ∈ metas := by decide) (he : DE G e F) (hg : Gl G.X "type" := by rfl) (hm : G.X.mg "type" = none) (hgT : Gl G.X T := by rfl) (hmT : G.X.mg T = none) (hv : bootBuiltins T = some (.type TT)) (hn : T ≠ "__name__") (hd : (T == ("__debug__" : Str)) = false)
    (hs : starEach [e] G.X.env = (false, eval e G.X.env) :: starEach [] G.X.env := by rfl) :
    DE G (.Compare (.Call (.Name "type" p1) [e] [] p2) [.NotEq] [.Name T p3] p4) (fun ρ P => F ρ fun x => P (.bl (!decide (tyName x = TT)))) := by
  obtain ⟨t, h, l⟩ := he.ex
  exact ⟨⟨_, pe_cmpR op_tyNe (pe_callTy call_tyD hg hm (by decide +kernel) (pa_cons h pa_nil hs) (he := hs)) (pe_bltn (v := V.ty TT) hgT hmT hv rfl hn hd) (nobehind _ (by decide) (by decide)), lift_tyNe hT l⟩⟩
theorem dt_ntype {e : Expr} {F : FE} {T : Str} {TT : String} {p1 p2 p3 p4 : Pos} (hT : TT ∈ metas := by decide) (he : DE G e F) (hg : Gl G.X "type" := by rfl) (hm : G.X.mg "type" = none) (hgT : Gl G.X T := by rfl) (hmT : G.X.mg T = none) (hv : bootBuiltins T = some (.type TT)) (hn : T ≠ "__name__") (hd : (T == ("__debug__" : Str)) = false)
    (hs : starEach [e] G.X.env = (false, eval e G.X.env) :: starEach [] G.X.env := by rfl) :
    DT G (.Compare (.Call (.Name "type" p1) [e] [] p2) [.NotEq] [.Name T p3] p4) (fun ρ P => F ρ fun x => P (!decide (tyName x = TT))) := by
  obtain ⟨t, h, l⟩ := he.ex
  refine ⟨⟨_, pt_cmpR op_tyNe (pe_callTy call_tyD hg hm (by decide +kernel) (pa_cons h pa_nil hs) (he := hs)) (pe_bltn (v := V.ty TT) hgT hmT hv rfl hn hd) (nobehind _ (by decide) (by decide)), fun S σ H ρ P Q g h q => ?_⟩⟩
  exact lift_tyNe hT l S σ H ρ (fun z => isB z P) _ g h fun v d H1 st hv hp => by
    obtain ⟨b, rfl, hp⟩ := isB_inv hp
    exact ⟨b, hv, q b H1 st hp⟩
end
end DL
namespace DL
open PySem PySem.Spec PyProof.Rows L2
section
variable {P : Dat → Prop} {PB : Bool → Prop} {b : Bool} {i j : Int} {x y : Str} {xs ys ds : List Dat} {PS : Str → Prop} {PI' : Int → Prop} {PL : List Dat → Prop}
theorem rd_here {ρ : List DL.Slot} {i : Nat} {x : Dat} (e : ρ[i]? = some (.d x)) (h : P x) : rd ρ i P := by unfold rd; rw [e]; exact h
theorem ownL_here {ρ : List DL.Slot} {i : Nat} {ds : List Dat} {P : List Dat → Prop} (e : ρ[i]? = some (.own ds)) (h : P ds) : ownL ρ i P := by unfold ownL; rw [e]; exact h
theorem isB_bl : isB (.bl b) PB = PB b := rfl
theorem isI_int : isI (.int i) PI' = PI' i := rfl
theorem isS_str : isS (.str x) PS = PS x := rfl
theorem someD_some {α : Type} {a : α} {P : α → Prop} : someD (some a) P = P a := rfl
theorem lenD_tup : lenD [.tup ds] P = P (.int (ds.length : Nat)) := rfl
theorem lenD_lst : lenD [.lst ds] P = P (.int (ds.length : Nat)) := rfl
theorem lenD_str : lenD [.str x] P = (x.length ≤ sizeLine ∧ P (.int (x.length : Nat))) := rfl
theorem ixD_tup : ixD (.tup ds) (.int i) P = someD (atI ds i) P := rfl
theorem ixD_lst : ixD (.lst ds) (.int i) P = someD (atI ds i) P := rfl
theorem eqD_int : eqD (.int i) (.int j) P = P (.bl (decide (i = j))) := rfl
theorem eqD_str : eqD (.str x) (.str y) P = P (.bl (decide (x = y))) := rfl
theorem neD_int : neD (.int i) (.int j) P = P (.bl (!decide (i = j))) := rfl
theorem neD_str : neD (.str x) (.str y) P = P (.bl (!decide (x = y))) := rfl
theorem addD_int : addD (.int i) (.int j) P = P (.int (i + j)) := rfl
theorem addD_str : addD (.str x) (.str y) P = (x.length + y.length ≤ sizeLine ∧ P (.str (x ++ y))) := rfl
theorem addD_lst : addD (.lst xs) (.lst ys) P = (xs.length + ys.length ≤ sizeLine ∧ P (.lst (xs ++ ys))) := rfl
theorem addD_tup : addD (.tup xs) (.tup ys) P = (xs.length + ys.length ≤ sizeLine ∧ P (.tup (xs ++ ys))) := rfl
theorem int0_int {f : Int → Int → Dat} : int0 f (.int i) (.int j) P = P (f i j) := rfl
theorem leD_int : leD (.int i) (.int j) P = P (.bl (decide (i ≤ j))) := rfl
theorem minD_int : minD [.int i, .int j] P = P (.int (if j < i then j else i)) := rfl
theorem seqOf_tup : seqOf (.tup ds) PL = PL ds := rfl
theorem seqOf_lst : seqOf (.lst ds) PL = PL ds := rfl
theorem tupD_tup {n : Nat} : tupD (.tup ds) n PL = (ds.length = n ∧ PL ds) := rfl
theorem consD_cons {α : Type} {a : α} {r : List α} {P : α → List α → Prop} : consD (a :: r) P = P a r := rfl
theorem tabIn_str {neg : Bool} {tab : Str → Option Dat} : tabIn neg tab (.str x) P = P (.bl (if neg then !(tab x).isSome else (tab x).isSome)) := rfl
theorem slD_tup {lo hi : Option Int} : slD (.tup ds) lo hi P = P (.tup (cutG ds lo hi)) := rfl
theorem slD_lst {lo hi : Option Int} : slD (.lst ds) lo hi P = P (.lst (cutG ds lo hi)) := rfl
theorem listD_tup : listD [.tup ds] P = P (.lst ds) := rfl
theorem listD_lst : listD [.lst ds] P = P (.lst ds) := rfl
theorem lstD_lst : lstD (.lst ds) PL = PL ds := rfl
theorem strD_int : strD [.int i] P = (i.natAbs.log2 < 1920 ∧ P (.str (toString i))) := rfl
theorem fmtD_str : fmtD (.str x) PS = (x.length ≤ sizeLine ∧ PS x) := rfl
theorem repD_tup : repD (.tup ds) (.int i) P = (ds ≠ [] ∧ 1 ≤ i ∧ i ≤ 1000 ∧ ds.length ≤ 1000 ∧ P (.tup (List.replicate i.toNat ds).flatten)) := rfl
theorem strsOf_map : ∀ zs : List Str, strsOf (zs.map Dat.str) = some zs
  | [] => rfl
  | z :: zs => by simp [strsOf, strsOf_map zs]
theorem inD_tup {neg : Bool} {zs : List Str} : inD neg (.str x) (.tup (zs.map Dat.str)) P = P (.bl (if neg then !decide (x ∈ zs) else decide (x ∈ zs))) := by
  show inOf neg x (zs.map Dat.str) P = _
  unfold inOf
  rw [strsOf_map]
theorem inD_tup2 {neg : Bool} {y z : Str} : inD neg (.str x) (.tup [.str y, .str z]) P = P (.bl (if neg then !decide (x ∈ [y, z]) else decide (x ∈ [y, z]))) := inD_tup (zs := [y, z])
theorem tyName_tup : tyName (.tup ds) = "tuple" := rfl
theorem tyName_str : tyName (.str x) = "str" := rfl
theorem tyName_int : tyName (.int i) = "int" := rfl
theorem at0 {α : Type} {a : α} {r : List α} : atI (a :: r) 0 = some a := atI_nat (j := 0) rfl
theorem at1 {α : Type} {a b : α} {r : List α} : atI (a :: b :: r) 1 = some b := atI_nat (j := 1) rfl
theorem at2 {α : Type} {a b c : α} {r : List α} : atI (a :: b :: c :: r) 2 = some c := atI_nat (j := 2) rfl
theorem at3 {α : Type} {a b c d : α} {r : List α} : atI (a :: b :: c :: d :: r) 3 = some d := atI_nat (j := 3) rfl
end
end DL
namespace DL
open PySem PySem.Spec PyProof.Rows L2
section
variable {G : Ctx} {S S' : Addr → Prop} {σ : L2.St} {H H' : Hp} {ρ : List Slot} {pos : Pos}
/-- an if, its test told first -/
theorem ds_ifc {c : Expr} {a b : List Stmt} {Fc : FT} {F F' : FS} (hc : DT G c Fc) (ha : DB G a F) (hb : DB G b F') : DS G (.If c a b pos) (fun D ρ => ∃ Pc : Bool → Prop, Fc ρ Pc ∧ (Pc true → F D ρ) ∧ (Pc false → F' D ρ)) := by
  obtain ⟨t0, h0, l0⟩ := hc.ex
  obtain ⟨t, h, l⟩ := ha.ex
  obtain ⟨u, h2, l2⟩ := hb.ex
  refine ⟨⟨_, ps_if h0 h h2, fun S σ H ρ D Dh g h q => ?_⟩⟩
  obtain ⟨Pc, hc, h1, h2⟩ := h
  refine l0 S σ H ρ _ _ g hc fun b H1 st hp => ?_
  cases b with
  | true => exact l S σ H1 ρ D Dh (g.step st) (h1 hp) (q.from (st.fr g))
  | false => exact l2 S σ H1 ρ D Dh (g.step st) (h2 hp) (q.from (st.fr g))
/-- name = e, the value told first -/
theorem ds_setc {e : Expr} {x : Str} {pos' : Pos} {F : FE} (i : Nat) (he : DE G e F) (hN : G.X.N.Nodup) (hi : G.X.N[i]? = some x := by rfl) (hx : Loc G.X.env.scope x := by first | exact Or.inl rfl | exact Or.inr rfl) (hs : swapsWith e (some (.Name x pos')) pos.line G.X.env = pure false := by rfl)
    (hf : G.X.fn x = true ∨ G.X.env.scope.names.lookup x = some .local := by first | exact .inl rfl | exact .inr rfl) : DS G (.Assign [.Name x pos'] e pos) (fun D ρ => ∃ Pc : Dat → Prop, F ρ Pc ∧ ∀ d, Pc d → D.nx (ρ.set i (.d d))) := by
  obtain ⟨t, h, l⟩ := he.ex
  refine ⟨⟨_, ps_set (i := i) hN hi hx h hs hf, fun S σ H ρ D Dh g h q => ?_⟩⟩
  obtain ⟨Pc, hc, h1⟩ := h
  exact l S σ H ρ _ _ g hc fun v d H1 st hv hp => q.nx S _ H1 _ ((g.step st).set hv) (st.fr g) (h1 d hp)
/-- a for, by a word of what is left and the slots -/
theorem ds_forI {tg iter : Expr} {body : List Stmt} {F : FI} {g : FG} {Fb : FS} (hp : PassesOwn (model G.X.prog G.X.w) G.X.A G.X.env G.X.xe) (hc : G.X.calm = true) (hi : DI G tg iter F) (hg : DG G tg g) (hb : DB G body Fb) (hs : ∀ x, foldedSetIterable iter G.X.env x = pure x := by intro _; rfl) :
    DS G (.For tg iter body [] pos) (fun D ρ => ∃ Inv : List Dat → List Slot → Prop, F ρ (fun items => Inv items ρ) ∧ (∀ ρ, Inv [] ρ → D.nx ρ) ∧ ∀ d ds ρ, Inv (d :: ds) ρ → g d ρ fun ρ' => Fb { nx := Inv ds, ct := Inv ds, bk := D.nx, rt := D.rt } ρ') := by
  obtain ⟨w, h1, lw⟩ := hi.ex
  obtain ⟨t, h2, lg⟩ := hg.ex
  obtain ⟨u, h3, lb⟩ := hb.ex
  refine ⟨⟨_, ps_for hp hc h1 h2 h3 hs, ?_⟩⟩
  intro S σ H ρ D Dh gd h q
  obtain ⟨Inv, h, k0, ks⟩ := h
  refine lw S σ H ρ _ _ gd h fun J items H1 st wk hp => ?_
  have g1 := gd.step st
  have fr1 : Fr S H S H1 := st.fr gd
  refine ⟨fun i m σ' H' => m = items.length - i ∧ i ≤ items.length ∧ ∃ S' ρ', Gd G S' σ' H' ρ' ∧ Fr S H1 S' H' ∧ Inv (items.drop i) ρ', ⟨items.length, rfl, Nat.zero_le _, S, ρ, g1, Fr.refl _ _, hp⟩, ?_⟩
  rintro i m σ' H' ⟨rfl, hi, S', ρ', g', fr, hf⟩
  by_cases hlt : i < items.length
  · refine .inr ⟨wk.go i S' H' hlt fr, fun σ2 H2 => ∃ S2 ρ2, Gd G S2 σ2 H2 ρ2 ∧ Fr S H1 S2 H2 ∧ Inv (items.drop (i + 1)) ρ2, fun σ2 H2 ⟨S2, ρ2, a1, a2, a3⟩ => ⟨items.length - (i + 1), by omega, rfl, hlt, S2, ρ2, a1, a2, a3⟩, fun x H2 y => ?_⟩
    obtain ⟨s2, hd⟩ := wk.yld i _ S' σ' ρ' H' x H2 (List.getElem?_eq_getElem hlt) g' fr y
    have g2 := g'.step s2
    rw [List.drop_eq_getElem_cons hlt] at hf
    refine lg S' σ' H2 ρ' _ x _ _ g2 hd (ks _ _ _ hf) fun σ3 ρ3 g3 hb => ?_
    have frx : Fr S' H' S' H2 := s2.fr g'
    refine lb S' σ3 H2 ρ3 _ _ g3 hb ⟨fun S4 σ4 H4 ρ4 g4 fr4 hn => ⟨S4, ρ4, g4, (fr.trans frx).trans fr4, hn⟩, q.rt, fun S4 σ4 H4 ρ4 g4 fr4 hn => q.nx S4 σ4 H4 ρ4 g4 (fr1.trans ((fr.trans frx).trans fr4)) hn, fun S4 σ4 H4 ρ4 g4 fr4 hn => ⟨S4, ρ4, g4, (fr.trans frx).trans fr4, hn⟩⟩
  · have e : i = items.length := by omega
    subst e
    rw [List.drop_length] at hf
    exact .inl ⟨wk.stop S' H' fr, q.nx S' σ' H' ρ' g' (fr1.trans fr) (k0 _ hf)⟩
end
end DL
namespace DL
open PySem PySem.Spec PyProof.Rows L2
theorem zip_pairs : ∀ {kvs : List (Key × V)} {its its2 : List Value}, Vals (kvs.map fun kv => kV kv.1) its → Vals (kvs.map (·.2)) its2 →
    ∃ prs : List (Key × Value), KV kvs prs ∧ prs.length = kvs.length ∧ ∀ (P : Program) (w : World) (j : Nat) (k v : Value), its[j]? = some k → its2[j]? = some v → ∃ key, prs[j]? = some (key, v) ∧ (mixKind P w).is key k = true
  | [], its, its2, h1, h2 => ⟨[], .nil, rfl, fun P w j k v e => by cases h1; simp at e⟩
  | (key, x) :: r, its, its2, h1, h2 => by
    rw [List.map_cons] at h1 h2
    cases h1 with
    | cons a1 t1 =>
      cases h2 with
      | cons a2 t2 =>
        rename_i u us u2 us2
        obtain ⟨prs, rel, hl, hp⟩ := zip_pairs t1 t2
        refine ⟨(key, u2) :: prs, .cons ⟨rfl, a2⟩ rel, by rw [List.length_cons, List.length_cons, hl], fun P w j k v e1 e2 => ?_⟩
        cases j with
        | zero =>
          cases Option.some.inj e1
          cases Option.some.inj e2
          exact ⟨key, rfl, kV_is a1⟩
        | succ j => exact hp P w j k v e1 e2
def tDictZip (K : PySem.W.Frag) (ta : TA) : TE := fun σ H Q => ta σ H fun vs H1 => ∃ (l1 l2 : Addr) (kvs : List (Key × V)), vs = [.ref l1, .ref l2] ∧ SqL K H1 l1 (kvs.map fun kv => kV kv.1) ∧ SqL K H1 l2 (kvs.map (·.2)) ∧ ∀ p, H1 p = none → Q (.ref p) (upd H1 p (.dK (mergeK [] kvs)))
theorem pe_dictzip {X : Cx} {a b : Expr} {ta : TA} {p p2 pos pos2 : Pos} (hcalm : X.calm = true) (hgd : Gl X "dict") (hmd : X.mg "dict" = none) (hgz : Gl X "zip") (hmz : X.mg "zip" = none) (ha : PA X [a, b] ta)
    (hs : starEach [a, b] X.env = (false, eval a X.env) :: starEach [b] X.env := by rfl) (hpl : (backTo pos2 (starEach [b] X.env)).any (·.1) = false := by rfl)
    (hs2 : starEach [.Call (.Name "zip" p2) [a, b] [] pos2] X.env = (false, eval (.Call (.Name "zip" p2) [a, b] [] pos2) X.env) :: starEach [] X.env := by rfl) (hpl2 : (backTo pos (starEach [] X.env)).any (·.1) = false := by rfl) :
    PE X (.Call (.Name "dict" p) [.Call (.Name "zip" p2) [a, b] [] pos2] [] pos) (tDictZip X.K ta) := by
  refine ⟨fun pins s σ H Q I h => ?_⟩
  refine wpAny_Call_Name_kw (ld_blt I hgd hmd (u := .type "dict") (by decide +kernel) ?_)
  refine PyProof.Rows.callWith_type1 ?_ hs2 hpl2
  rw [hs2]
  show wpAny _ _ (spliced ((false, eval _ X.env) :: backTo pos (starEach [] X.env))) _ _ s
  refine Calls.spliced_cons ?_
  refine Call_ (ld_blt I hgz hmz PyProof.Rows.boot_zip (PyProof.Rows.callWith_type1 (thn (ha.run pos2 pins s σ H _ I h) fun us s1 ⟨vs, H1, I1, r1, q1⟩ => ?_) hs hpl))
  obtain ⟨l1, l2, kvs, ex, hqx, hqy, q⟩ := q1
  subst ex
  obtain ⟨u1, u2, e1, ra, rb⟩ := vals2 r1
  subst e1
  obtain rfl : u1 = Value.ref l1 := ra
  obtain rfl : u2 = Value.ref l2 := rb
  obtain ⟨its, rv, p1, hz1⟩ := I1.list hqx
  obtain ⟨its2, rv2, p2', hz2⟩ := I1.list hqy
  have ln1 := rv.length
  have ln2 := rv2.length
  rw [List.length_map] at ln1 ln2 hz1 hz2
  refine call_zip_2 p1.isList p2'.isList fun h' hz hTI hTO h1 h2 hsz hk => ?_
  refine Calls.spliced_nil ?_
  obtain ⟨prs, rel, hl, hp⟩ := zip_pairs rv rv2
  have hh : X.A.handled = none := I1.ok.hd hcalm
  have ap := PySem.W.ktu_apart s1.heap.objs.size l1 l2 p1.lt p2'.lt
  refine PySem.call_dict_pairs (knd := mixKind X.prog X.w) (kvs := prs) (PairArg.zip _ _ _ _ _ l1 l2 ap its.toArray its2.toArray) hh ?_ ?_ ?_ ?_
  · exact ⟨hz, hTI, ⟨_, _, hTO⟩, h1, h2, p1.isList.at fun o e => hk _ o e, p2'.isList.at fun o e => hk _ o e⟩
  · refine ⟨?_, fun i key v ⟨e1, e2⟩ => ?_⟩
    · rw [hl]; simp; omega
    · exact hp _ _ i key v (by simpa using e1) (by simpa using e2)
  · simp; omega
  · intro h2' tk hd' k
    have kk : ∀ b o, s1.heap.get? b = some o → h2'.get? b = some o := fun b o e => k b o (fun z => by
      simp only [List.mem_cons, List.not_mem_nil, or_false] at z
      have hb := Heap.lt_size e
      rcases z with z | z | z | z
      · rw [z] at hb; exact absurd hb (Nat.not_lt.mpr (Nat.le_add_right _ _))
      · rw [z] at hb; exact absurd hb (Nat.not_lt.mpr (Nat.le_add_right _ _))
      · rw [z] at hb; exact absurd hb (Nat.lt_irrefl _)
      · rw [z] at hb; exact absurd hb (Nat.not_lt.mpr (Nat.le_add_right _ _))) (hk _ _ e)
    have hm : (h'.objs.size == sysModules) = false := beq_eq_false_iff_ne.mpr (Nat.ne_of_gt (Nat.lt_of_lt_of_le I1.big (by rw [hsz]; exact Nat.le_add_right _ _)))
    have hlen : (mergeK [] kvs).length ≤ sizeLine := Nat.le_trans (length_mergeK kvs []) (by rw [List.length_nil, Nat.zero_add]; exact hz1)
    exact ⟨.ref h'.objs.size, upd H1 h'.objs.size (.dK (mergeK [] kvs)), I1.laid (t' := tk) kk (by omega) (show ObjOk X.prog X.w _ _ _ (.dK (mergeK [] kvs)) from ⟨hlen, hm, merged [] prs, KV.merge rel .nil, hd'⟩), rfl, q _ (I1.hok.fresh (by omega))⟩
/-! ### what such a dict holds -/
def putP (l : List (Key × Dat)) (k : Key) (d : Dat) : List (Key × Dat) := if (l.any fun kv => decide (kv.1 = k)) = true then l.map (fun kv => if kv.1 = k then (kv.1, d) else kv) else l ++ [(k, d)]
def mergeP (l more : List (Key × Dat)) : List (Key × Dat) := more.foldl (fun acc kv => putP acc kv.1 kv.2) l
def dicP (l : List (Key × Dat)) : Dat := .dic (l.map (·.1)) (l.map (·.2))
def RelP (K : PySem.W.Frag) (S : Addr → Prop) (H : Hp) (kvs : List (Key × V)) (l : List (Key × Dat)) : Prop := kvs.map (·.1) = l.map (·.1) ∧ DvL K S H (l.map (·.2)) (kvs.map (·.2))
section
variable {K : PySem.W.Frag} {S : Addr → Prop} {H : Hp}
theorem RelP.any {k : Key} : ∀ {kvs : List (Key × V)} {l : List (Key × Dat)}, kvs.map (·.1) = l.map (·.1) → (kvs.any fun kv => decide (kv.1 = k)) = (l.any fun kv => decide (kv.1 = k))
  | [], [], _ => rfl
  | [], _ :: _, h => by cases h
  | _ :: _, [], h => by cases h
  | x :: r, y :: t, h => by
    rw [List.map_cons, List.map_cons] at h
    injection h with h1 h2
    rw [List.any_cons, List.any_cons, RelP.any h2, h1]
theorem RelP.over {k : Key} {v : V} {d : Dat} (hd : Dv K S H d v) : ∀ {kvs : List (Key × V)} {l : List (Key × Dat)}, RelP K S H kvs l → RelP K S H (kvs.map fun kv => if kv.1 = k then (kv.1, v) else kv) (l.map fun kv => if kv.1 = k then (kv.1, d) else kv)
  | [], [], h => h
  | [], _ :: _, ⟨h, _⟩ => by cases h
  | _ :: _, [], ⟨h, _⟩ => by cases h
  | x :: r, y :: t, ⟨h, h'⟩ => by
    rw [List.map_cons, List.map_cons] at h
    injection h with h1 h2
    obtain ⟨z, r', e1, h3, h4⟩ := (h' : ∃ z r', _ = z :: r' ∧ Dv K S H y.2 z ∧ DvL K S H (t.map (·.2)) r')
    rw [List.map_cons] at e1
    injection e1 with ea eb
    subst ea; subst eb
    obtain ⟨g1, g2⟩ := RelP.over (k := k) hd (kvs := r) (l := t) ⟨h2, h4⟩
    rw [List.map_cons, List.map_cons]
    by_cases hk : x.1 = k
    · rw [if_pos hk, if_pos (h1 ▸ hk)]
      exact ⟨by rw [List.map_cons, List.map_cons, g1, h1], ⟨v, _, rfl, hd, g2⟩⟩
    · rw [if_neg hk, if_neg (h1 ▸ hk)]
      exact ⟨by rw [List.map_cons, List.map_cons, g1, h1], ⟨x.2, _, rfl, h3, g2⟩⟩
theorem RelP.put {k : Key} {v : V} {d : Dat} {kvs : List (Key × V)} {l : List (Key × Dat)} (h : RelP K S H kvs l) (hd : Dv K S H d v) : RelP K S H (putK kvs k v) (putP l k d) := by
  unfold putK putP
  rw [RelP.any h.1]
  split
  · exact h.over hd
  · exact ⟨by rw [List.map_append, List.map_append, h.1]; rfl, by rw [List.map_append, List.map_append]; exact h.2.append ⟨v, [], rfl, hd, rfl⟩⟩
theorem RelP.merge : ∀ {more : List (Key × V)} {lm : List (Key × Dat)} {kvs : List (Key × V)} {l : List (Key × Dat)}, RelP K S H kvs l → RelP K S H more lm → RelP K S H (mergeK kvs more) (mergeP l lm)
  | [], [], _, _, h, _ => h
  | [], _ :: _, _, _, _, ⟨h, _⟩ => by cases h
  | _ :: _, [], _, _, _, ⟨h, _⟩ => by cases h
  | x :: r, y :: t, kvs, l, h, ⟨e, h'⟩ => by
    rw [List.map_cons, List.map_cons] at e
    injection e with h1 h2
    obtain ⟨z, r', e1, h3, h4⟩ := (h' : ∃ z r', _ = z :: r' ∧ Dv K S H y.2 z ∧ DvL K S H (t.map (·.2)) r')
    rw [List.map_cons] at e1
    injection e1 with ea eb
    subst ea; subst eb
    have q := h.put (k := x.1) h3
    have := RelP.merge (more := r) (lm := t) (h1 ▸ q) ⟨h2, h4⟩
    unfold mergeK mergeP
    rw [List.foldl_cons, List.foldl_cons, ← h1]
    unfold mergeK mergeP at this
    rw [← h1] at this
    exact this
end
/-- dict(zip(texts, things)), lists of one length -/
def dictzipD (ds : List Dat) (P : Dat → Prop) : Prop := two ds fun x y => lstD x fun xs => lstD y fun ys => someD (strsOf xs) fun zs => zs.length = ys.length ∧ P (dicP (mergeP [] ((zs.map Sum.inr).zip ys)))
section
variable {G : Ctx} {S : Addr → Prop} {H : Hp} {pos : Pos} {a b : Expr}
theorem de_dictzip {Fs : FA} {p p2 pos2 : Pos} (hc : G.X.calm = true) (hmd : G.X.mg "dict" = none) (hmz : G.X.mg "zip" = none) (ha : DA G [a, b] Fs) (hgd : Gl G.X "dict" := by rfl) (hgz : Gl G.X "zip" := by rfl)
    (hs : starEach [a, b] G.X.env = (false, eval a G.X.env) :: starEach [b] G.X.env := by rfl) (hpl : (backTo pos2 (starEach [b] G.X.env)).any (·.1) = false := by rfl)
    (hs2 : starEach [.Call (.Name "zip" p2) [a, b] [] pos2] G.X.env = (false, eval (.Call (.Name "zip" p2) [a, b] [] pos2) G.X.env) :: starEach [] G.X.env := by rfl) (hpl2 : (backTo pos (starEach [] G.X.env)).any (·.1) = false := by rfl) :
    DE G (.Call (.Name "dict" p) [.Call (.Name "zip" p2) [a, b] [] pos2] [] pos) (fun ρ P => Fs ρ fun ds => dictzipD ds P) := by
  obtain ⟨t, h, l⟩ := ha.ex
  refine ⟨⟨_, pe_dictzip hc hgd hmd hgz hmz h hs hpl hs2 hpl2, fun S σ H ρ P Q g h q => ?_⟩⟩
  refine l S σ H ρ _ _ g h fun vs ds H1 st hv hp => ?_
  unfold dictzipD two at hp
  split at hp
  · rename_i x y
    obtain ⟨v, w, rfl, h1, h2⟩ := dvl2 hv
    cases x with
    | lst xs =>
      cases y with
      | lst ys =>
        obtain ⟨zs, e, hl, hp⟩ := someD_inv hp
        obtain ⟨l1, us, rfl, n1, e1, hl1⟩ := dv_lst h1
        obtain ⟨l2, us2, rfl, n2, e2, hl2⟩ := dv_lst h2
        rw [strsOf_eq e] at hl1
        have hu := hl1.strs
        have g1 := g.step st
        have len2 := hl2.len
        have ezip : ((zs.map (Sum.inr (α := Int))).zip us2).map (fun kv => kV kv.1) = us := by
          rw [hu]
          have : (fun kv : Key × V => kV kv.1) = (fun k : Key => kV k) ∘ (fun kv : Key × V => kv.1) := rfl
          rw [this, ← List.map_map, List.map_fst_zip (by simp; omega), List.map_map]
          rfl
        have ezip2 : ((zs.map (Sum.inr (α := Int))).zip us2).map (·.2) = us2 := List.map_snd_zip (by simp; omega)
        refine ⟨l1, l2, (zs.map Sum.inr).zip us2, rfl, by rw [ezip]; exact .inl (.inl e1), by rw [ezip2]; exact .inl (.inl e2), fun p np => ?_⟩
        have rel : RelP G.X.K S H1 ((zs.map (Sum.inr (α := Int))).zip us2) ((zs.map Sum.inr).zip ys) := by
          refine ⟨?_, ?_⟩
          · rw [List.map_fst_zip (by simp; omega), List.map_fst_zip (by simp; omega)]
          · rw [ezip2, List.map_snd_zip (by simp; omega)]; exact hl2
        have rel2 := RelP.merge (kvs := []) (l := []) ⟨rfl, rfl⟩ rel
        have st2 : Stp G H1 (upd H1 p (.dK (mergeK [] ((zs.map (Sum.inr (α := Int))).zip us2)))) := Stp.new g1.wld np
        refine q _ (dicP (mergeP [] ((zs.map Sum.inr).zip ys))) _ (st.trans st2) ⟨p, _, rfl, g1.fresh np, upd_same, rel2.1, st2.dvl g1 rel2.2⟩ hp
      | _ => exact hp.elim
    | _ => exact hp.elim
  · exact hp.elim
end
end DL
namespace DL
open PySem PySem.Spec PyProof.Rows L2
/-! ### a def that may raise -/
/-- the context of a pure def's body that may raise -/
abbrev ctxX (P : Program) (w : World) (K : PySem.W.Frag) (mg : Str → Option Value) (base : Heap) (N : List Str) (qual : Str) (sc : Scope) (f : Addr) (cdv : Value) (A : Around) (outer : List Env) (s : Shared) (H : Hp) (S : Addr → Prop) (hS : ∀ a, S a → ∃ o, H a = some o) (E : XK) (EX : Exc → Prop)
    (el : ∀ (C d : Addr) (fs : List (Str × V)) (ds : List (Str × Dat)) (H' : Hp), EX (C, ds) → Evl.Ex H H' → H' d = some (.xd fs) → fs.map (·.1) = ds.map (·.1) → DvL K S H' (ds.map (·.2)) (fs.map (·.2)) → H d = none → E (.ref C) (some d) H') : Ctx where
  X := cxOf (L2.CX P w) P w K mg base N qual sc f cdv A outer s H E
  H0 := H
  S0 := S
  W := Evl.Ex H
  clo := fun H1 H2 h k _ a o e => k a o o e (h a o e)
  top := fun H1 h a o e => ⟨o, h a o e⟩
  s0 := hS
  E := E
  EX := EX
  elink := el
/-- THE RULE for a pure def that may raise -/
theorem fn_pureX {P : Program} {w : World} {K : PySem.W.Frag} {mg : Str → Option Value} {base : Heap} {x qual : Str} {st : Stmt} {f : Addr} {fd : FuncData} {N ps : List Str} {k : Nat} {C : Con} (F : Fun K x qual st f fd) (Sc : FnScope N ps (defScope st)) (len : ∀ ds P X, C.C ds P X → ds.length = ps.length)
    (hbody : ∀ (cdv : Value) (A : Around) (outer : List Env) (s : Shared) (H : Hp) (S : Addr → Prop) (hS : ∀ a, S a → ∃ o, H a = some o) (E : XK) (EX : Exc → Prop) (el), Room k (A.deeper (envOfC qual (defScope st) s.heap.objs.size f cdv)) →
      ∃ T, DB (ctxX P w K mg base N qual (defScope st) f cdv A outer s H S hS E EX el) (defBody st) T ∧ ∀ ds R, C.C ds R EX → T { nx := fun _ => R .non, rt := R } (start N.length ds)) : FnOk P w K mg base (L2.CX P w) (k + 1) f fd ps (spD K C) := by
  have hpl : ps.length ≤ N.length := by have := congrArg List.length Sc.pre; rw [List.length_take] at this; omega
  refine F.okX Sc (fun vs H Q E ⟨S, ds, _, hv, hc⟩ => by rw [hv.len]; exact len _ _ _ hc) fun cdv A outer s H vs Q E hr h => ?_
  obtain ⟨S, ds, hS, hv, hc⟩ := h
  obtain ⟨T, ⟨t, hp, l⟩, hT⟩ := hbody cdv A outer s H S hS E (fun x => ∀ fs d H', Evl.Ex H H' → H d = none → H' d = some (.xd fs) → fs.map (·.1) = x.2.map (·.1) → DvL K S H' (x.2.map (·.2)) (fs.map (·.2)) → E (.ref x.1) (some d) H')
    (fun C d fs ds H' q e h1 h2 h3 h4 => q fs d H' e h4 h1 h2 h3) hr
  refine ⟨t, hp, ?_⟩
  refine l S _ H (start N.length ds) _ _ (gd_start (G := ctxX P w K mg base N qual (defScope st) f cdv A outer s H S hS E _ _) (fun _ _ e => e) hS hv (by rw [len _ _ _ hc]; exact hpl)) (hT ds _ hc) ?_
  exact ⟨fun S' σ' H' ρ' g fr q => q .non H' g.wld rfl, fun v d H' hw hv q => q v H' hw hv, fun _ _ _ _ _ _ z => z.elim, fun _ _ _ _ _ _ z => z.elim⟩
section
variable {G : Ctx} {S : Addr → Prop} {σ : L2.St} {H H' : Hp} {ρ : List Slot} {pos : Pos}
abbrev TkG (G : Ctx) : Prop := Takes G.X (fun cls d _ H => G.E cls d H)
/-- a raised one's way out -/
theorem elink' (g : Gd G S σ H ρ) {x : Exc} {fs : List (Str × V)} {d : Addr} (h : G.EX x) (e : Evl.Ex H H') (hd : H d = none) (hf : H' d = some (.xd fs)) (hn : fs.map (·.1) = x.2.map (·.1)) (hv : DvL G.X.K S H' (x.2.map (·.2)) (fs.map (·.2))) : G.E (.ref x.1) (some d) H' :=
  G.elink x.1 d fs x.2 H' h (Stp.ex g.wld e).wld hf hn (hv.move fun a o n q => ⟨fun z => n (g.sub a z), q⟩) (g.fresh0 hd)
theorem spD_useX {C : Con} {vs : List V} {ds : List Dat} {P : Dat → Prop} {Q : VK} (g : Gd G S σ H ρ) (hv : DvL G.X.K S H ds vs) (h : C.C ds P G.EX) (q : ∀ v d H', Stp G H H' → Dv G.X.K S H' d v → P d → Q v H') : spD G.X.K C vs H Q G.E :=
  ⟨S, ds, g.all, hv, C.mono ds _ _ _ _ h (fun d hp v H' e hd => q v d H' (Stp.ex g.wld e) hd hp) fun x hx fs d H' e hd hf hn hv => elink' g hx e hd hf hn hv⟩
/-- a def by its name that may raise -/
structure CalleeX (P : Program) (w : World) (K : PySem.W.Frag) (mg : Str → Option Value) (base : Heap) (x : Str) (k : Nat) (ps : List Str) (C : Con) : Prop where
  ex : ∃ f fd, FnOk P w K mg base (L2.CX P w) k f fd ps (spD K C) ∧ mg x = some (.ref f) ∧ PySem.W.keepIn K (.ref f) = true ∧ Binds K fd ps []
theorem de_fnX {x : Str} {k m : Nat} {ps : List Str} {C : Con} {p : Pos} {e : Expr} {es : List Expr} {Fs : FA} (h : CalleeX G.X.prog G.X.w G.X.K G.X.mg G.X.base x k ps C) (hr : Room m G.X.A) (ha : DA G (e :: es) Fs) (hk : k ≤ m := by decide) (tk : TkG G := by exact takes_of rfl rfl rfl rfl) (hg : Gl G.X x := by rfl) (hdb : (x == ("__debug__" : Str)) = false := by decide)
    (he : starEach (e :: es) G.X.env = (false, eval e G.X.env) :: starEach es G.X.env := by rfl) (hpl : (backTo pos (starEach es G.X.env)).any (·.1) = false := by rfl) :
    DE G (.Call (.Name x p) (e :: es) [] pos) (fun ρ P => Fs ρ fun ds => C.C ds P G.EX) := by
  obtain ⟨f, fd, F, hm, hkp, hb⟩ := h.ex
  obtain ⟨t, h, l⟩ := ha.ex
  refine ⟨⟨_, pe_call F (hr.mono hk) hg hm hkp hb .nil (passes_call tk fun _ _ _ _ z => z) h hdb he hpl, fun S σ H ρ P Q g h q => ?_⟩⟩
  refine l S σ H ρ _ _ g h fun vs ds H1 st hv hp => ?_
  rw [List.append_nil]
  exact spD_useX (g.step st) hv hp fun v d H2 st2 => q v d H2 (st.trans st2)
/-! ### an own error over ValueError, of one field -/
/-- what its __init__ keeps -/
def spInit (K : PySem.W.Frag) (fld : Str) : Sp := fun vs H Q E => ∃ (a C : Addr) (y : V), vs = [.ref a, y] ∧ OexC K C ∧ PySem.W.findIn K (.ref C) fld = some none ∧ H a = some (exo a C none) ∧ ∀ dx, H dx = none → dx ≠ a → Q .non (upd (upd H dx (exd dx [(fld, y)])) a (exo a C (some dx)))
/-- what the written part says of it -/
structure OwnX (P : Program) (w : World) (K : PySem.W.Frag) (mg : Str → Option Value) (base : Heap) (x : Str) (C : Addr) (fld : Str) (k : Nat) : Prop where
  T : OexC K C
  m : mg x = some (.ref C)
  no : PySem.W.findIn K (.ref C) fld = some none
  ex : ∃ fI fd ps, PySem.W.findIn K (.ref C) "__init__" = some (some (.ref fI)) ∧ PySem.W.typeIn K (.ref fI) = some (.type "function") ∧ FnOk P w K mg base CX0 k fI fd ps (spInit K fld) ∧ Binds K fd ps []
theorem ds_raise {x fld : Str} {C : Addr} {k m : Nat} {e : Expr} {F : FE} {p pos pos' : Pos} (O : OwnX G.X.prog G.X.w G.X.K G.X.mg G.X.base x C fld k) (hr : Room m G.X.A) (he : DE G e F) (hk : k + 1 ≤ m := by decide) (hc : G.X.calm = true := by rfl) (tk : TkG G := by exact takes_of rfl rfl rfl rfl) (hg : Gl G.X x := by rfl) (hdb : (x == ("__debug__" : Str)) = false := by decide)
    (hs : starEach [e] G.X.env = (false, eval e G.X.env) :: starEach [] G.X.env := by rfl) (hpl : (backTo pos (starEach [] G.X.env)).any (·.1) = false := by rfl) :
    DS G (.Raise (some (.Call (.Name x p) [e] [] pos)) none pos') (fun _ ρ => F ρ fun d => G.EX (C, [(fld, d)])) := by
  obtain ⟨fI, fd, ps, i1, i2, F1, hb⟩ := O.ex
  obtain ⟨t, h, l⟩ := he.ex
  have hx : Passes CX0 G.X (fun _ _ _ => False) := pass0
  refine ⟨⟨_, ps_raise hc tk (pmk_oex O.T i1 i2 F1 (hr.mono hk) hb .nil hx hg O.m (pa_cons h pa_nil hs) hdb hs hpl), fun S σ H ρ D Dh g h q => ?_⟩⟩
  refine l S σ H ρ _ _ g h fun v d H1 st hv hp => ?_
  refine ⟨show 1 ≤ 1000 by decide, fun a na => ?_⟩
  have g1 := g.step st
  refine ⟨a, C, v, rfl, O.T, O.no, upd_same, fun dx ndx dne => ⟨rfl, dx, [(fld, v)], upd_same, ?_, ?_, ?_⟩⟩
  · rw [upd_ne dne, upd_same]
  · rw [upd_ne dne] at ndx; exact ndx
  · rw [upd_ne dne] at ndx
    have ex : Evl.Ex H1 (upd (del (upd (upd (upd H1 a (exo a C none)) dx (exd dx [(fld, v)])) a (exo a C (some dx))) a) dx (.xd [(fld, v)])) := fun b o e => by
      have h1 : b ≠ dx := fun z => by rw [z, ndx] at e; cases e
      have h2 : b ≠ a := fun z => by rw [z, na] at e; cases e
      rw [upd_ne h1, del_ne h2, upd_ne h2, upd_ne h1, upd_ne h2]
      exact e
    exact elink' (x := (C, [(fld, d)])) (fs := [(fld, v)]) g1 hp ex ndx upd_same rfl ⟨v, [], rfl, (Stp.ex g1.wld ex).dv g1 hv, rfl⟩
theorem ds_expr {e : Expr} {F : FE} (he : DE G e F) (hs : swapsWith e none pos.line G.X.env = pure false := by rfl) : DS G (.Expr e pos) (fun D ρ => F ρ fun _ => D.nx ρ) := by
  obtain ⟨t, h, l⟩ := he.ex
  refine ⟨⟨_, ps_expr h hs, fun S σ H ρ D Dh g h q => ?_⟩⟩
  exact l S σ H ρ _ _ g h fun v d H1 st hv hp => q.nx S σ H1 ρ (g.step st) (st.fr g) hp
end
end DL
namespace DL
open PySem PySem.Spec PyProof.Rows L2
section
variable {G : Ctx} {S : Addr → Prop} {σ : L2.St} {H H' : Hp} {ρ : List Slot} {pos : Pos} {a b : Expr} {Fa Fb : FE} {F : FE} {e : Expr}
/-! ### isinstance -/
theorem tyX_of {K : PySem.W.Frag} {d : Dat} {v : V} (h : Dv K S H d v) : TyX K H v (.type (tyName d)) := by
  cases d with
  | non => cases (h : v = .non); exact .base .non
  | bl b => cases (h : v = .bl b); exact .base (.bl b)
  | int b => cases (h : v = .int b); exact .base (.int b)
  | str b => cases (h : v = .str b); exact .base (.str b)
  | tup ds =>
    obtain ⟨a, xs, rfl, e, _⟩ := dv_tup h
    rcases e with ⟨_, e⟩ | ⟨o, its, n, e, c, _⟩
    · exact .base (.tup e)
    · exact .kTuple e c
  | lst ds =>
    obtain ⟨a, xs, rfl, n, e, _⟩ := dv_lst h
    exact .base (.lst e)
  | dic ks ds =>
    obtain ⟨a, xs, rfl, n, e, _⟩ := dv_dic h
    exact .base (.dK e)
def isInt : Dat → Bool
  | .int _ => true
  | .bl _ => true
  | _ => false
def isStr : Dat → Bool
  | .str _ => true
  | _ => false
def isBl : Dat → Bool
  | .bl _ => true
  | _ => false
def isTup : Dat → Bool
  | .tup _ => true
  | _ => false
def isiB (T : String) (d : Dat) : Bool := if T = "str" then isStr d else if T = "int" then isInt d else if T = "bool" then isBl d else isTup d
def isiTs : List String := ["str", "int", "bool", "tuple"]
theorem isi_str (d : Dat) : isiB "str" d = isStr d := rfl
theorem isi_int (d : Dat) : isiB "int" d = isInt d := rfl
theorem isi_bool (d : Dat) : isiB "bool" d = isBl d := rfl
theorem isi_tuple (d : Dat) : isiB "tuple" d = isTup d := rfl
theorem kit_isi {T : String} (hT : T ∈ isiTs) (d : Dat) : kitB (tyName d) T = some (isiB T d) := by
  simp only [isiTs, List.mem_cons, List.not_mem_nil, or_false] at hT
  rcases hT with rfl | rfl | rfl | rfl
  · rw [isi_str]; cases d <;> simp only [tyName, isStr] <;> decide +kernel
  · rw [isi_int]; cases d <;> simp only [tyName, isInt] <;> decide +kernel
  · rw [isi_bool]; cases d <;> simp only [tyName, isBl] <;> decide +kernel
  · rw [isi_tuple]; cases d <;> simp only [tyName, isTup] <;> decide +kernel
theorem de_isi {T : Str} {TT : String} {p1 p2 p3 : Pos} (hT : TT ∈ isiTs := by decide) (he : DE G e F) (hm : G.X.mg "isinstance" = none) (hmT : G.X.mg T = none) (hv : bootBuiltins T = some (.type TT)) (hn : T ≠ "__name__") (hd : (T == ("__debug__" : Str)) = false) (hg : Gl G.X "isinstance" := by rfl) (hgT : Gl G.X T := by rfl)
    (hs : starEach [e, .Name T p3] G.X.env = (false, eval e G.X.env) :: starEach [.Name T p3] G.X.env := by rfl) (hs2 : starEach [.Name T p3] G.X.env = (false, eval (.Name T p3) G.X.env) :: starEach [] G.X.env := by rfl) (hpl : (backTo p2 (starEach [.Name T p3] G.X.env)).any (·.1) = false := by rfl) :
    DE G (.Call (.Name "isinstance" p1) [e, .Name T p3] [] p2) (fun ρ P => F ρ fun x => P (.bl (isiB TT x))) := by
  obtain ⟨t, h, l⟩ := he.ex
  refine ⟨⟨_, pe_callB call_isi hg hm (by decide +kernel) (pa_cons h (pa_cons (pe_bltn (v := V.ty TT) hgT hmT hv rfl hn hd) pa_nil hs2) hs) (he := hs) (hpl := hpl), fun S σ H ρ P Q g h q => ?_⟩⟩
  refine l S σ H ρ _ _ g h fun v d H1 st hv hp => ?_
  exact ⟨v, .ty TT, _, _, _, rfl, .ty TT, tyX_of hv, kit_ty (kit_isi hT d), q _ (.bl _) H1 st rfl hp⟩
/-! ### == with one side shallow -/
def rEqM (K : PySem.W.Frag) (neg : Bool) : R2 := fun x y H Q => ∃ d e, Dp K H x d ∧ Dp K H y e ∧ d.canLay0 = true ∧ e.canLay0 = true ∧ min d.depth e.depth ≤ 64 ∧ Q (.bl (if neg then !PyData.eqv d e else PyData.eqv d e)) H
theorem op_eqM {X : Cx} (hu : X.A.units + 64 < cLine) : OpR X (compareOp .Eq) (rEqM X.K false) := by
  intro pins s σ H x y v u Q I rx ry h
  obtain ⟨d, e, hd, he, sd, se, hm, q⟩ := h
  obtain ⟨as, r1⟩ := Dp.reads I d x v hd rx
  obtain ⟨bs, r2⟩ := Dp.reads I e y u he ry
  exact SeqAt.compareEq_reads r1 r2 sd se (by omega) ⟨.bl _, H, I, rfl, q⟩
def eqM : R2D := fun x y P => (toP x).canLay0 = true ∧ (toP y).canLay0 = true ∧ min (toP x).depth (toP y).depth ≤ 64 ∧ P (.bl (PyData.eqv (toP x) (toP y)))
theorem serves_eqM : Serves G (rEqM G.X.K false) eqM := by
  intro S σ ρ H x y dx dy P Q g hx hy ⟨h1, h2, h3, h4⟩ q
  exact ⟨_, _, dp_of _ _ hx h1, dp_of _ _ hy h2, h1, h2, h3, q _ (.bl _) H (Stp.refl g.wld) rfl h4⟩
theorem de_eqM (hu : G.X.A.units + 64 < cLine) (ha : DE G a Fa) (hb : DE G b Fb) : DE G (.Compare a [.Eq] [b] pos) (fun ρ P => Fa ρ fun x => Fb ρ fun y => eqM x y P) := de_cmp (op_eqM hu) serves_eqM ha hb
theorem dt_eqM (hu : G.X.A.units + 64 < cLine) (ha : DE G a Fa) (hb : DE G b Fb) : DT G (.Compare a [.Eq] [b] pos) (fun ρ P => Fa ρ fun x => Fb ρ fun y => eqM x y fun z => isB z P) := dt_cmp (op_eqM hu) serves_eqM ha hb
theorem eqM_nil {ds : List Dat} {P : Dat → Prop} (h : (toP (.tup ds)).canLay0 = true) (q : P (.bl ds.isEmpty)) : eqM (.tup ds) (.tup []) P := by
  refine ⟨h, by rfl, Nat.le_trans (Nat.min_le_right _ _) (by decide), ?_⟩
  cases ds with
  | nil => exact q
  | cons d ds => exact q
/-! ### ints -/
theorem de_mod (ha : DE G a Fa) (hb : DE G b Fb) : DE G (.BinOp a .Mod b pos) (fun ρ P => Fa ρ fun x => Fb ρ fun y => intD (fun i j => .int (i % j)) (fun _ j => 0 < j) x y P) := de_bin op_mod serves_I ha hb
theorem de_mulI (ha : DE G a Fa) (hb : DE G b Fb) : DE G (.BinOp a .Mult b pos) (fun ρ P => Fa ρ fun x => Fb ρ fun y => intD (fun i j => .int (i * j)) CMul x y P) := de_bin op_mul serves_I ha hb
theorem de_pow (ha : DE G a Fa) (hb : DE G b Fb) : DE G (.BinOp a .Pow b pos) (fun ρ P => Fa ρ fun x => Fb ρ fun y => intD (fun i j => .int (i ^ j.toNat)) CPow x y P) := de_bin op_pow serves_I ha hb
theorem de_fdiv (ha : DE G a Fa) (hb : DE G b Fb) : DE G (.BinOp a .FloorDiv b pos) (fun ρ P => Fa ρ fun x => Fb ρ fun y => intD (fun i j => .int (i / j)) CDiv x y P) := de_bin op_fdiv serves_I ha hb
/-! ### a sign in a text -/
def signIn (neg : Bool) : R2D := fun x y P => isS x fun s => isS y fun z => s.cps.size = 1 ∧ P (.bl (if neg then !decide (s.cps.getD 0 0 ∈ z.cps.toList) else decide (s.cps.getD 0 0 ∈ z.cps.toList)))
theorem one_sign {s : Str} (h : s.cps.size = 1) : s = ⟨#[s.cps.getD 0 0]⟩ := by
  obtain ⟨⟨l⟩⟩ := s
  match l, h with
  | [c], _ => rfl
theorem serves_ninSign : Serves G (fun x y H Q => ∃ (c : Nat) (z : Str), x = .str ⟨#[c]⟩ ∧ y = .str z ∧ Q (.bl (!decide (c ∈ z.cps.toList))) H) (signIn true) := by
  intro S σ ρ H x y dx dy P Q g hx hy h q
  obtain ⟨s, rfl, h'⟩ := isS_inv (show isS dx _ from h)
  obtain ⟨z, rfl, h1, hp⟩ := isS_inv h'
  cases dv_str hx
  cases dv_str hy
  exact ⟨_, z, by rw [← one_sign h1], rfl, q _ (.bl _) H (Stp.refl g.wld) rfl hp⟩
theorem dt_ninSign (ha : DE G a Fa) (hb : DE G b Fb) (hm : behindInMarks .NotIn b = false := by rfl) : DT G (.Compare a [.NotIn] [b] pos) (fun ρ P => Fa ρ fun x => Fb ρ fun y => signIn true x y fun z => isB z P) := dt_cmp op_notIn_sign serves_ninSign ha hb hm
theorem dt_chain_le {c : Expr} {Fc : FE} (ha : DE G a Fa) (hb : DE G b Fb) (hc : DE G c Fc) (hm : lastMarks [CmpOp.LtE, CmpOp.LtE] [b, c] = false := by rfl) : DT G (.Compare a [.LtE, .LtE] [b, c] pos) (fun ρ P => Fa ρ fun x => Fb ρ fun y => leD x y fun z => isB z fun k => if k = true then Fc ρ fun w => leD y w fun z => isB z P else P false) := by
  obtain ⟨ta, h1, l1⟩ := ha.ex
  obtain ⟨tb, h2, l2⟩ := hb.ex
  obtain ⟨tc, h3, l3⟩ := hc.ex
  refine ⟨⟨_, pt_chain (.or op_le op_le_str) (.or op_le op_le_str) h1 h2 h3 hm, fun S σ H ρ P Q g h q => ?_⟩⟩
  refine lift_chain serves_le serves_le l1 l2 l3 S σ H ρ (fun d => isB d P) _ g ?_ fun v d H1 st hv hp => ?_
  · exact h
  · obtain ⟨b, rfl, hp⟩ := isB_inv hp
    exact ⟨b, hv, q b H1 st hp⟩
/-- a statement that is never reached -/
theorem ds_never {st : Stmt} : DS G st (fun _ _ => False) := ⟨⟨_, ps_never, fun _ _ _ _ _ _ _ h _ => h.elim⟩⟩
theorem db_never {sts : List Stmt} : DB G sts (fun _ _ => False) := ⟨⟨_, pss_never, fun _ _ _ _ _ _ _ h _ => h.elim⟩⟩
end
end DL
namespace DL
open PySem PySem.Spec PyProof.Rows L2
section
variable {G : Ctx} {S S' : Addr → Prop} {σ : L2.St} {H H' : Hp} {ρ : List Slot} {pos : Pos} {a b : Expr} {Fa Fb : FE} {F : FE} {e : Expr}
/-- a scratch object that no slot owns is changed, and owned by a slot -/
theorem Gd.ownAt (g : Gd G S σ H ρ) {i : Nat} {s : Slot} {p : Addr} {o : HO} (sp : S p) (e0 : G.H0 p = none) (hx : ∀ φ, H p ≠ some (.ext φ)) (hs : s.isOwn = true) (other : ∀ (j : Nat) sj, ρ[j]? = some sj → sj.isOwn = true → σ[j]? = some (some (.ref p)) → False) (h : SlotOk G.X.K S G.H0 (upd H p o) (some (.ref p)) s) :
    Gd G S (σ.set i (some (.ref p))) (upd H p o) (ρ.set i s) ∧ Fr S H S (upd H p o) := by
  have fr : Fr S H S (upd H p o) := fun b u n e => ⟨n, by rw [upd_ne (fun z => n (by rw [z]; exact sp))]; exact e⟩
  refine ⟨⟨G.clo H _ g.wld (fun b u u0 e e' => ?_) (keepX_upd hx), fun b hb => ?_, g.sub, by simp [g.len], fun j t ht => ?_, fun j k sj sk w h1 h2 o1 o2 e1 e2 => ?_⟩, fr⟩
  · rw [upd_ne (fun z => by rw [z, e0] at e; cases e)]; exact e'
  · by_cases hbp : b = p
    · exact ⟨o, by rw [hbp]; exact upd_same⟩
    · obtain ⟨u, e⟩ := g.all b hb
      exact ⟨u, by rw [upd_ne hbp]; exact e⟩
  · rw [getset] at ht
    rw [getset]
    by_cases hj : j = i
    · subst hj
      rw [if_pos rfl] at ht ⊢
      have hl := g.len
      by_cases hi : j < ρ.length
      · rw [if_pos hi] at ht
        cases ht
        rw [if_pos (by omega)]
        exact h
      · rw [if_neg hi] at ht; cases ht
    · rw [if_neg hj] at ht ⊢
      refine (g.slots j t ht).move fr (fun _ z => z) fun b v ob eb e => ?_
      have hne : b ≠ p := fun z => by
        subst z
        have eb' : σ[j]? = some (some (.ref b)) := by
          cases ee : σ[j]? with
          | none => rw [ee] at eb; cases eb
          | some o => rw [ee] at eb; cases eb; rfl
        exact other j t ht ob eb'
      rw [upd_ne hne]; exact e
  · rw [getset] at h1 h2
    rw [getset] at e1 e2
    by_cases hj : j = i
    · by_cases hk : k = i
      · omega
      · rw [if_pos hj] at e1
        split at e1
        · cases e1
          rw [if_neg hk] at h2 e2
          exact (other k sk h2 o2 e2).elim
        · cases e1
    · by_cases hk : k = i
      · rw [if_pos hk] at e2
        split at e2
        · cases e2
          rw [if_neg hj] at h1 e1
          exact (other j sj h1 o1 e1).elim
        · cases e2
      · rw [if_neg hj] at h1 e1
        rw [if_neg hk] at h2 e2
        exact g.apart j k sj sk w h1 h2 o1 o2 e1 e2
/-! ### {k: v, ..} -/
abbrev FP := List Slot → (List (Key × Dat) → Prop) → Prop
structure DPs (G : Ctx) (pos : Pos) (keys : List (Option Expr)) (values : List Expr) (F : FP) : Prop where
  ex : ∃ trs, PPs G.X pos keys values trs ∧ ∀ S σ H ρ P (Q : List (V × V) → Hp → Prop), Gd G S σ H ρ → F ρ P → (∀ (kvs : List (Key × V)) l H', Stp G H H' → RelP G.X.K S H' kvs l → P l → Q (kvs.map fun kv => (kV kv.1, kv.2)) H') → tPairs trs σ H Q
theorem dps_nil : DPs G pos [] [] (fun _ P => P []) := ⟨⟨[], pps_nil, fun S σ H ρ P Q g h q => q [] [] H (Stp.refl g.wld) ⟨rfl, rfl⟩ h⟩⟩
theorem dps_cons {ks : List (Option Expr)} {vs : List Expr} {Fr : FP} (ha : DE G a Fa) (hb : DE G b Fb) (hr : DPs G pos ks vs Fr) : DPs G pos (some a :: ks) (b :: vs) (fun ρ P => Fa ρ fun x => isS x fun z => Fb ρ fun y => Fr ρ fun l => P ((.inr z, y) :: l)) := by
  obtain ⟨ta, h1, l1⟩ := ha.ex
  obtain ⟨tb, h2, l2⟩ := hb.ex
  obtain ⟨tr, h3, l3⟩ := hr.ex
  refine ⟨⟨_, pps_cons h1 h2 h3, fun S σ H ρ P Q g h q => ?_⟩⟩
  refine l1 S σ H ρ _ _ g h fun v d H1 st hv hp => ?_
  have g1 := g.step st
  obtain ⟨z, rfl, hp⟩ := isS_inv hp
  cases dv_str hv
  refine l2 S σ H1 ρ _ _ g1 hp fun v2 d2 H2 st2 hv2 hp => ?_
  have g2 := g1.step st2
  refine l3 S σ H2 ρ _ _ g2 hp fun kvs l H3 st3 hrel hp => ?_
  exact q ((.inr z, v2) :: kvs) ((.inr z, d2) :: l) H3 ((st.trans st2).trans st3) ⟨by rw [List.map_cons, List.map_cons, hrel.1], v2, _, rfl, st3.dv g2 hv2, hrel.2⟩ hp
theorem disp_own {keys : List (Option Expr)} {values : List Expr} {Fp : FP} (hp : DPs G pos keys values Fp) (hall : keys.all (·.isSome) = true) (hl : keys.length = values.length) (h0 : keys ≠ []) (h15 : keys.length ≤ 15) :
    ∃ t, PE G.X (.Dict keys values pos) t ∧ ∀ S σ H ρ P (Q : VK), Gd G S σ H ρ → Fp ρ P → (∀ l, P l → l.length ≤ 15) → (∀ p H2 kvs l, H p = none → Gd G (fun a => S a ∨ a = p) σ H2 ρ → Fr S H (fun a => S a ∨ a = p) H2 → H2 p = some (.dK []) → RelP G.X.K (fun a => S a ∨ a = p) H2 kvs (mergeP [] l) → Stp G H (upd H2 p (.dK kvs)) → P l → Q (.ref p) (upd H2 p (.dK kvs))) → t σ H Q := by
  obtain ⟨trs, h, l⟩ := hp.ex
  refine ⟨_, pe_disp h hall hl h0 h15, fun S σ H ρ P Q g hf hlen q => fun p np => ?_⟩
  obtain ⟨g1, fr1⟩ := g.grow (o := .dK []) np
  have stn : Stp G H (upd H p (.dK [])) := Stp.new g.wld np
  refine l _ σ _ ρ P _ g1 hf fun kvs lt H2 st hrel hP => ?_
  have e0 := g.fresh0 np
  have ns0 : ¬ G.S0 p := fun z => g.fresh np (g.sub p z)
  have hp2 : H2 p = some (.dK []) := st.keep p _ ns0 upd_same
  refine ⟨hp2, kvs, rfl, ?_, ?_⟩
  · have e := congrArg List.length hrel.1
    rw [List.length_map, List.length_map] at e
    rw [e]
    exact hlen lt hP
  · have st2 : Stp G H (upd H2 p (.dK (mergeK [] kvs))) := by
      have s12 := stn.trans st
      refine ⟨G.clo H2 _ s12.wld (fun b u u0 e e' => ?_) (keepX_upd fun φ z => by rw [hp2] at z; cases z), fun b u n e => ?_, fun b u e => ?_⟩
      · rw [upd_ne (fun z => by rw [z, e0] at e; cases e)]; exact e'
      · have hb : b ≠ p := fun z => by rw [z, np] at e; cases e
        rw [upd_ne hb]
        exact s12.keep b u n e
      · have hb : b ≠ p := fun z => by rw [z, np] at e; cases e
        rw [upd_ne hb]
        exact s12.has b u e
    exact q p H2 _ lt np (g1.step st) (fun b u n e => by
        obtain ⟨n1, e1⟩ := fr1 b u n e
        exact ⟨n1, st.keep b u (fun z => n1 (.inl (g.sub b z))) e1⟩) hp2 (RelP.merge ⟨rfl, rfl⟩ hrel) st2 hP
/-- a dict display, as plain data -/
theorem de_disp {keys : List (Option Expr)} {values : List Expr} {Fp : FP} (hp : DPs G pos keys values Fp) (hall : keys.all (·.isSome) = true := by rfl) (hl : keys.length = values.length := by rfl) (h0 : keys ≠ [] := by simp) (h15 : keys.length ≤ 15 := by decide) :
    DE G (.Dict keys values pos) (fun ρ P => Fp ρ fun l => l.length ≤ 15 ∧ P (dicP (mergeP [] l))) := by
  obtain ⟨t, h, k⟩ := disp_own hp hall hl h0 h15
  refine ⟨⟨t, h, fun S σ H ρ P Q g hf q => ?_⟩⟩
  refine k S σ H ρ _ _ g hf (fun l z => z.1) fun p H2 kvs l np g2 fr hu rel st hP => ?_
  have e0 := g.fresh0 np
  have nS : ¬ S p := g.fresh np
  refine q _ (dicP (mergeP [] l)) _ st ⟨p, kvs, rfl, nS, upd_same, rel.1, ?_⟩ hP.2
  exact rel.2.move fun b u n e => ⟨fun z => n (.inl z), by rw [upd_ne (fun z => n (.inr z))]; exact e⟩
/-- name = {..}, the dict one's own -/
theorem ds_setDisp {x : Str} {pos' p2 : Pos} {keys : List (Option Expr)} {values : List Expr} {Fp : FP} (i : Nat) (hp : DPs G p2 keys values Fp) (hN : G.X.N.Nodup) (hi : G.X.N[i]? = some x := by rfl) (hx : Loc G.X.env.scope x := by first | exact Or.inl rfl | exact Or.inr rfl) (hs : swapsWith (.Dict keys values p2) (some (.Name x pos')) pos.line G.X.env = pure false := by rfl)
    (hf : G.X.fn x = true ∨ G.X.env.scope.names.lookup x = some .local := by first | exact .inl rfl | exact .inr rfl) (hall : keys.all (·.isSome) = true := by rfl) (hl : keys.length = values.length := by rfl) (h0 : keys ≠ [] := by simp) (h15 : keys.length ≤ 15 := by decide) :
    DS G (.Assign [.Name x pos'] (.Dict keys values p2) pos) (fun D ρ => Fp ρ fun l => l.length ≤ 15 ∧ D.nx (ρ.set i (.ownd ((mergeP [] l).map (·.1)) ((mergeP [] l).map (·.2))))) := by
  obtain ⟨t, h, k⟩ := disp_own hp hall hl h0 h15
  refine ⟨⟨_, ps_set (i := i) hN hi hx h hs hf, fun S σ H ρ D Dh g hf q => ?_⟩⟩
  refine k S σ H ρ _ _ g hf (fun l z => z.1) fun p H2 kvs l np g2 fr hu rel st hP => ?_
  have e0 := g.fresh0 np
  have frp : Fr (fun a => S a ∨ a = p) H2 (fun a => S a ∨ a = p) (upd H2 p (.dK kvs)) := fun b u n e => ⟨n, by rw [upd_ne (fun z => n (.inr z))]; exact e⟩
  obtain ⟨g3, fr3⟩ := g2.ownAt (i := i) (s := .ownd ((mergeP [] l).map (·.1)) ((mergeP [] l).map (·.2))) (o := .dK kvs) (.inr rfl) e0 (fun φ z => by rw [hu] at z; cases z) rfl (fun j sj hj oj e => by
    have q := g.slots j sj hj
    rw [e] at q
    obtain ⟨a, u, e1, _, e2, _⟩ := SlotOk.addr q oj
    cases e1
    rw [np] at e2; cases e2) ⟨p, kvs, rfl, .inr rfl, e0, upd_same, rel.1, rel.2.move frp⟩
  exact q.nx _ _ _ _ g3 (fr.trans fr3) hP.2
def owndL (ρ : List Slot) (i : Nat) (P : List (Key × Dat) → Prop) : Prop := match ρ[i]? with
  | some (.ownd ks ds) => ks.length = ds.length ∧ P (ks.zip ds)
  | _ => False
theorem owndL_inv {ρ : List Slot} {i : Nat} {P : List (Key × Dat) → Prop} (h : owndL ρ i P) : ∃ ks ds, ρ[i]? = some (.ownd ks ds) ∧ ks.length = ds.length ∧ P (ks.zip ds) := by
  unfold owndL at h
  split at h
  · rename_i ks ds e; exact ⟨ks, ds, e, h⟩
  · exact h.elim
theorem owndL_here {ρ : List Slot} {i : Nat} {l : List (Key × Dat)} {P : List (Key × Dat) → Prop} (e : ρ[i]? = some (.ownd (l.map (·.1)) (l.map (·.2)))) (h : P l) : owndL ρ i P := by
  unfold owndL
  rw [e]
  refine ⟨by simp, ?_⟩
  have : (l.map (·.1)).zip (l.map (·.2)) = l := by
    clear e h
    induction l with
    | nil => rfl
    | cons x r ih => rw [List.map_cons, List.map_cons, List.zip_cons_cons, ih]
  rw [this]
  exact h
theorem Gd.slot_ownd (g : Gd G S σ H ρ) {i : Nat} {ks : List Key} {ds : List Dat} (e : ρ[i]? = some (.ownd ks ds)) : ∃ p kvs, σ[i]? = some (some (.ref p)) ∧ S p ∧ G.H0 p = none ∧ H p = some (.dK kvs) ∧ kvs.map (·.1) = ks ∧ DvL G.X.K S H ds (kvs.map (·.2)) := by
  have q := g.slots i _ e
  cases h : σ[i]? with
  | none => rw [h] at q; exact q.elim
  | some o =>
    rw [h] at q
    cases o with
    | none => exact q.elim
    | some v =>
      obtain ⟨p, kvs, rfl, r⟩ := (show SlotOk G.X.K S G.H0 H (some v) (.ownd ks ds) from q)
      exact ⟨p, kvs, rfl, r⟩
theorem relP_zip {K : PySem.W.Frag} {kvs : List (Key × V)} {ks : List Key} {ds : List Dat} (h1 : kvs.map (·.1) = ks) (h2 : DvL K S H ds (kvs.map (·.2))) (hl : ks.length = ds.length) : RelP K S H kvs (ks.zip ds) := by
  refine ⟨?_, ?_⟩
  · rw [h1, List.map_fst_zip (by omega)]
  · rw [List.map_snd_zip (by omega)]; exact h2
/-- name[k] = e, the dict one's own -/
theorem ds_dput {x : Str} {k e : Expr} {Fk F : FE} {np sp : Pos} (i : Nat) (hu : G.X.A.units + 1 < cLine) (hk : DE G k Fk) (he : DE G e F) (hi : G.X.N[i]? = some x := by rfl) (hv : Vis G.X.env.scope x := by first | exact Or.inl rfl | exact Or.inr (Or.inl rfl) | exact Or.inr (Or.inr rfl)) (hd : (x == ("__debug__" : Str)) = false := by decide)
    (hcd : (x == ("__classdict__" : Str)) = false := by decide) (hs : swapsWith e (some (.Subscript (.Name x np) k sp)) pos.line G.X.env = pure false := by rfl) :
    DS G (.Assign [.Subscript (.Name x np) k sp] e pos) (fun D ρ => F ρ fun y => owndL ρ i fun l => Fk ρ fun z => isS z fun z => l.length < sizeLine ∧ D.nx (ρ.set i (.ownd ((putP l (.inr z) y).map (·.1)) ((putP l (.inr z) y).map (·.2))))) := by
  obtain ⟨te, h1, l1⟩ := he.ex
  obtain ⟨tk, h2, l2⟩ := hk.ex
  refine ⟨⟨_, ps_dput hu (pe_var hi hv hd hcd) h2 h1 hs, fun S σ H ρ D Dh g h q => ?_⟩⟩
  refine l1 S σ H ρ _ _ g h fun v d H1 st hv1 hp => ?_
  have g1 := g.step st
  obtain ⟨ks, ds, es, hl, hf⟩ := owndL_inv hp
  obtain ⟨p, kvs, e1, _⟩ := g1.slot_ownd es
  refine ⟨.ref p, e1, l2 S σ H1 ρ _ _ g1 hf fun v2 d2 H2 st2 hv2 hp => ?_⟩
  have g2 := g1.step st2
  obtain ⟨z, rfl, hz, hp⟩ := isS_inv hp
  cases dv_str hv2
  obtain ⟨p', kvs, e1', sp', e0, eh, ek, hv'⟩ := g2.slot_ownd es
  cases e1.symm.trans e1'
  have rel := relP_zip ek hv' hl
  have len : kvs.length < sizeLine := by
    have e := congrArg List.length rel.1
    rw [List.length_map, List.length_map] at e
    rw [e]; exact hz
  refine ⟨p, _, rfl, DPut.k (k := Sum.inr z) eh len, ?_⟩
  have rel2 := rel.put (k := Sum.inr z) (st2.dv g1 hv1)
  have frp : Fr S H2 S (upd H2 p (.dK (putK kvs (Sum.inr z) v))) := fun b u n e => ⟨n, by rw [upd_ne (fun z => n (by rw [z]; exact sp'))]; exact e⟩
  obtain ⟨g3, fr3⟩ := g2.write (s' := .ownd ((putP (ks.zip ds) (.inr z) d).map (·.1)) ((putP (ks.zip ds) (.inr z) d).map (·.2))) es e1' rfl rfl ⟨p, _, rfl, sp', e0, upd_same, rel2.1, rel2.2.move frp⟩
  exact q.nx _ _ _ _ g3 ((Fr.trans (st.fr g) (st2.fr g1)).trans fr3) hp
/-- d.update(d2) -/
def rDUpd : V → List V → Hp → VK → Prop := fun x vs H Q => ∃ (a o : Addr) (kvs more : List (Key × V)), x = .ref a ∧ vs = [.ref o] ∧ a ≠ o ∧ H a = some (.dK kvs) ∧ H o = some (.dK more) ∧ kvs.length + more.length ≤ sizeLine ∧ Q .non (upd H a (.dK (mergeK kvs more)))
theorem mt_dupd {X : Cx} : MtR X "dict.update" rDUpd := by
  intro pins s σ H x vs v us Q I rx rv h
  obtain ⟨a, o, kvs, more, ex, ev, hne, e, eo, hsz, q⟩ := h
  subst ex
  subst ev
  obtain rfl : v = Value.ref a := rx
  obtain ⟨u, rfl, ru⟩ := vals1 rv
  obtain rfl : u = Value.ref o := ru
  obtain ⟨z, hd, vs, rel, dd⟩ := dk_of I.hok e
  obtain ⟨z2, hd2, vs2, rel2, dd2⟩ := dk_of I.hok eo
  refine call_meetsIn PySem.F.slot_dict_update dd.typeIs PySem.F.entry_dict_update (PySem.F.args_dict_update_2 _ _) (meets_dict_update (mixKind X.prog X.w) a o hne hd2) ⟨vs, vs2, dd, dd2, by rw [← rel.length, ← rel2.length]; exact hsz, fun h' dd' _ hs => ?_⟩
  have he : ∃ q, h'.get? a = some q := let ⟨q, _, _, hq, _⟩ := dd'; ⟨q, hq⟩
  have hlen : (mergeK kvs more).length ≤ sizeLine := Nat.le_trans (length_mergeK more kvs) hsz
  exact ⟨.non, _, d_write (t' := s.toks) I (by rw [e]; exact True.intro) hs he (dk_new hlen hd (KV.merge rel2 rel) dd'), rfl, q⟩
theorem ds_dupd {x : Str} {e : Expr} {F : FE} {np apos cpos : Pos} (i : Nat) (hi : G.X.N[i]? = some x := by rfl) (hv : Vis G.X.env.scope x := by first | exact Or.inl rfl | exact Or.inr (Or.inl rfl) | exact Or.inr (Or.inr rfl)) (hd : (x == ("__debug__" : Str)) = false := by decide)
    (hcd : (x == ("__classdict__" : Str)) = false := by decide) (he : DE G e F) (hst : starEach [e] G.X.env = (false, eval e G.X.env) :: starEach [] G.X.env := by rfl)
    (hbase : attributeBase (.Name x np) "update" G.X.env (eval (.Name x np) G.X.env) = eval (.Name x np) G.X.env := by rfl)
    (hfew : ((backTo cpos (starEach [e] G.X.env)).all (fun x => !x.1) && (backToKw cpos (keywordEach [] G.X.env)).all (fun x => x.1.isSome) && decide ([e].length + ([] : List Keyword).length + (if ([] : List Keyword).isEmpty then 0 else 1) < 30)) = true := by rfl)
    (hline : (apos.endLine == cpos.line) = true := by rfl) (hplain : (backTo cpos (starEach [] G.X.env)).any (·.1) = false := by rfl) (hs : swapsWith (.Call (.Attribute (.Name x np) "update" apos) [e] [] cpos) none pos.line G.X.env = pure false := by rfl) :
    DS G (.Expr (.Call (.Attribute (.Name x np) "update" apos) [e] [] cpos) pos) (fun D ρ => owndL ρ i fun l => F ρ fun y => ∃ m : List (Key × Dat), y = dicP m ∧ l.length + m.length ≤ sizeLine ∧ D.nx (ρ.set i (.ownd ((mergeP l m).map (·.1)) ((mergeP l m).map (·.2))))) := by
  obtain ⟨t, h, l⟩ := he.ex
  refine ⟨⟨_, ps_expr (pe_bm PySem.F.plainAttrs_dict PySem.F.slot_dict_update PySem.F.type_dict_update mt_dupd (pe_var hi hv hd hcd) (pa_cons h pa_nil hst) hbase hfew hline hst hplain) hs, fun S σ H ρ D Dh g h q => ?_⟩⟩
  obtain ⟨ks, ds, es, hl, hf⟩ := owndL_inv h
  obtain ⟨p, kvs, e1, sp, e0, eh, _⟩ := g.slot_ownd es
  refine ⟨.ref p, e1, ?_, l S σ H ρ _ _ g hf fun v d H1 st hv hp => ?_⟩
  · exact .inr (.inr (.inl ⟨rfl, .inl ⟨kvs, eh⟩⟩))
  have g1 := g.step st
  obtain ⟨p', kvs, e1', sp', e0', eh, ek, hv'⟩ := g1.slot_ownd es
  cases e1.symm.trans e1'
  obtain ⟨m, rfl, hlen, hp⟩ := hp
  obtain ⟨o, more, rfl, n, e2, ek2, hv2⟩ := dv_dic hv
  have rel := relP_zip ek hv' hl
  have rel2 : RelP G.X.K S H1 more m := ⟨ek2, hv2⟩
  have ln : kvs.length + more.length ≤ sizeLine := by
    have a := congrArg List.length rel.1
    have b := congrArg List.length rel2.1
    rw [List.length_map, List.length_map] at a b
    rw [a, b]; exact hlen
  refine ⟨p, o, kvs, more, rfl, rfl, fun z => n (by rw [← z]; exact sp'), eh, e2, ln, ?_⟩
  have rel3 := RelP.merge rel rel2
  have frp : Fr S H1 S (upd H1 p (.dK (mergeK kvs more))) := fun b u n e => ⟨n, by rw [upd_ne (fun z => n (by rw [z]; exact sp'))]; exact e⟩
  obtain ⟨g3, fr3⟩ := g1.write (s' := .ownd ((mergeP (ks.zip ds) m).map (·.1)) ((mergeP (ks.zip ds) m).map (·.2))) es e1' rfl rfl ⟨p, _, rfl, sp', e0', upd_same, rel3.1, rel3.2.move frp⟩
  exact q.nx _ _ _ _ g3 (Fr.trans (st.fr g) fr3) hp
end
end DL
namespace DL
open PySem PySem.Spec PyProof.Rows L2
section
variable {G : Ctx} {S S' : Addr → Prop} {σ : L2.St} {H H' : Hp} {ρ : List Slot} {pos : Pos} {a b : Expr} {Fa Fb : FE} {F : FE} {e : Expr}
theorem dkey_none {K : PySem.W.Frag} : ∀ {kvs : List (Key × V)} {ks : List Key} {ds : List Dat} {k : Key}, kvs.map (·.1) = ks → DvL K S H ds (kvs.map (·.2)) → getK ks ds k = none → valV kvs k = none
  | [], _, _, _, _, _, _ => rfl
  | (k0, v0) :: r, ks, ds, k, hk, hv, h => by
    subst hk
    cases ds with
    | nil => cases (hv : _ = [])
    | cons d0 ds =>
      obtain ⟨v, r', e1, h1, h2⟩ := (hv : ∃ v r', _ = v :: r' ∧ Dv K S H d0 v ∧ DvL K S H ds r')
      rw [List.map_cons] at e1
      injection e1 with ea eb
      subst ea; subst eb
      rw [List.map_cons, getK] at h
      by_cases e : k0 = k
      · rw [if_pos e] at h; cases h
      · rw [if_neg e] at h
        rw [valV_neg e]
        exact dkey_none (kvs := r) rfl h2 h
def dicD (d : Dat) (P : List Key → List Dat → Prop) : Prop := match d with
  | .dic ks ds => P ks ds
  | _ => False
theorem de_get1 {Fo Fe : FE} {o : Expr} {apos cpos : Pos} (hu : G.X.A.units + 1 < cLine) (ho : DE G o Fo) (he : DE G e Fe) (m : M1 G.X o "get" apos e cpos := by exact ⟨rfl, rfl, rfl, rfl⟩) :
    DE G (.Call (.Attribute o "get" apos) [e] [] cpos) (fun ρ P => Fo ρ fun x => dicD x fun ks ds => Fe ρ fun y => isS y fun z => P ((getK ks ds (.inr z)).getD .non)) := by
  obtain ⟨t1, h1, l1⟩ := ho.ex
  obtain ⟨t2, h2, l2⟩ := he.ex
  refine ⟨⟨_, pe_dget1 hu h1 h2 m, fun S σ H ρ P Q g h q => ?_⟩⟩
  refine l1 S σ H ρ _ _ g h fun v d H1 st hv hp => ?_
  have g1 := g.step st
  cases d with
  | dic ks ds =>
    obtain ⟨p, kvs, rfl, n, e1, ek, hl⟩ := dv_dic hv
    refine ⟨p, rfl, .inl ⟨kvs, .inl e1⟩, l2 S σ H1 ρ _ _ g1 hp fun v2 d2 H2 st2 hv2 hp => ?_⟩
    obtain ⟨z, rfl, hp'⟩ := isS_inv hp
    clear hp
    cases dv_str hv2
    obtain ⟨p', kvs, ep, n, e1, ek, hl⟩ := dv_dic (st2.dv g1 hv)
    cases ep
    cases hk : getK ks ds (.inr z) with
    | none =>
      have hp2 : P ((getK ks ds (.inr z)).getD .non) := hp'
      rw [hk] at hp2
      refine ⟨none, ?_, q .non .non H2 (st.trans st2) rfl hp2⟩
      rw [← dkey_none ek hl hk]
      exact DGet.k (k := Sum.inr z) e1
    | some d =>
      have hp2 : P ((getK ks ds (.inr z)).getD .non) := hp'
      rw [hk] at hp2
      obtain ⟨w, ew, hw⟩ := dkey ek hl hk
      refine ⟨some w, ?_, q w d H2 (st.trans st2) hw hp2⟩
      rw [← ew]
      exact DGet.k (k := Sum.inr z) e1
  | _ => exact hp.elim
theorem de_fn0 {x : Str} {k m : Nat} {C : Con} {p : Pos} (h : Callee G.X.prog G.X.w G.X.K G.X.mg G.X.base x k [] C) (hr : Room m G.X.A) (hk : k ≤ m := by decide) (hg : Gl G.X x := by rfl) (hdb : (x == ("__debug__" : Str)) = false := by decide) : DE G (.Call (.Name x p) [] [] pos) (fun ρ P => C.C [] P (fun _ => False)) := by
  obtain ⟨f, fd, F, hm, hkp, hb⟩ := h.ex
  exact de_call0 F (hr.mono hk) hg hm hkp hb hdb
end
end DL
namespace DL
open PySem PySem.Spec PyProof.Rows L2
section
variable {prog : Program} {w : World} {A : Around} {E : Value → Shared → Prop} {s : Shared}
/-- what one step of a zip's iterator is asked for: its item, and how it stands then -/
def StepOk (prog : Program) (w : World) (A : Around) (s : Shared) (it : Addr) (B : Heap → Prop) (x : Value) (I : Heap → Prop) : Prop :=
  ∀ (h1 : Heap) (Q : Value → Shared → Prop) (E : Value → Shared → Prop), B h1 → (∀ h2, I h2 → Heap.SameBut it h1 h2 → Q x { s with heap := h2 }) → wpAny (model prog w) A (Builtin.SmallTypes.nextOf (.ref it)) Q E { s with heap := h1 }
/-- .. or it ends -/
def StopOk (prog : Program) (w : World) (A : Around) (s : Shared) (it : Addr) (B : Heap → Prop) : Prop :=
  ∀ (h1 : Heap) (Q : Value → Shared → Prop) (E : Value → Shared → Prop), B h1 → (∀ h2 e, Heap.ExtBut it h1 h2 → (∃ o, h2.get? e = some o ∧ o.cls = .type "StopIteration") → E (.ref e) { s with heap := h2 }) → wpAny (model prog w) A (Builtin.SmallTypes.nextOf (.ref it)) Q E { s with heap := h1 }
/-- a zip's next item, whatever its two iterators are -/
theorem zipG_item {z TI TO i1 i2 l1 l2 : Addr} {x y a b : Value} {Q : Value → Shared → Prop} {B1 B2 I1 I2 : Heap → Prop} (D : ZipApart z TI TO i1 i2 l1 l2) (hz : IsZip s.heap z TI TO .none) (hTI : IsPair s.heap TI (.ref i1) (.ref i2)) (hTO : IsPair s.heap TO a b)
    (n1 : StepOk prog w A s i1 B1 x I1) (n2 : StepOk prog w A s i2 B2 y I2)
    (c1 : ∀ h, (∀ c o, c ≠ z → s.heap.get? c = some o → h.get? c = some o) → B1 h) (c2 : ∀ h, (∀ c o, c ≠ z → c ≠ TO → c ≠ i1 → s.heap.get? c = some o → h.get? c = some o) → B2 h)
    (k1 : ∀ h h', (∀ o, h.get? i1 = some o → h'.get? i1 = some o) → I1 h → I1 h') (k2 : ∀ h h', (∀ o, h.get? i2 = some o → h'.get? i2 = some o) → I2 h → I2 h')
    (hQ : ∀ h', IsZip h' z TI TO (rawInt s.heap.objs.size) → IsPair h' TO x y → I1 h' → I2 h' → IsPair h' s.heap.objs.size x y → h'.objs.size = s.heap.objs.size + 1 → (∀ c o, c ≠ z → c ≠ TO → c ≠ i1 → c ≠ i2 → s.heap.get? c = some o → h'.get? c = some o) → Q (.ref s.heap.objs.size) { s with heap := h' }) :
    wpAny (model prog w) A (Builtin.«zip.__next__» ⟨[.ref z], []⟩) (fun fin s' => ∃ v, fin = .done (.ret v) ∧ Q v s') E s := by
  show wpAny _ _ (field (.ref z) 2 >>= _) _ _ _; refine wpAny_bind (wpAny_field hz rfl (x := .bool false) rfl ?_); show wpAny _ _ (field (.ref z) 3 >>= _) _ _ _
  refine wpAny_bind (wpAny_field hz rfl (x := .ref TI) rfl (wpAny_bind (wpAny_seqItems hTI rfl ?_)))
  show wpAny _ _ (Builtin.SmallTypes.ownedTupleIsFree (.ref z) >>= _) _ _ _
  refine wpAny_bind ?_; unfold Builtin.SmallTypes.ownedTupleIsFree
  refine wpAny_bind (wpAny_field hz rfl (x := .none) rfl (wpAny_pure ?_)); simp only [if_true]
  refine wpAny_bind (wpAny_rule (wpAny_bind (wpAny_field hz rfl (x := .ref TO) rfl (wpAny_bind (wpAny_setField_rec hz (by simp) fun ha hza sa => ?_)))))
  replace hza : IsZip ha z TI TO .ellipsis := hza
  refine wpAny_bind ?_; simp only [List.zipIdx_cons, List.zipIdx_nil, List.forIn_cons, List.forIn_nil]
  -- the first
  refine wpAny_bind (wpAny_bind (wpAny_onRaise ?_)); show wpAny _ _ (Builtin.SmallTypes.nextOf (.ref i1) >>= _) _ _ _
  refine wpAny_bind (n1 ha _ _ (c1 ha fun c o hc e => sa.extBut _ _ hc e) fun hb jb sb => wpAny_pure ?_)
  have Ob : IsPair hb TO a b := sb.extBut _ _ D.TOi1 (sa.extBut _ _ D.TOz hTO)
  refine wpAny_bind (wpAny_seqItems Ob rfl (wpAny_bind (wpAny_updateSeq_pair Ob fun hc Oc sc => ?_)))
  replace Oc : IsPair hc TO x b := Oc
  refine wpAny_bind (wpAny_letGo (wpAny_pure ?_))
  -- the second
  refine wpAny_bind (wpAny_bind (wpAny_onRaise ?_)); show wpAny _ _ (Builtin.SmallTypes.nextOf (.ref i2) >>= _) _ _ _
  refine wpAny_bind (n2 hc _ _ (c2 hc fun c o e1 e2 e3 e => sc.extBut _ _ e2 (sb.extBut _ _ e3 (sa.extBut _ _ e1 e))) fun hd jd sd => wpAny_pure ?_)
  have Od : IsPair hd TO x b := sd.extBut _ _ D.TOi2 Oc
  refine wpAny_bind (wpAny_seqItems Od rfl (wpAny_bind (wpAny_updateSeq_pair Od fun he Oe se => ?_)))
  replace Oe : IsPair he TO x y := Oe
  refine wpAny_bind (wpAny_letGo (wpAny_pure (wpAny_pure ?_)))
  refine wpAny_bind (wpAny_seqItems Oe rfl (wpAny_bind (wpAny_newTuple ?_)))
  have hsz : he.objs.size = s.heap.objs.size := se.1.trans (sd.1.trans (sc.1.trans (sb.1.trans sa.1)))
  have ze : IsZip he z TI TO .ellipsis := se.extBut _ _ D.TOz.symm (sd.extBut _ _ D.i2z.symm (sc.extBut _ _ D.TOz.symm (sb.extBut _ _ D.i1z.symm hza)))
  have fe : ∀ c o, c ≠ z → c ≠ TO → c ≠ i1 → c ≠ i2 → s.heap.get? c = some o → he.get? c = some o := fun c o e1 e2 e3 e4 e => se.extBut _ _ e2 (sd.extBut _ _ e4 (sc.extBut _ _ e2 (sb.extBut _ _ e3 (sa.extBut _ _ e1 e))))
  have je1 : I1 he := k1 hb he (fun o e => se.extBut _ _ D.TOi1.symm (sd.extBut _ _ D.i12 (sc.extBut _ _ D.TOi1.symm e))) jb
  have je2 : I2 he := k2 hd he (fun o e => se.extBut _ _ D.TOi2.symm e) jd
  have zl : z < he.objs.size := Heap.lt_size ze
  show wpAny _ _ (Builtin.SmallTypes.ownedTupleHandOut (.ref z) (.ref he.objs.size) >>= _) _ _ _
  refine wpAny_bind ?_; unfold Builtin.SmallTypes.ownedTupleHandOut
  have zf : IsZip (he.push { cls := .type "tuple", data := .seq #[x, y] }) z TI TO .ellipsis := Heap.get?_push_of_some _ ze
  refine wpAny_bind (wpAny_setField_rec zf (by simp) fun hg zg sg => ?_)
  replace zg : IsZip hg z TI TO (rawInt he.objs.size) := zg
  refine wpAny_setField_rec zg (by simp) fun hh zh sh => ?_
  replace zh : IsZip hh z TI TO (rawInt he.objs.size) := zh
  have up : ∀ c o, c ≠ z → he.get? c = some o → hh.get? c = some o := fun c o e1 e => sh.extBut _ _ e1 (sg.extBut _ _ e1 (Heap.get?_push_of_some _ e))
  have pT : IsPair hh he.objs.size x y := sh.extBut _ _ (Nat.ne_of_gt zl) (sg.extBut _ _ (Nat.ne_of_gt zl) (Heap.get?_push_size _ rfl))
  have sz : hh.objs.size = he.objs.size + 1 := sh.1.trans (sg.1.trans (Heap.size_push ..))
  rw [hsz] at zh pT sz
  refine wpAny_pure ⟨_, rfl, ?_⟩
  show Q (.ref he.objs.size) _
  rw [hsz]
  exact hQ hh zh (up _ _ D.TOz Oe) (k1 he hh (fun o e => up _ o D.i1z e) je1) (k2 he hh (fun o e => up _ o D.i2z e) je2) pT sz fun c o e1 e2 e3 e4 e => up c o e1 (fe c o e1 e2 e3 e4 e)
/-- a zip at its end -/
theorem zipG_end {z TI TO i1 i2 l1 l2 : Addr} {x a b : Value} {Q : Fin → Shared → Prop} {B1 B2 I1 : Heap → Prop} (D : ZipApart z TI TO i1 i2 l1 l2) (hz : IsZip s.heap z TI TO .none) (hTI : IsPair s.heap TI (.ref i1) (.ref i2)) (hTO : IsPair s.heap TO a b)
    (n : StopOk prog w A s i1 B1 ∨ (StepOk prog w A s i1 B1 x I1 ∧ StopOk prog w A s i2 B2))
    (c1 : ∀ h, (∀ c o, c ≠ z → s.heap.get? c = some o → h.get? c = some o) → B1 h) (c2 : ∀ h, (∀ c o, c ≠ z → c ≠ TO → c ≠ i1 → s.heap.get? c = some o → h.get? c = some o) → B2 h)
    (hE : ∀ h' e, (∀ c o, c ≠ z → c ≠ TO → c ≠ i1 → c ≠ i2 → s.heap.get? c = some o → h'.get? c = some o) → (∃ o, h'.get? e = some o ∧ o.cls = .type "StopIteration") → E (.ref e) { s with heap := h' }) :
    wpAny (model prog w) A (Builtin.«zip.__next__» ⟨[.ref z], []⟩) Q E s := by
  show wpAny _ _ (field (.ref z) 2 >>= _) _ _ _; refine wpAny_bind (wpAny_field hz rfl (x := .bool false) rfl ?_); show wpAny _ _ (field (.ref z) 3 >>= _) _ _ _
  refine wpAny_bind (wpAny_field hz rfl (x := .ref TI) rfl (wpAny_bind (wpAny_seqItems hTI rfl ?_)))
  show wpAny _ _ (Builtin.SmallTypes.ownedTupleIsFree (.ref z) >>= _) _ _ _
  refine wpAny_bind ?_; unfold Builtin.SmallTypes.ownedTupleIsFree
  refine wpAny_bind (wpAny_field hz rfl (x := .none) rfl (wpAny_pure ?_)); simp only [if_true]
  refine wpAny_bind (wpAny_rule (wpAny_bind (wpAny_field hz rfl (x := .ref TO) rfl (wpAny_bind (wpAny_setField_rec hz (by simp) fun ha hza sa => ?_)))))
  replace hza : IsZip ha z TI TO .ellipsis := hza
  refine wpAny_bind ?_; simp only [List.zipIdx_cons, List.zipIdx_nil, List.forIn_cons, List.forIn_nil]
  refine wpAny_bind (wpAny_bind (wpAny_onRaise ?_)); show wpAny _ _ (Builtin.SmallTypes.nextOf (.ref i1) >>= _) _ _ _
  rcases n with n1 | ⟨n1, n2⟩
  · refine wpAny_bind (n1 ha _ _ (c1 ha fun c o hc e => sa.extBut _ _ hc e) fun hb e sb he => ?_)
    obtain ⟨oe, ee, ce⟩ := he
    have zb : IsZip hb z TI TO .ellipsis := sb _ _ D.i1z.symm hza
    have ez : e ≠ z := fun q => by subst q; rw [zb] at ee; cases ee; simp at ce
    exact wpAny_setField_rec zb (by simp) fun hc _ sc => hE hc e (fun c o e1 _ e3 _ q => sc.extBut _ _ e1 (sb _ _ e3 (sa.extBut _ _ e1 q))) ⟨oe, sc.extBut _ _ ez ee, ce⟩
  · refine wpAny_bind (n1 ha _ _ (c1 ha fun c o hc e => sa.extBut _ _ hc e) fun hb jb sb => wpAny_pure ?_)
    have Ob : IsPair hb TO a b := sb.extBut _ _ D.TOi1 (sa.extBut _ _ D.TOz hTO)
    refine wpAny_bind (wpAny_seqItems Ob rfl (wpAny_bind (wpAny_updateSeq_pair Ob fun hc Oc sc => ?_)))
    refine wpAny_bind (wpAny_letGo (wpAny_pure ?_))
    refine wpAny_bind (wpAny_bind (wpAny_onRaise ?_)); show wpAny _ _ (Builtin.SmallTypes.nextOf (.ref i2) >>= _) _ _ _
    refine wpAny_bind (n2 hc _ _ (c2 hc fun c o e1 e2 e3 e => sc.extBut _ _ e2 (sb.extBut _ _ e3 (sa.extBut _ _ e1 e))) fun hd e sd he => ?_)
    obtain ⟨oe, ee, ce⟩ := he
    have zd : IsZip hd z TI TO .ellipsis := sd _ _ D.i2z.symm (sc.extBut _ _ D.TOz.symm (sb.extBut _ _ D.i1z.symm hza))
    have ez : e ≠ z := fun q => by subst q; rw [zd] at ee; cases ee; simp at ce
    exact wpAny_setField_rec zd (by simp) fun hf _ sf => hE hf e (fun c o e1 e2 e3 e4 q => sf.extBut _ _ e1 (sd _ _ e4 (sc.extBut _ _ e2 (sb.extBut _ _ e3 (sa.extBut _ _ e1 q))))) ⟨oe, sf.extBut _ _ ez ee, ce⟩
/-! ### a tuple and a list -/
theorem step_tup {i l : Addr} {j : Nat} {items : Array Value} {x : Value} (hx : items[j]? = some x) : StepOk prog w A s i (fun h => h.IsTupleIter i l j ∧ h.IsTuple l items) x fun h => h.IsTupleIter i l (j + 1) :=
  fun h1 Q E hB hQ => RZ.nextOf_tuple_item (s := { s with heap := h1 }) hB.1 hB.2 hx hQ
theorem step_lst {i l : Addr} {j : Nat} {items : Array Value} {x : Value} (hx : items[j]? = some x) : StepOk prog w A s i (fun h => h.IsListIter i l j ∧ h.IsList l items) x fun h => h.IsListIter i l (j + 1) :=
  fun h1 Q E hB hQ => wpAny_nextOf_list_item (s := { s with heap := h1 }) hB.1 hB.2 hx hQ
theorem stop_tup {i l : Addr} {j : Nat} {items : Array Value} (hh : A.handled = none) (hx : items[j]? = none) : StopOk prog w A s i fun h => h.IsTupleIter i l j ∧ h.IsTuple l items :=
  fun h1 Q E hB hQ => RZ.nextOf_tuple_end (s := { s with heap := h1 }) hh hB.1 hB.2 hx hQ
theorem stop_lst {i l : Addr} {j : Nat} {items : Array Value} (hh : A.handled = none) (hx : items[j]? = none) : StopOk prog w A s i fun h => h.IsListIter i l j ∧ h.IsList l items :=
  fun h1 Q E hB hQ => wpAny_nextOf_list_end (s := { s with heap := h1 }) hh hB.1 hB.2 hx hQ
/-- next(z) -/
theorem nextM_item {z TI TO i1 i2 l1 l2 : Addr} {j : Nat} {xs ys : Array Value} {x y a b : Value} {Q : Option Value → Shared → Prop} (D : ZipApart z TI TO i1 i2 l1 l2) (hz : IsZip s.heap z TI TO .none) (hTI : IsPair s.heap TI (.ref i1) (.ref i2)) (hTO : IsPair s.heap TO a b)
    (h1 : s.heap.IsTupleIter i1 l1 j) (h2 : s.heap.IsListIter i2 l2 j) (hl1 : s.heap.IsTuple l1 xs) (hl2 : s.heap.IsList l2 ys) (hx : xs[j]? = some x) (hy : ys[j]? = some y)
    (hQ : ∀ h', IsZip h' z TI TO (rawInt s.heap.objs.size) → IsPair h' TO x y → h'.IsTupleIter i1 l1 (j + 1) → h'.IsListIter i2 l2 (j + 1) → IsPair h' s.heap.objs.size x y → h'.objs.size = s.heap.objs.size + 1 → (∀ c o, c ≠ z → c ≠ TO → c ≠ i1 → c ≠ i2 → s.heap.get? c = some o → h'.get? c = some o) → Q (some (.ref s.heap.objs.size)) { s with heap := h' }) :
    wpAny (model prog w) A (pyNext (.ref z)) Q E s := by
  have hT : s.TypeIs (.ref z) "zip" := ⟨_, hz, rfl⟩
  unfold pyNext
  refine wpAny_bind (wpAny_attempt (wpAny_callSpecial?_slot (name := Str.ofString "__next__") hT F.slot_zip_next (wpAny_call_entry F.slot_zip_next hT F.entry_zip_next ?_ (F.args_zip_next_1 _))))
  exact zipG_item D hz hTI hTO (step_tup hx) (step_lst hy) (fun h k => ⟨h1.at fun o e => k _ o D.i1z e, hl1.at fun o e => k _ o D.l1z e⟩) (fun h k => ⟨h2.at fun o e => k _ o D.i2z D.TOi2.symm D.i12.symm e, hl2.at fun o e => k _ o D.l2z D.l2TO D.l2i1 e⟩)
    (fun h h' k q => q.at fun o e => k o e) (fun h h' k q => q.at fun o e => k o e) fun h' a1 a2 a3 a4 a5 a6 a7 => wpAny_pure (hQ h' a1 a2 a3 a4 a5 a6 a7)
theorem nextM_end {z TI TO i1 i2 l1 l2 : Addr} {j : Nat} {xs ys : Array Value} {a b : Value} {Q : Option Value → Shared → Prop} (hh : A.handled = none) (D : ZipApart z TI TO i1 i2 l1 l2) (hz : IsZip s.heap z TI TO .none) (hTI : IsPair s.heap TI (.ref i1) (.ref i2)) (hTO : IsPair s.heap TO a b)
    (h1 : s.heap.IsTupleIter i1 l1 j) (h2 : s.heap.IsListIter i2 l2 j) (hl1 : s.heap.IsTuple l1 xs) (hl2 : s.heap.IsList l2 ys) (hend : xs[j]? = none ∨ ys[j]? = none)
    (hQ : ∀ h', (∀ c o, c ≠ z → c ≠ TO → c ≠ i1 → c ≠ i2 → s.heap.get? c = some o → h'.get? c = some o) → Q none { s with heap := h' }) : wpAny (model prog w) A (pyNext (.ref z)) Q E s := by
  have hT : s.TypeIs (.ref z) "zip" := ⟨_, hz, rfl⟩
  unfold pyNext
  refine wpAny_bind (wpAny_attempt (wpAny_callSpecial?_slot (name := Str.ofString "__next__") hT F.slot_zip_next (wpAny_call_entry F.slot_zip_next hT F.entry_zip_next ?_ (F.args_zip_next_1 _))))
  have fin : ∀ h' e, (∀ c o, c ≠ z → c ≠ TO → c ≠ i1 → c ≠ i2 → s.heap.get? c = some o → h'.get? c = some o) → (∃ o, h'.get? e = some o ∧ o.cls = .type "StopIteration") → wpAny (model prog w) A ((isInstance (.ref e) (.type "StopIteration")) >>= fun b => if b = true then pure none else throw (.ref e)) Q E { s with heap := h' } := fun h' e k ⟨o, eo, co⟩ => by
    refine wpAny_bind (wpAny_isInstance (T := "StopIteration") (b := true) ⟨o, eo, co⟩ isSubtype_stop ?_)
    exact wpAny_pure (hQ _ k)
  have cc1 : ∀ h : Heap, (∀ c o, c ≠ z → s.heap.get? c = some o → h.get? c = some o) → h.IsTupleIter i1 l1 j ∧ h.IsTuple l1 xs := fun h k => ⟨h1.at fun o e => k _ o D.i1z e, hl1.at fun o e => k _ o D.l1z e⟩
  have cc2 : ∀ h : Heap, (∀ c o, c ≠ z → c ≠ TO → c ≠ i1 → s.heap.get? c = some o → h.get? c = some o) → h.IsListIter i2 l2 j ∧ h.IsList l2 ys := fun h k => ⟨h2.at fun o e => k _ o D.i2z D.TOi2.symm D.i12.symm e, hl2.at fun o e => k _ o D.l2z D.l2TO D.l2i1 e⟩
  cases hx : xs[j]? with
  | none => exact zipG_end (x := .none) (I1 := fun _ => True) D hz hTI hTO (.inl (stop_tup hh hx)) cc1 cc2 fun h' e k st => fin h' e k st
  | some x =>
    have hy : ys[j]? = none := by
      rcases hend with q | q
      · rw [hx] at q; cases q
      · exact q
    exact zipG_end (x := x) D hz hTI hTO (.inr ⟨step_tup hx, stop_lst hh hy⟩) cc1 cc2 fun h' e k st => fin h' e k st
end
/-! ### zip(t, l) made -/
abbrev mH1 (h : Heap) (l1 : Addr) : Heap := h.push { cls := .type "tuple_iterator", data := .fields #[.ref l1, .int 0 0] }
abbrev mH2 (h : Heap) (l1 l2 : Addr) : Heap := (mH1 h l1).push { cls := .type "list_iterator", data := .fields #[.ref l2, .int 0 0] }
abbrev mH3 (h : Heap) (l1 l2 : Addr) : Heap := (mH2 h l1 l2).push { cls := .type "tuple", data := .seq #[.ref h.objs.size, .ref (mH1 h l1).objs.size] }
abbrev mH4 (h : Heap) (l1 l2 : Addr) : Heap := (mH3 h l1 l2).push { cls := .type "tuple", data := .seq #[.none, .none] }
abbrev mH5 (h : Heap) (l1 l2 : Addr) : Heap := (mH4 h l1 l2).push { cls := .type "zip", data := .fields #[.none, .bool false, .bool false, .ref (mH2 h l1 l2).objs.size, .ref (mH3 h l1 l2).objs.size] }
theorem meetsM_new (l1 l2 : Addr) (xs ys : Array Value) : Meets (Builtin.«zip.__new__» ⟨[.type "zip", .ref l1, .ref l2], []⟩) (fun _ R s => s.heap.IsTuple l1 xs ∧ s.heap.IsList l2 ys ∧ R (.ok (.ret (.ref (mH4 s.heap l1 l2).objs.size))) { s with heap := mH5 s.heap l1 l2 }) := .of_wp fun prog w A R s h => by
  obtain ⟨hp, g, d, tk, os⟩ := s
  obtain ⟨q1, q2, h⟩ := h
  have hsub := sub_zip
  have t1 : Heap.IsTuple (Shared.heap ⟨hp, g, d, tk, os⟩) l1 xs := q1
  have t2 : Heap.IsList (Shared.heap ⟨mH1 hp l1, g, d, tk, os⟩) l2 ys := Heap.IsList.push q2 _
  wp_walk using wpAny_pyIter_tuple t1, wpAny_pyIter_list t2
  exact ⟨_, rfl, h⟩
section
variable {prog : Program} {w : World} {A : Around} {E : Value → Shared → Prop} {s : Shared}
theorem callM {l1 l2 : Addr} {xs ys : Array Value} {Q : Value → Shared → Prop} (hl1 : s.heap.IsTuple l1 xs) (hl2 : s.heap.IsList l2 ys)
    (h : ∀ h', IsZip h' (s.heap.objs.size + 4) (s.heap.objs.size + 2) (s.heap.objs.size + 3) .none → IsPair h' (s.heap.objs.size + 2) (.ref s.heap.objs.size) (.ref (s.heap.objs.size + 1)) → IsPair h' (s.heap.objs.size + 3) .none .none → h'.IsTupleIter s.heap.objs.size l1 0 → h'.IsListIter (s.heap.objs.size + 1) l2 0 → (∀ c o, s.heap.get? c = some o → h'.get? c = some o) → Q (.ref (s.heap.objs.size + 4)) { s with heap := h' }) :
    wpAny (model prog w) A (call (.type "zip") [.ref l1, .ref l2]) Q E s := by
  refine callType_new F.called_zip (by decide) (F.typeCall_zip_2 _ _) (F.newCall_zip_2 _ _) (fun obj => F.args_object_init_3 obj _ _) F.entry_zip_new (meetsM_new l1 l2 xs ys) ⟨hl1, hl2, ?_⟩
  have up : ∀ {h : Heap} {o : Obj} {c : Addr} {u : Obj}, h.get? c = some u → (h.push o).get? c = some u := fun e => Heap.get?_push_of_some _ e
  have a1 : (mH1 s.heap l1).objs.size = s.heap.objs.size + 1 := Heap.size_push ..
  have a2 : (mH2 s.heap l1 l2).objs.size = s.heap.objs.size + 2 := (Heap.size_push ..).trans (congrArg (· + 1) a1)
  have a3 : (mH3 s.heap l1 l2).objs.size = s.heap.objs.size + 3 := (Heap.size_push ..).trans (congrArg (· + 1) a2)
  have a4 : (mH4 s.heap l1 l2).objs.size = s.heap.objs.size + 4 := (Heap.size_push ..).trans (congrArg (· + 1) a3)
  have e5 : (mH5 s.heap l1 l2).get? (mH4 s.heap l1 l2).objs.size = some _ := Heap.get?_push_size _ rfl
  have e4 : (mH5 s.heap l1 l2).get? (mH3 s.heap l1 l2).objs.size = some _ := up (Heap.get?_push_size _ rfl)
  have e3 : (mH5 s.heap l1 l2).get? (mH2 s.heap l1 l2).objs.size = some _ := up (up (Heap.get?_push_size _ rfl))
  have e2 : (mH5 s.heap l1 l2).get? (mH1 s.heap l1).objs.size = some _ := up (up (up (Heap.get?_push_size _ rfl)))
  have e1 : (mH5 s.heap l1 l2).get? s.heap.objs.size = some _ := up (up (up (up (Heap.get?_push_size _ rfl))))
  rw [a2, a3, a4] at e5; rw [a3] at e4; rw [a1, a2] at e3; rw [a1] at e2
  show _ ∧ _
  rw [a4]
  exact ⟨⟨_, e5, rfl⟩, h _ e5 e3 e4 ⟨_, e1, rfl, rfl⟩ ⟨_, e2, rfl, rfl⟩ fun c o q => up (up (up (up (up q))))⟩
end
end DL
namespace DL
open PySem PySem.Spec PyProof.Rows L2
/-- the tuple at a and the list at b as they stand at each turn, their items in new pairs -/
def ItzM (K : PySem.W.Frag) (a b : Addr) : It where
  go i H := ∃ (xs ys : List V) (x y : V), SqT K H a xs ∧ SqL K H b ys ∧ xs[i]? = some x ∧ ys[i]? = some y
  yld i H v H' := ∃ T x y, v = .ref T ∧ H T = none ∧ H' = upd H T (.tup [x, y]) ∧ (∀ xs, SqT K H a xs → xs[i]? = some x) ∧ ∀ ys, SqL K H b ys → ys[i]? = some y
  stop i H := ∃ xs ys : List V, SqT K H a xs ∧ SqL K H b ys ∧ (xs.length ≤ i ∨ ys.length ≤ i)
/-- how the five objects of such a zip stand at turn i -/
def ZipM (z TI TO i1 i2 a b : Addr) (i : Nat) (h : Heap) : Prop := IsZip h z TI TO .none ∧ IsPair h TI (.ref i1) (.ref i2) ∧ (∃ x y, IsPair h TO x y) ∧ h.IsTupleIter i1 a i ∧ h.IsListIter i2 b i
theorem five {z TI TO i1 i2 c : Addr} (h : c ∈ [z, TI, TO, i1, i2]) : c = z ∨ c = TI ∨ c = TO ∨ c = i1 ∨ c = i2 := by simpa using h
theorem turnM {P : Program} {w : World} {K : PySem.W.Frag} {elts : List Expr} {kk : Nat} {tpos : Pos} {a b z TI TO i1 i2 : Addr} (D : ZipApart z TI TO i1 i2 a b) : Turn P w K (.Tuple elts kk tpos) (ItzM K a b) [z, TI, TO, i1, i2] z (ZipM z TI TO i1 i2 a b) where
  mem := List.mem_cons_self
  obj := fun i h ⟨s1, s2, ⟨u, v, s3⟩, ⟨o1, e1, _, d1⟩, ⟨o2, e2, _, d2⟩⟩ c hc => by
    rcases five hc with rfl | rfl | rfl | rfl | rfl
    · exact ⟨_, s1, fun v q => nomatch q⟩
    · exact ⟨_, s2, fun v q => nomatch q⟩
    · exact ⟨_, s3, fun v q => nomatch q⟩
    · exact ⟨o1, e1, fun v q => by rw [d1] at q; cases q⟩
    · exact ⟨o2, e2, fun v q => by rw [d2] at q; cases q⟩
  keep := fun i h h' ⟨s1, s2, ⟨u, v, s3⟩, s4, s5⟩ k =>
    ⟨k z (by simp) _ s1, k TI (by simp) _ s2, ⟨u, v, k TO (by simp) _ s3⟩, s4.at fun o q => k i1 (by simp) o q, s5.at fun o q => k i2 (by simp) o q⟩
  item := by
    rintro X hP hw hK hc i pins s σ H E I hf ⟨s1, s2, ⟨u, v, s3⟩, s4, s5⟩ ⟨xs, ys, x, y, qx, qy, ex, ey⟩
    subst hP hw hK
    obtain ⟨us, ru, pu, _⟩ := I.tuple qx
    obtain ⟨vs, rv, pv, _⟩ := I.list qy
    obtain ⟨x', ex', rx⟩ := ru.get ex
    obtain ⟨y', ey', ry⟩ := rv.get ey
    have lt : ∀ c ∈ [z, TI, TO, i1, i2], c < s.heap.objs.size := fun c hm => by
      rcases five hm with rfl | rfl | rfl | rfl | rfl
      · exact Heap.lt_size s1
      · exact Heap.lt_size s2
      · exact Heap.lt_size s3
      · exact Heap.lt_size s4.choose_spec.1
      · exact Heap.lt_size s5.choose_spec.1
    refine nextM_item D s1 s2 s3 s4 s5 pu pv.isList (x := x') (y := y') (by simpa using ex') (by simpa using ey') fun h' b1 b2 b3 b4 b5 _ b6 => ?_
    refine ⟨_, rfl, wpAny_letOwnedTupleGo_zip (s := { s with heap := h' }) b1 fun h2 b7 sb => ?_⟩
    have nz : s.heap.objs.size ≠ z := Nat.ne_of_gt (lt z (by simp))
    have b8 : h2.get? s.heap.objs.size = some { cls := .type "tuple", data := .seq #[x', y'] } := (sb.2 _ nz).trans b5
    have new : ObjOk X.prog X.w (upd H s.heap.objs.size (.tup [x, y])) h2 s.heap.objs.size (.tup [x, y]) := ⟨show 2 ≤ sizeLine by decide, [x', y'], .cons rx (.cons ry .nil), ⟨_, b8, rfl, _, rfl⟩⟩
    have fr : ∀ c o, c ∉ [z, TI, TO, i1, i2] → s.heap.get? c = some o → h2.get? c = some o := fun c o n q => by
      simp only [List.mem_cons, List.not_mem_nil, or_false, not_or] at n
      exact (sb.2 c n.1).trans (b6 c o n.1 n.2.2.1 n.2.2.2.1 n.2.2.2.2 q)
    have I2 := I.turnedNew (t' := s.toks) (ch := [z, TI, TO, i1, i2]) fr hf (Nat.le_refl _) new
    refine ⟨.ref s.heap.objs.size, _, I2, rfl, ⟨_, x, y, rfl, I.hok.fresh (Nat.le_refl _), rfl, fun l hl => ?_, fun l hl => ?_⟩, ⟨b7, ?_, ⟨x', y', ?_⟩, ?_, ?_⟩, fun c hm => ?_⟩
    · rw [I.tuple_inj hl qx]; exact ex
    · rw [I.list_inj hl qy]; exact ey
    · exact (sb.2 _ D.TIz).trans (b6 _ _ D.TIz D.TITO D.TIi1 D.TIi2 s2)
    · exact (sb.2 _ D.TOz).trans b2
    · exact b3.at fun o q => (sb.2 _ D.i1z).trans q
    · exact b4.at fun o q => (sb.2 _ D.i2z).trans q
    · rw [upd_ne (Nat.ne_of_lt (lt c hm))]
      exact (hf c hm).1
  done := by
    rintro X hP hw hK hc i pins s σ H E I hf ⟨s1, s2, ⟨u, v, s3⟩, s4, s5⟩ ⟨xs, ys, qx, qy, hend⟩
    subst hP hw hK
    obtain ⟨us, ru, pu, _⟩ := I.tuple qx
    obtain ⟨vs, rv, pv, _⟩ := I.list qy
    have e1 := ru.length
    have e2 := rv.length
    refine nextM_end (I.ok.hd hc) D s1 s2 s3 s4 s5 pu pv.isList (hend.imp (fun q => by simp; omega) fun q => by simp; omega) fun h' k => ⟨rfl, ?_⟩
    refine I.turnedL (t' := s.toks) (ch := [z, TI, TO, i1, i2]) (fun c o n q => ?_) hf
    simp only [List.mem_cons, List.not_mem_nil, or_false, not_or] at n
    exact k c o n.1 n.2.2.1 n.2.2.2.1 n.2.2.2.2 q
  self := fun A i s Q E st h => wpAny_pyIter_zip st.1 h
def iZipM (K : PySem.W.Frag) (ta : TA) : TI := fun σ H R => ta σ H fun vs H1 => ∃ a b xs ys, vs = [.ref a, .ref b] ∧ SqT K H1 a xs ∧ SqL K H1 b ys ∧ R (ItzM K a b) H1
theorem pi_zipM {X : Cx} {e e2 : Expr} {ta : TA} {p pos tpos : Pos} {elts : List Expr} {kk : Nat} (hg : Gl X "zip") (hm : X.mg "zip" = none) (ha : PA X [e, e2] ta) (hs : starEach [e, e2] X.env = (false, eval e X.env) :: starEach [e2] X.env := by rfl) (hpl : (backTo pos (starEach [e2] X.env)).any (·.1) = false := by rfl) :
    PI X (.Tuple elts kk tpos) (.Call (.Name "zip" p) [e, e2] [] pos) (iZipM X.K ta) := by
  refine ⟨fun pins s σ H R I h => Call_ (ld_blt I hg hm PyProof.Rows.boot_zip (PyProof.Rows.callWith_type1 (thn (ha.run pos pins s σ H _ I h) fun us t ⟨vs, H1, I1, r1, a, b, xs, ys, ev, qx, qy, q⟩ => ?_) hs hpl))⟩
  subst ev
  obtain ⟨u1, u2, e1, ra, rb⟩ := vals2 r1
  subst e1
  obtain rfl : u1 = Value.ref a := ra
  obtain rfl : u2 = Value.ref b := rb
  obtain ⟨us, ru, pu, _⟩ := I1.tuple qx
  obtain ⟨vs, rv, pv, _⟩ := I1.list qy
  obtain ⟨o1, eo1, _⟩ := id pu
  let n := t.heap.objs.size
  refine callM (show t.heap.IsTuple a us.toArray from pu) pv.isList fun h' b1 b2 b3 b4 b5 k => wpAny_pyIter_zip b1 ?_
  have fresh : ∀ c, c ∈ [n + 4, n + 2, n + 3, n, n + 1] → FpOk X pins H1 c := fun c hm => by
    have hle : n ≤ c := by
      rcases five hm with z | z | z | z | z <;> rw [z]
      · exact Nat.le_add_right _ _
      · exact Nat.le_add_right _ _
      · exact Nat.le_add_right _ _
      · exact Nat.le_refl _
      · exact Nat.le_add_right _ _
    exact I1.fpOk hle (I1.hok.fresh hle)
  exact ⟨n + 4, [n + 4, n + 2, n + 3, n, n + 1], _, _, H1, rfl, I1.kept (t' := t.toks) k, turnM (PySem.W.ktu_apart n a b (Heap.lt_size eo1) pv.lt), ⟨b1, b2, ⟨_, _, b3⟩, b4, b5⟩, fresh, q⟩
section
variable {G : Ctx} {S S' : Addr → Prop} {H H' : Hp} {pos : Pos} {a b : Expr}
def zipTL (ds : List Dat) (P : List Dat → Prop) : Prop := match ds with
  | [.tup x, .lst y] => P (zips x y)
  | _ => False
theorem di_zipTL {elts : List Expr} {kk : Nat} {tpos p : Pos} {Fs : FA} (hm : G.X.mg "zip" = none) (ha : DA G [a, b] Fs) (hg : Gl G.X "zip" := by rfl) (hs : starEach [a, b] G.X.env = (false, eval a G.X.env) :: starEach [b] G.X.env := by rfl) (hpl : (backTo pos (starEach [b] G.X.env)).any (·.1) = false := by rfl) :
    DI G (.Tuple elts kk tpos) (.Call (.Name "zip" p) [a, b] [] pos) (fun ρ P => Fs ρ fun ds => zipTL ds P) := by
  obtain ⟨t, h1, l1⟩ := ha.ex
  refine ⟨⟨_, pi_zipM hg hm h1 hs hpl, fun S σ H ρ P R g h q => ?_⟩⟩
  refine l1 S σ H ρ _ _ g h fun vs ds H1 st hv hp => ?_
  have g1 := g.step st
  unfold zipTL at hp
  split at hp
  · rename_i x y
    obtain ⟨v, w, rfl, hd, he⟩ := dvl2 hv
    obtain ⟨p1, xs, rfl, e1, v1⟩ := dv_tup hd
    obtain ⟨p2, ys, rfl, n2, e2, v2⟩ := dv_lst he
    refine ⟨p1, p2, xs, ys, rfl, sqT_of e1, .inl (.inl e2), q _ _ H1 st ⟨fun i S' H' hi fr => ?_, fun i d S' σ' ρ' H' z H2 hd g fr yl => ?_, fun S' H' fr => ?_⟩ hp⟩
    · obtain ⟨x', y', h1, h2, _⟩ := zips_get (List.getElem?_eq_getElem hi)
      obtain ⟨u, eu, _⟩ := v1.get h1
      obtain ⟨u', eu', _⟩ := v2.get h2
      exact ⟨xs, ys, u, u', frT fr e1, .inl (.inl (fr _ _ n2 e2).2), eu, eu'⟩
    · obtain ⟨x', y', h1, h2, rfl⟩ := zips_get hd
      obtain ⟨u, eu, hu⟩ := v1.get h1
      obtain ⟨u', eu', hu'⟩ := v2.get h2
      obtain ⟨T, c1, c2, rfl, nT, rfl, f1, f2⟩ := yl
      cases eu.symm.trans (f1 xs (frT fr e1))
      cases eu'.symm.trans (f2 ys (.inl (.inl (fr _ _ n2 e2).2)))
      have s2 : Stp G H' (upd H' T (.tup [u, u'])) := Stp.new g.wld nT
      exact ⟨s2, T, [u, u'], rfl, .inl ⟨g.fresh nT, upd_same⟩, s2.dvl g ⟨u, _, rfl, hu.move fr, u', _, rfl, hu'.move fr, rfl⟩⟩
    · refine ⟨xs, ys, frT fr e1, .inl (.inl (fr _ _ n2 e2).2), ?_⟩
      rw [zips_len, v1.len, v2.len]
      omega
  · exact hp.elim
end
end DL
namespace DL
open PySem PySem.Spec PyProof.Rows L2
section
variable {G : Ctx} {S S' : Addr → Prop} {σ : L2.St} {H H' : Hp} {ρ : List Slot} {pos : Pos} {a b : Expr} {Fa Fb : FE}
/-- name = l + m, the list one's own -/
theorem ds_setCat {x : Str} {pos' p2 : Pos} (i : Nat) (ha : DE G a Fa) (hb : DE G b Fb) (hN : G.X.N.Nodup) (hi : G.X.N[i]? = some x := by rfl) (hx : Loc G.X.env.scope x := by first | exact Or.inl rfl | exact Or.inr rfl) (hs : swapsWith (.BinOp a .Add b p2) (some (.Name x pos')) pos.line G.X.env = pure false := by rfl)
    (hf : G.X.fn x = true ∨ G.X.env.scope.names.lookup x = some .local := by first | exact .inl rfl | exact .inr rfl) : DS G (.Assign [.Name x pos'] (.BinOp a .Add b p2) pos) (fun D ρ => Fa ρ fun x => Fb ρ fun y => lstD x fun xs => lstD y fun ys => xs.length + ys.length ≤ sizeLine ∧ D.nx (ρ.set i (.own (xs ++ ys)))) := by
  obtain ⟨t1, h1, l1⟩ := ha.ex
  obtain ⟨t2, h2, l2⟩ := hb.ex
  refine ⟨⟨_, ps_set (i := i) hN hi hx (pe_op op_cat h1 h2) hs hf, fun S σ H ρ D Dh g h q => ?_⟩⟩
  refine l1 S σ H ρ _ _ g h fun v1 d1 H1 st1 hv1 hp => ?_
  have g1 := g.step st1
  refine l2 S σ H1 ρ _ _ g1 hp fun v2 d2 H2 st2 hv2 hp => ?_
  have g2 := g1.step st2
  cases d1 with
  | lst ds =>
    cases d2 with
    | lst es =>
      obtain ⟨p1, xs, rfl, n1, e1, hl1⟩ := dv_lst (st2.dv g1 hv1)
      obtain ⟨p2, ys, rfl, n2, e2, hl2⟩ := dv_lst hv2
      refine ⟨p1, p2, xs, ys, rfl, rfl, e1, e2, by rw [hl1.len, hl2.len]; exact hp.1, fun p np => ?_⟩
      obtain ⟨g3, fr⟩ := g2.grow (o := .lst (xs ++ ys)) np
      exact q.nx _ _ _ _ (g2.setOwn (i := i) (s := .own (ds ++ es)) np rfl ⟨p, xs ++ ys, rfl, .inr rfl, g2.fresh0 np, upd_same, (hl1.append hl2).move fr⟩) (Fr.trans (Fr.trans (st1.fr g) (st2.fr g1)) fr) hp.2
    | _ => exact hp.elim
  | _ => exact hp.elim
end
end DL
namespace DL
open PySem PySem.Spec PyProof.Rows L2
theorem len_rep {α : Type} (xs : List α) : ∀ n : Nat, (List.replicate n xs).flatten.length = n * xs.length
  | 0 => by simp
  | n + 1 => by rw [List.replicate_succ, List.flatten_cons, List.length_append, len_rep xs n, Nat.succ_mul, Nat.add_comm]
/-- a tuple taken k times, at most a million items -/
def rRepB (K : PySem.W.Frag) : R2 := fun x y H Q => ∃ l k xs, x = .ref l ∧ y = .int k ∧ SqT K H l xs ∧ xs ≠ [] ∧ 2 ≤ k ∧ k.toNat * xs.length ≤ 1000000 ∧ ∀ p, H p = none → Q (.ref p) (upd H p (.tup (List.replicate k.toNat xs).flatten))
theorem op_repB {X : Cx} : OpR X (binaryOp .Mult) (rRepB X.K) := by
  rintro pins s σ H x y v u Q I rx ry ⟨l, k, xs, rfl, rfl, hT, hne, h1, hm, q⟩
  cases rx
  obtain ⟨t, rfl⟩ := ry
  obtain ⟨its, r, ⟨⟨cls, dd, data, sl⟩, ho, hc, n, hd⟩, hs⟩ := I.tuple hT
  simp only at hc hd
  subst hc hd
  have hle : its.length = xs.length := r.length.symm
  have hpos : 1 ≤ xs.length := by
    cases xs with
    | nil => exact absurd rfl hne
    | cons a b => simp
  have big : sizeLine = 16777216 := sizeLine_eq
  have hi : its.toArray.isEmpty = false := by
    cases its with
    | nil => rw [List.length_nil] at hle; omega
    | cons a b => rfl
  have hk : k ≤ 1000000 := by
    have e : k.toNat * 1 ≤ k.toNat * xs.length := Nat.mul_le_mul_left _ hpos
    omega
  have ek : ((k.toNat : Nat) : Int) = k := Int.toNat_of_nonneg (by omega)
  have em : ((its.toArray.size : Nat) : Int) * k ≤ 1000000 := by
    have e : ((its.toArray.size : Nat) : Int) * k = ((k.toNat * xs.length : Nat) : Int) := by
      rw [List.size_toArray, hle, Int.natCast_mul, ek, Int.mul_comm]
    rw [e]; omega
  have fl : (List.replicate k.toNat its).flatten.length ≤ sizeLine := by rw [len_rep, hle]; omega
  have d0 : (decide (k < -(2 ^ 63)) || decide (k ≥ 2 ^ 63)) = false := by simp; omega
  have d1 : (its.toArray.isEmpty || k == 1) = false := by rw [hi]; simp; omega
  have d2 : (decide (k ≤ 0) || its.toArray.isEmpty) = false := by rw [hi]; simp; omega
  have d4 : Builtin.Tuple.tupleTooMany (((its.toArray.size : Nat) : Int) * k) = false := by unfold Builtin.Tuple.tupleTooMany; exact decide_eq_false (by omega)
  have run := tuple_mulW l its.toArray n dd sl k t d0 d1 d2 (by omega) d4 (by rw [size_rep, List.size_toArray]; exact fl)
  refine wpAny_binaryOp_repeat_ref (T := "tuple") (U := "int") (by decide) ⟨_, ho, rfl⟩ (fun s' => typeIs_int s' k t) noFill_tuple_mul F.fills_int_mul F.slot_int_rmul repeat_tuple F.slot_int_index.lookup ?_
  refine call_meets F.slot_int_rmul (typeIs_int s k t) F.entry_int_rmul (F.args_int_rmul_2 _ _) (int_rmul_tuple k t l its.toArray n dd sl) ⟨ho, rfl, ⟨_, ho, rfl⟩, ?_⟩
  refine call_meets F.slot_tuple_mul ⟨_, ho, rfl⟩ F.entry_tuple_mul (F.args_tuple_mul_2 _ _) run ⟨ho, ?_⟩
  rw [size_rep]
  refine ⟨.ref s.heap.objs.size, upd H s.heap.objs.size (.tup (List.replicate k.toNat xs).flatten), I.laid (t' := s.toks) (fun b ob q => Heap.get?_push_of_some _ q) (Nat.le_refl _) ?_, rfl, q _ (I.hok.fresh (Nat.le_refl _))⟩
  exact ⟨by rw [len_rep]; omega, _, r.rep k.toNat, IsTup.new _ _⟩
/-- a text taken k times -/
def strRep (x : Str) (k : Nat) : Str := ⟨(List.replicate k x.cps).foldl (· ++ ·) #[]⟩
theorem foldl_size (a : Array Nat) : ∀ (n : Nat) (acc : Array Nat), ((List.replicate n a).foldl (· ++ ·) acc).size = acc.size + n * a.size
  | 0, acc => by simp
  | n + 1, acc => by
    rw [List.replicate_succ, List.foldl_cons, foldl_size a n, Array.size_append, Nat.succ_mul]
    omega
theorem strRep_len (x : Str) (n : Nat) : (strRep x n).length = n * x.length := by
  show ((List.replicate n x.cps).foldl (· ++ ·) #[]).size = n * x.cps.size
  rw [foldl_size]
  simp
theorem foldl_all (a : Array Nat) (p : Nat → Bool) (h : a.all p = true) : ∀ (n : Nat) (acc : Array Nat), acc.all p = true → ((List.replicate n a).foldl (· ++ ·) acc).all p = true
  | 0, acc, q => by simpa using q
  | n + 1, acc, q => by
    rw [List.replicate_succ, List.foldl_cons]
    exact foldl_all a p h n _ (by rw [Array.all_append, q, h]; rfl)
theorem strRep_all (x : Str) (n : Nat) (p : Nat → Bool) (h : x.cps.all p = true) : (strRep x n).cps.all p = true := foldl_all x.cps p h n #[] (by simp)
theorem op_repS {X : Cx} : OpR X (binaryOp .Mult) (fun x y H Q => ∃ (z : Str) (k : Int), x = .str z ∧ y = .int k ∧ z.length = 1 ∧ 2 ≤ k ∧ k ≤ 100000 ∧ Q (.str (strRep z k.toNat)) H) := by
  rintro pins s σ H x y v u Q I rx ry ⟨z, k, rfl, rfl, hz, h1, h2, q⟩
  obtain ⟨t1, rfl⟩ := rx
  obtain ⟨t2, rfl⟩ := ry
  have e1 : ¬ k < 1 := by omega
  have e2 : (k == 1 || z.length == 0) = false := by rw [hz]; simp; omega
  refine PySem.P.mul_str (by simp; omega) (fun _ _ => ?_) (fun _ _ => ?_) ?_
  · rw [hz]
    have e : (1 : Int) ≤ (2 ^ 63 - 1) / k := Int.le_ediv_of_mul_le (by omega) (by omega)
    show ¬ (((1 : Nat) : Int) > (2 ^ 63 - 1) / k)
    omega
  · rw [hz]
    unfold PySem.Builtin.Str.tooLong
    have big : sizeLine = 16777216 := sizeLine_eq
    exact decide_eq_false (by omega)
  · rw [if_neg e1, if_neg (by rw [e2]; exact Bool.false_ne_true)]
    exact ⟨show (strRep z k.toNat).length ≤ sizeLine by rw [strRep_len, hz, sizeLine_eq]; omega, .str (strRep z k.toNat), H, I.tok _, ⟨_, rfl⟩, q⟩
section
variable {G : Ctx} {S : Addr → Prop} {H : Hp} {pos : Pos} {a b : Expr} {Fa Fb : FE}
def repB : R2D
  | .tup ds, .int k, P => ds ≠ [] ∧ 2 ≤ k ∧ k.toNat * ds.length ≤ 1000000 ∧ P (.tup (List.replicate k.toNat ds).flatten)
  | .str z, .int k, P => z.length = 1 ∧ 2 ≤ k ∧ k ≤ 100000 ∧ P (.str (strRep z k.toNat))
  | _, _, _ => False
theorem serves_repB : Serves G (fun x y H Q => rRepB G.X.K x y H Q ∨ ∃ (z : Str) (k : Int), x = .str z ∧ y = .int k ∧ z.length = 1 ∧ 2 ≤ k ∧ k ≤ 100000 ∧ Q (.str (strRep z k.toNat)) H) repB := by
  intro S σ ρ H x y dx dy P Q g hx hy h q
  cases dy with
  | int k =>
    cases dv_int hy
    cases dx with
    | tup ds =>
      obtain ⟨h1, h2, h3, hp⟩ := h
      obtain ⟨a, xs, rfl, e, hl⟩ := dv_tup hx
      exact .inl ⟨a, k, xs, rfl, rfl, sqT_of e, fun z => h1 (List.length_eq_zero_iff.mp (by rw [← hl.len, z]; rfl)), h2, by rw [hl.len]; exact h3, new_tup g (hl.rep k.toNat) hp q⟩
    | str z =>
      obtain ⟨h1, h2, h3, hp⟩ := h
      cases dv_str hx
      exact .inr ⟨z, k, rfl, rfl, h1, h2, h3, q _ (.str _) H (Stp.refl g.wld) rfl hp⟩
    | _ => exact h.elim
  | _ => cases dx <;> exact h.elim
theorem de_repB (ha : DE G a Fa) (hb : DE G b Fb) : DE G (.BinOp a .Mult b pos) (fun ρ P => Fa ρ fun x => Fb ρ fun y => repB x y P) := de_bin (.or op_repB op_repS) serves_repB ha hb
end
end DL
namespace DL
open PySem PySem.Spec PyProof.Rows L2
/-- f(k = v, ..), keywords alone -/
theorem pe_callK0 {X : Cx} {CX : CXT} {k : Nat} {f : Addr} {fd : FuncData} {ps ks : List Str} {sp : Sp} {E : XK} {x : Str} {p pos : Pos} {kws : List Keyword} {tk : TA} {g : List Value → List Value → List Value} {gV : List V → List V → List V}
    (F : FnOk X.prog X.w X.K X.mg X.base CX k f fd ps sp) (hr : Room k X.A) (hg : Gl X x) (hm : X.mg x = some (.ref f)) (hk : PySem.W.keepIn X.K (.ref f) = true) (hb : KBinds X.K fd ps ks g gV) (hx : Passes CX X E) (hkw : PK X kws tk)
    (hall : (backToKw pos (keywordEach kws X.env)).all (·.1.isSome) = true := by rfl) (hks : (backToKw pos (keywordEach kws X.env)).filterMap (·.1) = ks := by rfl) (hdb : (x == ("__debug__" : Str)) = false := by decide)
    (hpl : ((backTo pos (starEach [] X.env)).any (·.1) || (backToKw pos (keywordEach kws X.env)).any (·.1.isNone)) = false := by rfl) : PE X (.Call (.Name x p) [] kws pos) (fun σ H Q => tk σ H fun zs H1 => sp (gV [] zs) H1 Q E) := by
  refine ⟨fun pins s σ H Q I h => wpAny_Call_Name_kw (ld_glob I hg hm (PySem.W.callWith_KW0 (h₀ := X.base) I.ok.mod.kin hk hall ?_ hpl) hdb)⟩
  refine thn (hkw.run pos pins s σ H _ I h) fun ws t ⟨zs, H1, I1, rz, q⟩ => ⟨I1.kIn, ?_⟩
  rw [hks]
  exact run_fnk (us := []) F hr hb hx I1 .nil rz q
/-- a def by its name, called with its parameters' names -/
structure CalleeK (P : Program) (w : World) (K : PySem.W.Frag) (mg : Str → Option Value) (base : Heap) (CX : CXT) (x : Str) (k : Nat) (ps : List Str) (C : Con) : Prop where
  ex : ∃ f fd, FnOk P w K mg base CX k f fd ps (spD K C) ∧ mg x = some (.ref f) ∧ PySem.W.keepIn K (.ref f) = true ∧ KBinds K fd ps ps (fun us ws => us ++ ws) (fun vs zs => vs ++ zs)
section
variable {G : Ctx} {S : Addr → Prop} {σ : L2.St} {H H' : Hp} {ρ : List Slot} {pos : Pos} {e : Expr} {F : FE}
theorem de_fnK {x kw : Str} {k m : Nat} {C : Con} {p kpos : Pos} (h : CalleeK G.X.prog G.X.w G.X.K G.X.mg G.X.base CX0 x k [kw] C) (hr : Room m G.X.A) (he : DE G e F) (hk : k ≤ m := by decide) (hg : Gl G.X x := by rfl) (hdb : (x == ("__debug__" : Str)) = false := by decide)
    (hall : (backToKw pos (keywordEach [⟨some kw, e, kpos⟩] G.X.env)).all (·.1.isSome) = true := by rfl) (hks : (backToKw pos (keywordEach [⟨some kw, e, kpos⟩] G.X.env)).filterMap (·.1) = [kw] := by rfl)
    (hpl : ((backTo pos (starEach [] G.X.env)).any (·.1) || (backToKw pos (keywordEach [⟨some kw, e, kpos⟩] G.X.env)).any (·.1.isNone)) = false := by rfl) :
    DE G (.Call (.Name x p) [] [⟨some kw, e, kpos⟩] pos) (fun ρ P => F ρ fun d => C.C [d] P (fun _ => False)) := by
  obtain ⟨f, fd, F1, hm, hkp, hb⟩ := h.ex
  obtain ⟨t, h, l⟩ := he.ex
  refine ⟨⟨_, pe_callK0 F1 (hr.mono hk) hg hm hkp hb pass0 (pk_cons h pk_nil) hall hks hdb hpl, fun S σ H ρ P Q g h q => ?_⟩⟩
  refine l S σ H ρ _ _ g h fun v d H1 st hv hp => ?_
  exact spD_use (vs := [v]) (ds := [d]) (g.step st) ⟨v, [], rfl, hv, rfl⟩ hp fun v d H2 st2 => q v d H2 (st.trans st2)
theorem de_fnKX {x kw : Str} {k m : Nat} {C : Con} {p kpos : Pos} (h : CalleeK G.X.prog G.X.w G.X.K G.X.mg G.X.base (L2.CX G.X.prog G.X.w) x k [kw] C) (hr : Room m G.X.A) (he : DE G e F) (hk : k ≤ m := by decide) (tk : TkG G := by exact takes_of rfl rfl rfl rfl) (hg : Gl G.X x := by rfl) (hdb : (x == ("__debug__" : Str)) = false := by decide)
    (hall : (backToKw pos (keywordEach [⟨some kw, e, kpos⟩] G.X.env)).all (·.1.isSome) = true := by rfl) (hks : (backToKw pos (keywordEach [⟨some kw, e, kpos⟩] G.X.env)).filterMap (·.1) = [kw] := by rfl)
    (hpl : ((backTo pos (starEach [] G.X.env)).any (·.1) || (backToKw pos (keywordEach [⟨some kw, e, kpos⟩] G.X.env)).any (·.1.isNone)) = false := by rfl) :
    DE G (.Call (.Name x p) [] [⟨some kw, e, kpos⟩] pos) (fun ρ P => F ρ fun d => C.C [d] P G.EX) := by
  obtain ⟨f, fd, F1, hm, hkp, hb⟩ := h.ex
  obtain ⟨t, h, l⟩ := he.ex
  refine ⟨⟨_, pe_callK0 F1 (hr.mono hk) hg hm hkp hb (passes_call tk fun _ _ _ _ z => z) (pk_cons h pk_nil) hall hks hdb hpl, fun S σ H ρ P Q g h q => ?_⟩⟩
  refine l S σ H ρ _ _ g h fun v d H1 st hv hp => ?_
  exact spD_useX (vs := [v]) (ds := [d]) (g.step st) ⟨v, [], rfl, hv, rfl⟩ hp fun v d H2 st2 => q v d H2 (st.trans st2)
end
end DL
namespace DL
open PySem PySem.Spec PyProof.Rows L2
/-! ### repr of a list -/
def rReprL (K : PySem.W.Frag) : List V → Hp → VK → Prop := fun xs H Q => ∃ (a : Addr) (d : PyData), xs = [.ref a] ∧ Dp K H (.ref a) d ∧ d.showable = true ∧ d.hasDict = false ∧ d.depth ≤ 60 ∧ d.shown.length ≤ sizeLine ∧ Q (.str d.shown) H
theorem call_reprL {X : Cx} (hg : X.A.guards = some []) (hu : X.A.units + 64 < cLine) : CallR X (.builtin "repr") (rReprL X.K) := by
  rintro pins s σ H xs us Q I r ⟨a, d, rfl, hd, h1, h2, h3, h4, q⟩
  obtain ⟨u, rfl, ru⟩ := vals1 r
  obtain rfl : u = Value.ref a := ru
  obtain ⟨as, rd⟩ := Dp.reads I d (.ref a) (.ref a) hd rfl
  exact repr_of_reads' rd h1 (fun z => by rw [h2] at z; cases z) hg (by omega) (fun _ _ e => e) (fun h' u tk k => ⟨.str d.shown, H, I.kept (t' := tk) k, ⟨_, rfl⟩, q⟩) h4
section
variable {G : Ctx} {S : Addr → Prop} {H : Hp} {pos : Pos} {a : Expr}
def reprD (ds : List Dat) (P : Dat → Prop) : Prop := match ds with
  | [.lst xs] => (toP (.lst xs)).canLay0 = true ∧ (toP (.lst xs)).showable = true ∧ (toP (.lst xs)).hasDict = false ∧ (toP (.lst xs)).depth ≤ 60 ∧ (toP (.lst xs)).shown.length ≤ sizeLine ∧ P (.str (toP (.lst xs)).shown)
  | _ => False
theorem serves_repr : ServesC G (rReprL G.X.K) reprD := by
  intro S σ ρ H vs ds P Q g hv h q
  unfold reprD at h
  split at h
  · rename_i xs
    obtain ⟨h0, h1, h2, h3, h4, hp⟩ := h
    obtain ⟨v, rfl, hd⟩ := dvl1 hv
    obtain ⟨p, us, rfl, n, e, hl⟩ := dv_lst hd
    exact ⟨p, _, rfl, dp_of _ _ hd h0, h1, h2, h3, h4, q _ (.str _) H (Stp.refl g.wld) rfl hp⟩
  · exact h.elim
theorem de_repr {p : Pos} {Fs : FA} (hgd : G.X.A.guards = some []) (hu : G.X.A.units + 64 < cLine) (hm : G.X.mg "repr" = none) (ha : DA G [a] Fs) (hg : Gl G.X "repr" := by rfl) (he : starEach [a] G.X.env = (false, eval a G.X.env) :: starEach [] G.X.env := by rfl) :
    DE G (.Call (.Name "repr" p) [a] [] pos) (fun ρ P => Fs ρ fun ds => reprD ds P) := de_cb (call_reprL hgd hu) serves_repr hm (by decide +kernel) ha hg (he := he)
/-- l * k of a fresh list -/
def repL : R2D
  | .lst xs, .int k, P => 0 ≤ k ∧ k ≤ 1000 ∧ xs.length ≤ 1000 ∧ P (.lst (List.replicate k.toNat xs).flatten)
  | _, _, _ => False
theorem serves_repL : Serves G rRep repL := by
  intro S σ ρ H x y dx dy P Q g hx hy h q
  cases dx with
  | lst xs =>
    cases dy with
    | int k =>
      obtain ⟨h1, h2, h3, hp⟩ := h
      obtain ⟨p, us, rfl, n, e, hl⟩ := dv_lst hx
      cases dv_int hy
      refine ⟨p, k, us, rfl, rfl, e, by omega, by omega, ?_, new_lst g (hl.rep k.toNat) hp q⟩
      rw [hl.len, sizeLine_eq]
      have : xs.length * k.toNat ≤ 1000 * 1000 := Nat.mul_le_mul h3 (by omega)
      omega
    | _ => exact h.elim
  | _ => exact h.elim
theorem de_repL {b : Expr} {Fa Fb : FE} (ha : DE G a Fa) (hb : DE G b Fb) : DE G (.BinOp a .Mult b pos) (fun ρ P => Fa ρ fun x => Fb ρ fun y => repL x y P) := de_bin op_rep serves_repL ha hb
end
end DL
namespace DL
open PySem PySem.Spec PyProof.Rows L2
/-! ### defs that are called where no repr is under way -/
structure FnG (P : Program) (w : World) (K : PySem.W.Frag) (mg : Str → Option Value) (base : Heap) (CX : CXT) (k : Nat) (f : Addr) (fd : FuncData) (ps : List Str) (sp : Sp) : Prop where
  len : ∀ vs H Q E, sp vs H Q E → vs.length = ps.length
  run : ∀ (A : Around) (outer : List Env) (s : Shared) (H : Hp) (args : Args) (us : List Value) (vs : List V) (Q : VK) (E : XK), Room k A → A.guards = some [] → Env0 P w K mg base A outer s H → BindsTo s fd args (ps.zip us) → Vals vs us → sp vs H Q E → codeAny (model P w) A (.call (.ref f) args) (CR CX outer P w H s Q E) s
theorem fnG_of {CX : CXT} {P : Program} {w : World} {K : PySem.W.Frag} {mg : Str → Option Value} {base : Heap} {k : Nat} {f : Addr} {name qual : Str} {params : Arguments} {body : List Stmt} {scope : Scope} {dV kV doc pm cdv ct oc : Value} {an od : Option Addr} {osl : Array (Option Value)} {N ps : List Str} {sp : Sp}
    (lk : K.lookup f = some ⟨oc, od, .func (PySem.W.fnOf name qual params body scope dV kV doc pm an cdv ct), osl⟩) (hcd : PySem.W.codeIn K cdv qual = true) (S : FnScope N ps scope) (len : ∀ vs H Q E, sp vs H Q E → vs.length = ps.length)
    (hbody : ∀ (A : Around) (outer : List Env) (s : Shared) (H : Hp) (vs : List V) (Q : VK) (E : XK), A.guards = some [] → Room k (A.deeper (envOfC qual scope s.heap.objs.size f cdv)) → sp vs H Q E → ∃ t, PSs (cxOf CX P w K mg base N qual scope f cdv A outer s H E) body t ∧ t { nx := fun _ H' => Q .non H', rt := Q } (L2.start N vs) H) :
    FnG P w K mg base CX (k + 1) f (PySem.W.fnOf name qual params body scope dV kV doc pm an cdv ct) ps sp := by
  refine ⟨len, fun A outer s H args us vs Q E hr hgd e0 hb r hsp => ?_⟩
  have inK : K.In s.heap := e0.mod.kin.keeps fun b o e => (e0.bs b o e).1
  have lim : s.heap.NoLimit := e0.mod.nolimit.keeps fun b o e => (e0.bs b o e).1
  have kinds : ∀ y ∈ ps.zip us, scope.names.lookup y.1 = some .local ∨ (scope.names.lookup y.1 = some .cell ∧ ((cellsFrom (s.heap.objs.size + 1) scope.names []).lookup y.1).isSome = true) := by
    rintro ⟨n, v⟩ hy
    exact (S.par n (List.of_mem_zip hy).1).imp id fun q => ⟨q, PySem.W.cellsFrom_some _ _ _ (.inl q)⟩
  refine codeAny_call_function hr.depth (inK _ _ lk) rfl S.co S.gen rfl (PySem.W.codeRec_of inK hcd) (hb _ _ _ _ (wpAny_newFunctionEnv_cells S.kind kinds fun env he s1 x => ?_))
  subst he
  refine ⟨lim.keeps x.toInCall.keep, codeAny_func ?_⟩
  obtain ⟨t, ht, hq⟩ := hbody A outer s H vs Q E hgd (hr.deeper _) hsp
  have I := inv_start (CX := CX) (E := E) S hr.hd e0 (len _ _ _ _ hsp) r x
  refine wpAny_mono (ht.run [] s1 (L2.start N vs) H _ I hq) (fun fl s' hs => ?_) fun e s' hs => hs
  match fl, hs with
  | .ret u, ⟨v, σ', H', J, rv, q⟩ => exact ⟨v, H', J.os, J.bare, J.base, J.hok, rv, q⟩
  | .next, ⟨σ', H', J, q⟩ => exact ⟨.non, H', J.os, J.bare, J.base, J.hok, rfl, q⟩
  | .brk, ⟨_, _, _, q⟩ => exact False.elim q
  | .cont, ⟨_, _, _, q⟩ => exact False.elim q
theorem FnG.mono {P : Program} {w : World} {K : PySem.W.Frag} {mg : Str → Option Value} {base : Heap} {CX : CXT} {j k : Nat} {f : Addr} {fd : FuncData} {ps : List Str} {sp : Sp} (F : FnG P w K mg base CX j f fd ps sp) (h : j ≤ k) : FnG P w K mg base CX k f fd ps sp := ⟨F.len, fun A outer s H args us vs Q E hr => F.run A outer s H args us vs Q E (hr.mono h)⟩
/-- THE RULE for a pure def that raises nothing, called where no repr is under way -/
theorem fn_pureG {P : Program} {w : World} {K : PySem.W.Frag} {mg : Str → Option Value} {base : Heap} {x qual : Str} {st : Stmt} {f : Addr} {fd : FuncData} {N ps : List Str} {k : Nat} {C : Con} (F : Fun K x qual st f fd) (Sc : FnScope N ps (defScope st)) (len : ∀ ds P X, C.C ds P X → ds.length = ps.length)
    (hbody : ∀ (cdv : Value) (A : Around) (outer : List Env) (s : Shared) (H : Hp) (S : Addr → Prop) (hS : ∀ a, S a → ∃ o, H a = some o), A.guards = some [] → Room k (A.deeper (envOfC qual (defScope st) s.heap.objs.size f cdv)) →
      ∃ T, DB (ctx0 P w K mg base N qual (defScope st) f cdv A outer s H S hS) (defBody st) T ∧ ∀ ds R X, C.C ds R X → T { nx := fun _ => R .non, rt := R } (start N.length ds)) : FnG P w K mg base CX0 (k + 1) f fd ps (spD K C) := by
  have hpl : ps.length ≤ N.length := by have := congrArg List.length Sc.pre; rw [List.length_take] at this; omega
  obtain ⟨oc, od, kV, doc, pm, an, cdv, ct, osl, rfl, lk, hcd⟩ := F.ex
  refine fnG_of lk hcd Sc (fun vs H Q E ⟨S, ds, _, hv, hc⟩ => by rw [hv.len]; exact len _ _ _ hc) fun A outer s H vs Q E hgd hr h => ?_
  obtain ⟨S, ds, hS, hv, hc⟩ := h
  obtain ⟨T, ⟨t, hp, l⟩, hT⟩ := hbody cdv A outer s H S hS hgd hr
  refine ⟨t, hp.nox, ?_⟩
  refine l S _ H (start N.length ds) _ _ (gd_start (G := ctx0 P w K mg base N qual (defScope st) f cdv A outer s H S hS) (fun _ _ e => e) hS hv (by rw [len _ _ _ hc]; exact hpl)) (hT ds _ _ hc) ?_
  exact ⟨fun S' σ' H' ρ' g fr q => q .non H' g.wld rfl, fun v d H' hw hv q => q v H' hw hv, fun _ _ _ _ _ _ z => z.elim, fun _ _ _ _ _ _ z => z.elim⟩
theorem pe_callG {X : Cx} {CX : CXT} {k : Nat} {f : Addr} {fd : FuncData} {ps : List Str} {sp : Sp} {E : XK} {x : Str} {p pos : Pos} {e : Expr} {es : List Expr} {t : TA} (F : FnG X.prog X.w X.K X.mg X.base CX k f fd ps sp) (hr : Room k X.A) (hgd : X.A.guards = some []) (hg : Gl X x) (hm : X.mg x = some (.ref f)) (hk : PySem.W.keepIn X.K (.ref f) = true) (hb : Binds X.K fd ps []) (hx : Passes CX X E)
    (ha : PA X (e :: es) t) (hdb : (x == ("__debug__" : Str)) = false := by decide) (he : starEach (e :: es) X.env = (false, eval e X.env) :: starEach es X.env := by rfl) (hpl : (backTo pos (starEach es X.env)).any (·.1) = false := by rfl) : PE X (.Call (.Name x p) (e :: es) [] pos) (tCall sp [] E t) := by
  refine ⟨fun pins s σ H Q I h => wpAny_Call_Name_kw (ld_glob I hg hm (PySem.W.callWith_K (h₀ := X.base) I.ok.mod.kin hk (thn (ha.run pos pins s σ H _ I h) fun us s1 ⟨vs, H1, I1, r, q⟩ => ⟨I1.kIn, ?_⟩) he hpl) hdb)⟩
  replace q : sp (vs ++ []) H1 Q E := q
  rw [List.append_nil] at q
  have hl : us.length = ps.length := by rw [← r.length]; exact F.len _ _ _ _ q
  have hb' := hb s1 us I1.kIn (by rw [List.append_nil]; exact hl)
  rw [List.append_nil] at hb'
  refine wpAny_call (codeAny_mono (F.run X.A X.stack s1 H1 ⟨us, []⟩ us vs Q E hr hgd I1.env0 hb' r q) fun r s' hq => ?_)
  match r, hq with
  | .error e, hq => exact hx pins σ H1 s1 e s' I1 hq
  | .ok (.ret u), hq => exact I1.after hq
  | .ok .next, hq => exact False.elim hq
  | .ok .brk, hq => exact False.elim hq
  | .ok .cont, hq => exact False.elim hq
structure CalleeG (P : Program) (w : World) (K : PySem.W.Frag) (mg : Str → Option Value) (base : Heap) (x : Str) (k : Nat) (ps : List Str) (C : Con) : Prop where
  ex : ∃ f fd, FnG P w K mg base CX0 k f fd ps (spD K C) ∧ mg x = some (.ref f) ∧ PySem.W.keepIn K (.ref f) = true ∧ Binds K fd ps []
section
variable {G : Ctx} {S : Addr → Prop} {σ : L2.St} {H H' : Hp} {ρ : List Slot} {pos : Pos} {e : Expr} {F : FE}
theorem de_fnG {x : Str} {k m : Nat} {ps : List Str} {C : Con} {p : Pos} {es : List Expr} {Fs : FA} (h : CalleeG G.X.prog G.X.w G.X.K G.X.mg G.X.base x k ps C) (hr : Room m G.X.A) (hgd : G.X.A.guards = some []) (ha : DA G (e :: es) Fs) (hk : k ≤ m := by decide) (hg : Gl G.X x := by rfl) (hdb : (x == ("__debug__" : Str)) = false := by decide)
    (he : starEach (e :: es) G.X.env = (false, eval e G.X.env) :: starEach es G.X.env := by rfl) (hpl : (backTo pos (starEach es G.X.env)).any (·.1) = false := by rfl) : DE G (.Call (.Name x p) (e :: es) [] pos) (fun ρ P => Fs ρ fun ds => C.C ds P (fun _ => False)) := by
  obtain ⟨f, fd, F, hm, hkp, hb⟩ := h.ex
  obtain ⟨t, h, l⟩ := ha.ex
  refine ⟨⟨_, pe_callG F (hr.mono hk) hgd hg hm hkp hb pass0 h hdb he hpl, fun S σ H ρ P Q g h q => ?_⟩⟩
  refine l S σ H ρ _ _ g h fun vs ds H1 st hv hp => ?_
  rw [List.append_nil]
  exact spD_use (g.step st) hv hp fun v d H2 st2 => q v d H2 (st.trans st2)
/-- a def that may raise, called where it does not -/
theorem de_fnX0 {x : Str} {k m : Nat} {ps : List Str} {C : Con} {p : Pos} {es : List Expr} {Fs : FA} (h : CalleeX G.X.prog G.X.w G.X.K G.X.mg G.X.base x k ps C) (hr : Room m G.X.A) (ha : DA G (e :: es) Fs) (hk : k ≤ m := by decide) (hg : Gl G.X x := by rfl) (hdb : (x == ("__debug__" : Str)) = false := by decide)
    (he : starEach (e :: es) G.X.env = (false, eval e G.X.env) :: starEach es G.X.env := by rfl) (hpl : (backTo pos (starEach es G.X.env)).any (·.1) = false := by rfl) : DE G (.Call (.Name x p) (e :: es) [] pos) (fun ρ P => Fs ρ fun ds => C.C ds P (fun _ => False)) := by
  obtain ⟨f, fd, F, hm, hkp, hb⟩ := h.ex
  obtain ⟨t, h, l⟩ := ha.ex
  refine ⟨⟨_, pe_call F (hr.mono hk) hg hm hkp hb .nil passL h hdb he hpl, fun S σ H ρ P Q g h q => ?_⟩⟩
  refine l S σ H ρ _ _ g h fun vs ds H1 st hv hp => ?_
  rw [List.append_nil]
  exact spD_use (g.step st) hv hp fun v d H2 st2 => q v d H2 (st.trans st2)
theorem de_fnKX0 {x kw : Str} {k m : Nat} {C : Con} {p kpos : Pos} (h : CalleeK G.X.prog G.X.w G.X.K G.X.mg G.X.base (L2.CX G.X.prog G.X.w) x k [kw] C) (hr : Room m G.X.A) (he : DE G e F) (hk : k ≤ m := by decide) (hg : Gl G.X x := by rfl) (hdb : (x == ("__debug__" : Str)) = false := by decide)
    (hall : (backToKw pos (keywordEach [⟨some kw, e, kpos⟩] G.X.env)).all (·.1.isSome) = true := by rfl) (hks : (backToKw pos (keywordEach [⟨some kw, e, kpos⟩] G.X.env)).filterMap (·.1) = [kw] := by rfl)
    (hpl : ((backTo pos (starEach [] G.X.env)).any (·.1) || (backToKw pos (keywordEach [⟨some kw, e, kpos⟩] G.X.env)).any (·.1.isNone)) = false := by rfl) :
    DE G (.Call (.Name x p) [] [⟨some kw, e, kpos⟩] pos) (fun ρ P => F ρ fun d => C.C [d] P (fun _ => False)) := by
  obtain ⟨f, fd, F1, hm, hkp, hb⟩ := h.ex
  obtain ⟨t, h, l⟩ := he.ex
  refine ⟨⟨_, pe_callK0 F1 (hr.mono hk) hg hm hkp hb passL (pk_cons h pk_nil) hall hks hdb hpl, fun S σ H ρ P Q g h q => ?_⟩⟩
  refine l S σ H ρ _ _ g h fun v d H1 st hv hp => ?_
  exact spD_use (vs := [v]) (ds := [d]) (g.step st) ⟨v, [], rfl, hv, rfl⟩ hp fun v d H2 st2 => q v d H2 (st.trans st2)
end
end DL
namespace DL
open PySem PySem.Spec PyProof.Rows L2
/-! ### a state that is handed in: where it lies, what holds of it, by an index -/
def ExF (fp : Addr → Prop) (H H' : Hp) : Prop := ∀ a o, ¬ fp a → H a = some o → H' a = some o
theorem ExF.refl (fp : Addr → Prop) (H : Hp) : ExF fp H H := fun _ _ _ e => e
theorem ExF.trans {fp : Addr → Prop} {H H1 H2 : Hp} (a : ExF fp H H1) (b : ExF fp H1 H2) : ExF fp H H2 := fun c o n e => b c o n (a c o n e)
structure Sta (ι : Type) where
  fp : Addr → Prop
  M : ι → Hp → Prop
  loc : ∀ i H H', M i H → (∀ a o, fp a → H a = some o → H' a = some o) → KeepX H H' → M i H'
  noc : ∀ i H, M i H → ∀ a φ, fp a → H a ≠ some (.ext φ)
  dom : ∀ i H, M i H → ∀ a, fp a → ∃ o, H a = some o
/-- where one stands, by the index -/
structure Fam (ι : Type) where
  X : Cx
  H0 : Hp
  S0 : Addr → Prop
  W : ι → Hp → Prop
  clo : ∀ i H H', W i H → (∀ a o o0, H0 a = some o0 → H a = some o → H' a = some o) → KeepX H H' → W i H'
  top : ∀ i H, W i H → ∀ a o, H0 a = some o → ∃ o', H a = some o'
  s0 : ∀ a, S0 a → ∃ o, H0 a = some o
abbrev Fam.at {ι : Type} (G : Fam ι) (i : ι) : Ctx := { X := G.X, H0 := G.H0, S0 := G.S0, W := G.W i, clo := G.clo i, top := G.top i, s0 := G.s0, E := E0, EX := fun _ => False, elink := fun _ _ _ _ _ z => z.elim }
abbrev Fam.any {ι : Type} (G : Fam ι) : Ctx := { X := G.X, H0 := G.H0, S0 := G.S0, W := fun H => ∃ i, G.W i H, clo := fun H H' ⟨i, h⟩ k x => ⟨i, G.clo i H H' h k x⟩, top := fun H ⟨i, h⟩ => G.top i H h, s0 := G.s0, E := E0, EX := fun _ => False, elink := fun _ _ _ _ _ z => z.elim }
section
variable {ι κ : Type} {G : Fam ι} {S S' : Addr → Prop} {σ : L2.St} {H H' H2 : Hp} {ρ : List Slot} {i j k : ι}
structure StpI (G : Fam ι) (j : ι) (H H' : Hp) : Prop where
  wld : G.W j H'
  keep : ∀ a o, ¬ G.S0 a → H a = some o → H' a = some o
  has : ∀ a o, H a = some o → ∃ o', H' a = some o'
theorem StpI.any (st : StpI G j H H') : Stp G.any H H' := ⟨⟨j, st.wld⟩, st.keep, st.has⟩
theorem StpI.of (st : Stp (G.at i) H H') : StpI G i H H' := ⟨st.wld, st.keep, st.has⟩
theorem StpI.refl (h : G.W i H) : StpI G i H H := ⟨h, fun _ _ _ e => e, fun _ o e => ⟨o, e⟩⟩
theorem StpI.trans (a : StpI G i H H') (b : StpI G j H' H2) : StpI G j H H2 := ⟨b.wld, fun c o n e => b.keep c o n (a.keep c o n e), fun c o e => by
  obtain ⟨o', e'⟩ := a.has c o e
  exact b.has c o' e'⟩
theorem Gd.toAny (g : Gd (G.at i) S σ H ρ) : Gd G.any S σ H ρ := ⟨⟨i, g.wld⟩, g.all, g.sub, g.len, g.slots, g.apart⟩
theorem Gd.ofAny (g : Gd G.any S σ H ρ) (h : G.W i H) : Gd (G.at i) S σ H ρ := ⟨h, g.all, g.sub, g.len, g.slots, g.apart⟩
theorem Gd.stepI (g : Gd (G.at i) S σ H ρ) (st : StpI G j H H') : Gd (G.at j) S σ H' ρ := (g.toAny.step st.any).ofAny st.wld
theorem StpI.dv (st : StpI G j H H') (g : Gd (G.at i) S σ H ρ) {d : Dat} {v : V} (h : Dv G.X.K S H d v) : Dv G.X.K S H' d v := st.any.dv g.toAny h
theorem StpI.dvl (st : StpI G j H H') (g : Gd (G.at i) S σ H ρ) {d : List Dat} {v : List V} (h : DvL G.X.K S H d v) : DvL G.X.K S H' d v := st.any.dvl g.toAny h
theorem StpI.fr (st : StpI G j H H') (g : Gd (G.at i) S σ H ρ) : Fr S H S H' := st.any.fr g.toAny
theorem StpI.new (h : G.W i H) {p : Addr} {o : HO} (n : H p = none) : StpI G i H (upd H p o) := StpI.of (Stp.new (G := G.at i) h n)
end
/-! ### the judgements -/
abbrev FR (ι : Type) := List Slot → ι → (Dat → ι → Prop) → Prop
abbrev FTR (ι : Type) := List Slot → ι → (Bool → ι → Prop) → Prop
abbrev FAR (ι : Type) := List Slot → ι → (List Dat → ι → Prop) → Prop
abbrev FSR' (ι : Type) := List Slot → ι → (List Slot → ι → Prop) → Prop
structure DEndsR (ι : Type) where
  nx : List Slot → ι → Prop
  rt : Dat → ι → Prop
  bk : List Slot → ι → Prop := fun _ _ => False
  ct : List Slot → ι → Prop := fun _ _ => False
abbrev FSR (ι : Type) := DEndsR ι → List Slot → ι → Prop
def LiftR {ι : Type} (G : Fam ι) (t : TE) (F : FR ι) : Prop := ∀ S σ H ρ i P (Q : VK), Gd (G.at i) S σ H ρ → F ρ i P → (∀ v d H' j, StpI G j H H' → Dv G.X.K S H' d v → P d j → Q v H') → t σ H Q
def LiftTR {ι : Type} (G : Fam ι) (t : TT) (F : FTR ι) : Prop := ∀ S σ H ρ i P (Q : Bool → Hp → Prop), Gd (G.at i) S σ H ρ → F ρ i P → (∀ b H' j, StpI G j H H' → P b j → Q b H') → t σ H Q
def LiftAR {ι : Type} (G : Fam ι) (t : TA) (F : FAR ι) : Prop := ∀ S σ H ρ i P (Q : List V → Hp → Prop), Gd (G.at i) S σ H ρ → F ρ i P → (∀ vs ds H' j, StpI G j H H' → DvL G.X.K S H' ds vs → P ds j → Q vs H') → t σ H Q
structure EndsOkR {ι : Type} (G : Fam ι) (S : Addr → Prop) (H : Hp) (D : DEndsR ι) (Dh : Ends) : Prop where
  nx : ∀ S' σ' H' ρ' j, Gd (G.at j) S' σ' H' ρ' → Fr S H S' H' → D.nx ρ' j → Dh.nx σ' H'
  rt : ∀ v d H' j, G.W j H' → Dv G.X.K G.S0 H' d v → D.rt d j → Dh.rt v H'
  bk : ∀ S' σ' H' ρ' j, Gd (G.at j) S' σ' H' ρ' → Fr S H S' H' → D.bk ρ' j → Dh.bk σ' H'
  ct : ∀ S' σ' H' ρ' j, Gd (G.at j) S' σ' H' ρ' → Fr S H S' H' → D.ct ρ' j → Dh.ct σ' H'
def LiftSR {ι : Type} (G : Fam ι) (t : TS) (F : FSR ι) : Prop := ∀ S σ H ρ i D Dh, Gd (G.at i) S σ H ρ → F D ρ i → EndsOkR G S H D Dh → t Dh σ H
structure DR {ι : Type} (G : Fam ι) (e : Expr) (F : FR ι) : Prop where
  ex : ∃ t, PE G.X e t ∧ LiftR G t F
structure DTR {ι : Type} (G : Fam ι) (e : Expr) (F : FTR ι) : Prop where
  ex : ∃ t, PT G.X e t ∧ LiftTR G t F
structure DWR {ι : Type} (G : Fam ι) (e : Expr) (F : FTR ι) : Prop where
  ex : ∃ t, PW G.X e t ∧ LiftTR G t F
structure DAR {ι : Type} (G : Fam ι) (es : List Expr) (F : FAR ι) : Prop where
  ex : ∃ t, PA G.X es t ∧ LiftAR G t F
structure DSR {ι : Type} (G : Fam ι) (st : Stmt) (F : FSR ι) : Prop where
  ex : ∃ t, PS G.X st t ∧ LiftSR G t F
structure DBR {ι : Type} (G : Fam ι) (st : List Stmt) (F : FSR ι) : Prop where
  ex : ∃ t, PSs G.X st t ∧ LiftSR G t F
section
variable {ι κ : Type} {G : Fam ι} {S S' : Addr → Prop} {σ : L2.St} {H H' H2 : Hp} {ρ : List Slot} {pos : Pos} {a b c e : Expr} {es rest : List Expr} {Fa Fb : FR ι}
/-- what asks nothing of the state -/
theorem dr_of {F : ι → FE} (h : ∀ i, DE (G.at i) e (F i)) : DR G e (fun ρ i P => F i ρ fun d => P d i) := by
  have h' : ∀ i, ∃ t, PE G.X e t ∧ LiftE (G.at i) t (F i) := fun i => (h i).ex
  refine ⟨⟨fun σ H Q => ∃ t : TE, PE G.X e t ∧ t σ H Q, ⟨fun pins s σ H Q I ⟨t, hp, hq⟩ => hp.run pins s σ H Q I hq⟩, fun S σ H ρ i P Q g h q => ?_⟩⟩
  obtain ⟨t, hp, l⟩ := h' i
  exact ⟨t, hp, l S σ H ρ _ _ g h fun v d H1 st hv hp => q v d H1 i (.of st) hv hp⟩
theorem dtr_of {F : ι → FT} (h : ∀ i, DT (G.at i) e (F i)) : DTR G e (fun ρ i P => F i ρ fun d => P d i) := by
  have h' : ∀ i, ∃ t, PT G.X e t ∧ LiftT (G.at i) t (F i) := fun i => (h i).ex
  refine ⟨⟨fun σ H Q => ∃ t : TT, PT G.X e t ∧ t σ H Q, ⟨fun pins s σ H Q I ⟨t, hp, hq⟩ => hp.run pins s σ H Q I hq⟩, fun S σ H ρ i P Q g h q => ?_⟩⟩
  obtain ⟨t, hp, l⟩ := h' i
  exact ⟨t, hp, l S σ H ρ _ _ g h fun b H1 st hp => q b H1 i (.of st) hp⟩
theorem dar_nil : DAR G [] (fun _ i P => P [] i) := ⟨⟨_, pa_nil, fun _ _ H _ i _ _ g h q => q [] [] H i (.refl g.wld) rfl h⟩⟩
theorem dar_cons {Fs : FAR ι} (ha : DR G e Fa) (hr : DAR G es Fs) (hs : starEach (e :: es) G.X.env = (false, eval e G.X.env) :: starEach es G.X.env := by rfl) :
    DAR G (e :: es) (fun ρ i P => Fa ρ i fun x j => Fs ρ j fun xs k => P (x :: xs) k) := by
  obtain ⟨t, h1, l1⟩ := ha.ex
  obtain ⟨u, h2, l2⟩ := hr.ex
  refine ⟨⟨_, pa_cons h1 h2 hs, fun S σ H ρ i P Q g h q => ?_⟩⟩
  refine l1 S σ H ρ i _ _ g h fun v d H1 j st hv h' => ?_
  refine l2 S σ H1 ρ j _ _ (g.stepI st) h' fun vs ds H2 k st2 hvs hp => ?_
  exact q _ (d :: ds) H2 k (st.trans st2) ⟨v, vs, rfl, st2.dv (g.stepI st) hv, hvs⟩ hp
theorem dr_tup {Fs : FAR ι} {kk} (h : DAR G es Fs) : DR G (.Tuple es kk pos) (fun ρ i P => Fs ρ i fun xs j => xs.length ≤ sizeLine ∧ P (.tup xs) j) := by
  obtain ⟨t, h1, l1⟩ := h.ex
  refine ⟨⟨_, pe_tup h1, fun S σ H ρ i P Q g h q => ?_⟩⟩
  refine l1 S σ H ρ i _ _ g h fun vs ds H1 j st hv ⟨hl, hp⟩ => ⟨by rw [hv.len]; exact hl, fun p np => ?_⟩
  have g1 := g.stepI st
  have st2 : StpI G j H1 (upd H1 p (.tup vs)) := StpI.new g1.wld np
  exact q _ (.tup ds) _ j (st.trans st2) ⟨p, vs, rfl, .inl ⟨g1.fresh np, upd_same⟩, st2.dvl g1 hv⟩ hp
theorem dr_lst {Fs : FAR ι} (h : DAR G es Fs) : DR G (.List es pos) (fun ρ i P => Fs ρ i fun xs j => xs.length ≤ sizeLine ∧ P (.lst xs) j) := by
  obtain ⟨t, h1, l1⟩ := h.ex
  refine ⟨⟨_, pe_lst h1, fun S σ H ρ i P Q g h q => ?_⟩⟩
  refine l1 S σ H ρ i _ _ g h fun vs ds H1 j st hv ⟨hl, hp⟩ => ⟨by rw [hv.len]; exact hl, fun p np => ?_⟩
  have g1 := g.stepI st
  have st2 : StpI G j H1 (upd H1 p (.lst vs)) := StpI.new g1.wld np
  exact q _ (.lst ds) _ j (st.trans st2) ⟨p, vs, rfl, g1.fresh np, upd_same, st2.dvl g1 hv⟩ hp
theorem liftR_op {r : R2} {D : R2D} {ta tb : TE} (hr : ∀ i, Serves (G.at i) r D) (la : LiftR G ta Fa) (lb : LiftR G tb Fb) : LiftR G (tOp r ta tb) (fun ρ i P => Fa ρ i fun x j => Fb ρ j fun y k => D x y fun z => P z k) := by
  intro S σ H ρ i P Q g h q
  refine la S σ H ρ i _ _ g h fun v d H1 j st hv h' => ?_
  refine lb S σ H1 ρ j _ _ (g.stepI st) h' fun v2 d2 H2 k st2 hv2 hp => ?_
  exact hr k S σ ρ H2 v v2 d d2 _ Q ((g.stepI st).stepI st2) (st2.dv (g.stepI st) hv) hv2 hp fun v3 d3 H3 st3 => q v3 d3 H3 k ((st.trans st2).trans (.of st3))
theorem dr_bin {op : Operator} {r : R2} {D : R2D} (ho : OpR G.X (binaryOp op) r) (hr : ∀ i, Serves (G.at i) r D) (ha : DR G a Fa) (hb : DR G b Fb) : DR G (.BinOp a op b pos) (fun ρ i P => Fa ρ i fun x j => Fb ρ j fun y k => D x y fun z => P z k) := by
  obtain ⟨ta, h1, l1⟩ := ha.ex
  obtain ⟨tb, h2, l2⟩ := hb.ex
  exact ⟨⟨_, pe_op ho h1 h2, liftR_op hr l1 l2⟩⟩
theorem dr_ix (ha : DR G a Fa) (hb : DR G b Fb) (hs : PlainIx b := by exact fun _ _ => rfl) : DR G (.Subscript a b pos) (fun ρ i P => Fa ρ i fun x j => Fb ρ j fun y k => ixD x y fun z => P z k) := by
  obtain ⟨ta, h1, l1⟩ := ha.ex
  obtain ⟨tb, h2, l2⟩ := hb.ex
  exact ⟨⟨_, pe_ix (.or (.or ix_list ix_tup) ix_str) h1 h2 hs, liftR_op (fun i => serves_ix) l1 l2⟩⟩
theorem dtr_cmp {op : CmpOp} {r : R2} {D : R2D} (ho : OpR G.X (compareOp op) r) (hr : ∀ i, Serves (G.at i) r D) (ha : DR G a Fa) (hb : DR G b Fb) (hm : behindInMarks op b = false := by first | exact nobehind _ (by decide) (by decide) | rfl) : DTR G (.Compare a [op] [b] pos) (fun ρ i P => Fa ρ i fun x j => Fb ρ j fun y k => D x y fun z => isB z fun z => P z k) := by
  obtain ⟨ta, h1, l1⟩ := ha.ex
  obtain ⟨tb, h2, l2⟩ := hb.ex
  refine ⟨⟨_, pt_cmpR ho h1 h2 hm, fun S σ H ρ i P Q g h q => ?_⟩⟩
  refine liftR_op hr l1 l2 S σ H ρ i (fun z k => isB z fun z => P z k) _ g h fun v d H1 j st hv hp => ?_
  obtain ⟨b, rfl, hp⟩ := isB_inv hp
  exact ⟨b, hv, q b H1 j st hp⟩
theorem dr_cmp {op : CmpOp} {r : R2} {D : R2D} (ho : OpR G.X (compareOp op) r) (hr : ∀ i, Serves (G.at i) r D) (ha : DR G a Fa) (hb : DR G b Fb) (hm : behindInMarks op b = false := by first | exact nobehind _ (by decide) (by decide) | rfl) : DR G (.Compare a [op] [b] pos) (fun ρ i P => Fa ρ i fun x j => Fb ρ j fun y k => D x y fun z => P z k) := by
  obtain ⟨ta, h1, l1⟩ := ha.ex
  obtain ⟨tb, h2, l2⟩ := hb.ex
  exact ⟨⟨_, pe_cmpR ho h1 h2 hm, liftR_op hr l1 l2⟩⟩
theorem dtr_val {F : FR ι} (h : DR G e F) (he : ∀ whole, isTrue e G.X.env whole = (do let v ← whole; standAt e.pos; holding [v] (truthy v)) := by intro _; rfl) : DTR G e (fun ρ i P => F ρ i fun x j => isB x fun b => P b j) := by
  obtain ⟨t, h1, l1⟩ := h.ex
  refine ⟨⟨_, pt_val h1 he, fun S σ H ρ i P Q g h q => ?_⟩⟩
  refine l1 S σ H ρ i _ _ g h fun v d H1 j st hv hp => ?_
  obtain ⟨b, rfl, hp⟩ := isB_inv hp
  exact ⟨b, hv, q b H1 j st hp⟩
theorem dwr_and1 {F : FTR ι} (ha : DTR G a F) : DWR G (.BoolOp .And [a] pos) F := by
  obtain ⟨t, h, l⟩ := ha.ex
  exact ⟨⟨_, pw_and1 h, l⟩⟩
theorem dwr_or1 {F : FTR ι} (ha : DTR G a F) : DWR G (.BoolOp .Or [a] pos) F := by
  obtain ⟨t, h, l⟩ := ha.ex
  exact ⟨⟨_, pw_or1 h, l⟩⟩
theorem dwr_and {F F' : FTR ι} (ha : DTR G a F) (hb : DWR G (.BoolOp .And (b :: rest) pos) F') : DWR G (.BoolOp .And (a :: b :: rest) pos) (fun ρ i P => F ρ i fun c j => if c = true then F' ρ j P else P false j) := by
  obtain ⟨t, h, l⟩ := ha.ex
  obtain ⟨u, h2, l2⟩ := hb.ex
  refine ⟨⟨_, pw_and h h2, fun S σ H ρ i P Q g h q => ?_⟩⟩
  refine l S σ H ρ i _ _ g h fun b H1 j st hp => ?_
  cases b with
  | true => exact l2 S σ H1 ρ j _ _ (g.stepI st) hp fun b H2 k st2 => q b H2 k (st.trans st2)
  | false => exact q false H1 j st hp
theorem dwr_or {F F' : FTR ι} (ha : DTR G a F) (hb : DWR G (.BoolOp .Or (b :: rest) pos) F') : DWR G (.BoolOp .Or (a :: b :: rest) pos) (fun ρ i P => F ρ i fun c j => if c = true then P true j else F' ρ j P) := by
  obtain ⟨t, h, l⟩ := ha.ex
  obtain ⟨u, h2, l2⟩ := hb.ex
  refine ⟨⟨_, pw_or h h2, fun S σ H ρ i P Q g h q => ?_⟩⟩
  refine l S σ H ρ i _ _ g h fun b H1 j st hp => ?_
  cases b with
  | false => exact l2 S σ H1 ρ j _ _ (g.stepI st) hp fun b H2 k st2 => q b H2 k (st.trans st2)
  | true => exact q true H1 j st hp
theorem dtr_w {F : FTR ι} (h : DWR G e F) : DTR G e F := by
  obtain ⟨t, h, l⟩ := h.ex
  exact ⟨⟨_, h.pt, l⟩⟩
theorem dtr_not {F : FTR ι} (ha : DTR G a F) : DTR G (.UnaryOp .Not a pos) (fun ρ i P => F ρ i fun c j => P (!c) j) := by
  obtain ⟨t, h, l⟩ := ha.ex
  exact ⟨⟨_, pt_not h, fun S σ H ρ i P Q g h q => l S σ H ρ i _ _ g h fun b H1 j st hp => q (!b) H1 j st hp⟩⟩
theorem dr_if {Fc : FTR ι} (hc : DTR G c Fc) (ha : DR G a Fa) (hb : DR G b Fb) : DR G (.IfExp c a b pos) (fun ρ i P => Fc ρ i fun c j => if c = true then Fa ρ j P else Fb ρ j P) := by
  obtain ⟨t0, h0, l0⟩ := hc.ex
  obtain ⟨t, h, l⟩ := ha.ex
  obtain ⟨u, h2, l2⟩ := hb.ex
  refine ⟨⟨_, pe_ifExp h0 h h2, fun S σ H ρ i P Q g h q => ?_⟩⟩
  refine l0 S σ H ρ i _ _ g h fun b H1 j st hp => ?_
  cases b with
  | true => exact l S σ H1 ρ j _ _ (g.stepI st) hp fun v d H2 k st2 => q v d H2 k (st.trans st2)
  | false => exact l2 S σ H1 ρ j _ _ (g.stepI st) hp fun v d H2 k st2 => q v d H2 k (st.trans st2)
/-- a built-in, its arguments of the state -/
theorem liftR_cb {r : List V → Hp → VK → Prop} {D : RCD} {t : TA} {Fs : FAR ι} (hr : ∀ i, ServesC (G.at i) r D) (l : LiftAR G t Fs) : LiftR G (tCB r t) (fun ρ i P => Fs ρ i fun ds j => D ds fun d => P d j) := by
  intro S σ H ρ i P Q g h q
  refine l S σ H ρ i _ _ g h fun vs ds H1 j st hv hp => ?_
  exact hr j S σ ρ H1 vs ds _ Q (g.stepI st) hv hp fun v d H2 st2 => q v d H2 j (st.trans (.of st2))
theorem dr_cb {id : String} {r : List V → Hp → VK → Prop} {D : RCD} {x : Str} {p : Pos} {Fs : FAR ι} (hc : CallR G.X (.builtin id) r) (hr : ∀ i, ServesC (G.at i) r D) (hm : G.X.mg x = none) (hv : bootBuiltins x = some (.builtin id)) (ha : DAR G (e :: es) Fs) (hg : Gl G.X x := by rfl)
    (hn : x ≠ "__name__" := by decide) (hdb : (x == ("__debug__" : Str)) = false := by decide) (he : starEach (e :: es) G.X.env = (false, eval e G.X.env) :: starEach es G.X.env := by rfl) (hpl : (backTo pos (starEach es G.X.env)).any (·.1) = false := by rfl) :
    DR G (.Call (.Name x p) (e :: es) [] pos) (fun ρ i P => Fs ρ i fun ds j => D ds fun d => P d j) := by
  obtain ⟨t, h, l⟩ := ha.ex
  exact ⟨⟨_, pe_callB hc hg hm hv h hn hdb he hpl, liftR_cb hr l⟩⟩
theorem dr_ct {T : String} {r : List V → Hp → VK → Prop} {D : RCD} {x : Str} {p : Pos} {Fs : FAR ι} (hc : CallR G.X (.type T) r) (hr : ∀ i, ServesC (G.at i) r D) (hm : G.X.mg x = none) (hv : bootBuiltins x = some (.type T)) (ha : DAR G (e :: es) Fs) (hg : Gl G.X x := by rfl)
    (hn : x ≠ "__name__" := by decide) (hdb : (x == ("__debug__" : Str)) = false := by decide) (he : starEach (e :: es) G.X.env = (false, eval e G.X.env) :: starEach es G.X.env := by rfl) (hpl : (backTo pos (starEach es G.X.env)).any (·.1) = false := by rfl) :
    DR G (.Call (.Name x p) (e :: es) [] pos) (fun ρ i P => Fs ρ i fun ds j => D ds fun d => P d j) := by
  obtain ⟨t, h, l⟩ := ha.ex
  exact ⟨⟨_, pe_callTy hc hg hm hv h hn hdb he hpl, liftR_cb hr l⟩⟩
/-! ### calls of defs that are handed the state -/
def ArgOk (K : PySem.W.Frag) (S : Addr → Prop) (H : Hp) : Slot → V → Prop
  | .d x, v => Dv K S H x v
  | .raw w, v => v = w
  | .scr ns, v => ScrOk K S H ns v
  | _, _ => False
def SlL (K : PySem.W.Frag) (S : Addr → Prop) (H : Hp) : List Slot → List V → Prop
  | [], vs => vs = []
  | s :: sl, vs => ∃ v r, vs = v :: r ∧ ArgOk K S H s v ∧ SlL K S H sl r
theorem SlL.len {K : PySem.W.Frag} : ∀ {sl : List Slot} {vs : List V}, SlL K S H sl vs → vs.length = sl.length
  | [], _, e => by cases (e : _ = []); rfl
  | s :: sl, vs, e => by
    obtain ⟨v, r, rfl, _, h2⟩ := (e : ∃ v r, vs = v :: r ∧ ArgOk K S H s v ∧ SlL K S H sl r)
    simp [h2.len]
theorem ArgOk.move {K : PySem.W.Frag} (h : Fr S H S' H') : ∀ {s : Slot} {v : V}, ArgOk K S H s v → ArgOk K S' H' s v
  | .d x, v, e => Dv.move h x v e
  | .raw w, v, e => e
  | .scr ns, v, e => ScrOk.move (K := K) e h
  | .un, _, e => e.elim
  | .own _, _, e => e.elim
  | .ownd _ _, _, e => e.elim
theorem SlL.move {K : PySem.W.Frag} (h : Fr S H S' H') : ∀ {sl : List Slot} {vs : List V}, SlL K S H sl vs → SlL K S' H' sl vs
  | [], _, e => e
  | s :: sl, vs, e => by
    obtain ⟨v, r, rfl, h1, h2⟩ := (e : ∃ v r, vs = v :: r ∧ ArgOk K S H s v ∧ SlL K S H sl r)
    exact ⟨v, r, rfl, h1.move h, h2.move h⟩
theorem SlL.get {K : PySem.W.Frag} : ∀ {sl : List Slot} {vs : List V} {n : Nat} {s : Slot}, SlL K S H sl vs → sl[n]? = some s → ∃ v, vs[n]? = some v ∧ ArgOk K S H s v
  | [], _, _, _, _, h => by simp at h
  | d :: ds, vs, 0, d', e, h => by
    obtain ⟨v, r, rfl, h1, _⟩ := (e : ∃ v r, vs = v :: r ∧ ArgOk K S H d v ∧ SlL K S H ds r)
    simp at h; subst h
    exact ⟨v, rfl, h1⟩
  | d :: ds, vs, i + 1, d', e, h => by
    obtain ⟨v, r, rfl, _, h2⟩ := (e : ∃ v r, vs = v :: r ∧ ArgOk K S H d v ∧ SlL K S H ds r)
    simpa using SlL.get h2 (by simpa using h)
/-- what a def that is handed a state promises: the state, its index, the arguments, what is wanted -/
structure ConS (κ : Type) where
  C : Sta κ → κ → List Slot → (Dat → κ → Prop) → Prop
  mono : ∀ st i sl P P', C st i sl P → (∀ d j, P d j → P' d j) → C st i sl P'
def spS (K : PySem.W.Frag) (C : ConS κ) : Sp := fun vs H Q E => ∃ (S : Addr → Prop) (st : Sta κ) (i : κ) (sl : List Slot), (∀ a, S a → ∃ o, H a = some o) ∧ (∀ a, st.fp a → S a) ∧ st.M i H ∧ SlL K S H sl vs ∧
  C.C st i sl (fun d j => ∀ v H', ExF st.fp H H' → st.M j H' → Dv K S H' d v → Q v H')
/-- here the state may change: π reads its index off one's own, u puts a new one -/
structure GS (G : Fam ι) (st : Sta κ) (π : ι → κ) (u : ι → κ → ι) : Prop where
  sub : ∀ a, st.fp a → G.S0 a
  get : ∀ i H, G.W i H → st.M (π i) H
  put : ∀ i j H H', G.W i H → ExF st.fp H H' → st.M j H' → G.W (u i j) H'
theorem GS.stp {st : Sta κ} {π : ι → κ} {u : ι → κ → ι} (gs : GS G st π u) {i : ι} {j : κ} (hw : G.W i H) (e : ExF st.fp H H') (m : st.M j H') : StpI G (u i j) H H' := by
  refine ⟨gs.put i j H H' hw e m, fun a o n q => e a o (fun z => n (gs.sub a z)) q, fun a o q => ?_⟩
  by_cases z : st.fp a
  · exact st.dom j H' m a z
  · exact ⟨o, e a o z q⟩
def LiftSl {ι : Type} (G : Fam ι) (t : TA) (F : FSR' ι) : Prop := ∀ S σ H ρ i P (Q : List V → Hp → Prop), Gd (G.at i) S σ H ρ → F ρ i P → (∀ vs sl H' j, StpI G j H H' → SlL G.X.K S H' sl vs → P sl j → Q vs H') → t σ H Q
structure DSl {ι : Type} (G : Fam ι) (es : List Expr) (F : FSR' ι) : Prop where
  ex : ∃ t, PA G.X es t ∧ LiftSl G t F
theorem dsl_nil : DSl G [] (fun _ i P => P [] i) := ⟨⟨_, pa_nil, fun _ _ H _ i _ _ g h q => q [] [] H i (.refl g.wld) rfl h⟩⟩
theorem dsl_d {Fs : FSR' ι} (ha : DR G e Fa) (hr : DSl G es Fs) (hs : starEach (e :: es) G.X.env = (false, eval e G.X.env) :: starEach es G.X.env := by rfl) :
    DSl G (e :: es) (fun ρ i P => Fa ρ i fun x j => Fs ρ j fun xs k => P (.d x :: xs) k) := by
  obtain ⟨t, h1, l1⟩ := ha.ex
  obtain ⟨u, h2, l2⟩ := hr.ex
  refine ⟨⟨_, pa_cons h1 h2 hs, fun S σ H ρ i P Q g h q => ?_⟩⟩
  refine l1 S σ H ρ i _ _ g h fun v d H1 j st hv h' => ?_
  refine l2 S σ H1 ρ j _ _ (g.stepI st) h' fun vs ds H2 k st2 hvs hp => ?_
  exact q _ (.d d :: ds) H2 k (st.trans st2) ⟨v, vs, rfl, st2.dv (g.stepI st) hv, hvs⟩ hp
/-- a slot's raw value -/
def rdRaw (ρ : List Slot) (n : Nat) (P : V → Prop) : Prop := match ρ[n]? with
  | some (.raw x) => P x
  | _ => False
theorem rdRaw_inv {ρ : List Slot} {n : Nat} {P : V → Prop} (h : rdRaw ρ n P) : ∃ x, ρ[n]? = some (.raw x) ∧ P x := by
  unfold rdRaw at h
  split at h
  · rename_i x e; exact ⟨x, e, h⟩
  · exact h.elim
theorem Gd.slot_raw {G : Ctx} (g : Gd G S σ H ρ) {n : Nat} {x : V} (h : ρ[n]? = some (.raw x)) : σ[n]? = some (some x) := by
  have q := g.slots n _ h
  cases e : σ[n]? with
  | none => rw [e] at q; exact q.elim
  | some o =>
    cases o with
    | none => rw [e] at q; exact q.elim
    | some v => rw [e] at q; rw [show v = x from q]
theorem dsl_raw {x : Str} {p : Pos} {Fs : FSR' ι} (n : Nat) (hr : DSl G es Fs) (hN : G.X.N[n]? = some x := by rfl) (hv : Vis G.X.env.scope x := by first | exact Or.inl rfl | exact Or.inr (Or.inl rfl) | exact Or.inr (Or.inr rfl)) (hd : (x == ("__debug__" : Str)) = false := by decide)
    (hcd : (x == ("__classdict__" : Str)) = false := by decide) (hs : starEach (Expr.Name x p :: es) G.X.env = (false, eval (.Name x p) G.X.env) :: starEach es G.X.env := by rfl) :
    DSl G (.Name x p :: es) (fun ρ i P => rdRaw ρ n fun w => Fs ρ i fun xs k => P (.raw w :: xs) k) := by
  obtain ⟨u, h2, l2⟩ := hr.ex
  refine ⟨⟨_, pa_cons (pe_var hN hv hd hcd) h2 hs, fun S σ H ρ i P Q g h q => ?_⟩⟩
  obtain ⟨w, e, h⟩ := rdRaw_inv h
  exact ⟨w, g.slot_raw e, l2 S σ H ρ i _ _ g h fun vs sl H2 k st2 hvs hp => q _ (.raw w :: sl) H2 k st2 ⟨w, vs, rfl, rfl, hvs⟩ hp⟩
/-- a def by its name that is handed a state -/
structure CalleeS (P : Program) (w : World) (K : PySem.W.Frag) (mg : Str → Option Value) (base : Heap) (x : Str) (k : Nat) (ps : List Str) (C : ConS κ) : Prop where
  ex : ∃ f fd, FnOk P w K mg base CX0 k f fd ps (spS K C) ∧ mg x = some (.ref f) ∧ PySem.W.keepIn K (.ref f) = true ∧ Binds K fd ps []
theorem dr_fnS {st : Sta κ} {π : ι → κ} {u : ι → κ → ι} {x : Str} {k m : Nat} {ps : List Str} {C : ConS κ} {p : Pos} {Fs : FSR' ι} (gs : GS G st π u) (h : CalleeS G.X.prog G.X.w G.X.K G.X.mg G.X.base x k ps C) (hr : Room m G.X.A) (ha : DSl G (e :: es) Fs) (hk : k ≤ m := by decide) (hg : Gl G.X x := by rfl) (hdb : (x == ("__debug__" : Str)) = false := by decide)
    (he : starEach (e :: es) G.X.env = (false, eval e G.X.env) :: starEach es G.X.env := by rfl) (hpl : (backTo pos (starEach es G.X.env)).any (·.1) = false := by rfl) :
    DR G (.Call (.Name x p) (e :: es) [] pos) (fun ρ i P => Fs ρ i fun sl j => C.C st (π j) sl fun d j' => P d (u j j')) := by
  obtain ⟨f, fd, F, hm, hkp, hb⟩ := h.ex
  obtain ⟨t, h, l⟩ := ha.ex
  refine ⟨⟨_, pe_call F (hr.mono hk) hg hm hkp hb .nil pass0 h hdb he hpl, fun S σ H ρ i P Q g h q => ?_⟩⟩
  refine l S σ H ρ i _ _ g h fun vs sl H1 j s1 hv hp => ?_
  rw [List.append_nil]
  have g1 := g.stepI s1
  refine ⟨S, st, π j, sl, g1.all, fun a z => g1.sub a (gs.sub a z), gs.get j H1 g1.wld, hv, C.mono _ _ _ _ _ hp fun d j' hp v H' e m hd => ?_⟩
  exact q v d H' (u j j') (s1.trans (gs.stp g1.wld e m)) hd hp
/-! ### statements -/
variable {st : Stmt} {sts : List Stmt}
theorem EndsOkR.from {D : DEndsR ι} {Dh : Ends} (q : EndsOkR G S H D Dh) (fr : Fr S H S' H') : EndsOkR G S' H' D Dh :=
  ⟨fun S2 σ2 H2 ρ2 j g f => q.nx S2 σ2 H2 ρ2 j g (fr.trans f), q.rt, fun S2 σ2 H2 ρ2 j g f => q.bk S2 σ2 H2 ρ2 j g (fr.trans f), fun S2 σ2 H2 ρ2 j g f => q.ct S2 σ2 H2 ρ2 j g (fr.trans f)⟩
theorem dsr_set {x : Str} {pos' : Pos} {F : FR ι} (n : Nat) (he : DR G e F) (hN : G.X.N.Nodup) (hi : G.X.N[n]? = some x := by rfl) (hx : Loc G.X.env.scope x := by first | exact Or.inl rfl | exact Or.inr rfl) (hs : swapsWith e (some (.Name x pos')) pos.line G.X.env = pure false := by rfl)
    (hf : G.X.fn x = true ∨ G.X.env.scope.names.lookup x = some .local := by first | exact .inl rfl | exact .inr rfl) : DSR G (.Assign [.Name x pos'] e pos) (fun D ρ i => F ρ i fun d j => D.nx (ρ.set n (.d d)) j) := by
  obtain ⟨t, h, l⟩ := he.ex
  refine ⟨⟨_, ps_set (i := n) hN hi hx h hs hf, fun S σ H ρ i D Dh g h q => ?_⟩⟩
  exact l S σ H ρ i _ _ g h fun v d H1 j st hv hp => q.nx S _ H1 _ j ((g.stepI st).set hv) (st.fr g) hp
theorem dsr_ret {F : FR ι} (he : DR G e F) : DSR G (.Return (some e) pos) (fun D ρ i => F ρ i D.rt) := by
  obtain ⟨t, h, l⟩ := he.ex
  refine ⟨⟨_, ps_ret h, fun S σ H ρ i D Dh g h q => ?_⟩⟩
  exact l S σ H ρ i _ _ g h fun v d H1 j st hv hp => q.rt v d H1 j st.wld (hv.move fun a o n e => ⟨fun z => n (g.sub a z), e⟩) hp
theorem dsr_freeze {F : FSR ι} (h : DSR G st F) : DSR G st (fun D ρ i => F D (ρ.map Slot.freeze) i) := by
  obtain ⟨t, h, l⟩ := h.ex
  refine ⟨⟨t, h, fun S σ H ρ i D Dh g h q => ?_⟩⟩
  obtain ⟨g1, fr⟩ := g.freeze
  exact l G.S0 σ H _ i D Dh g1 h (q.from fr)
theorem dbr_nil : DBR G [] (fun D ρ i => D.nx ρ i) := ⟨⟨_, pss_nil, fun S σ H ρ i D Dh g h q => q.nx S σ H ρ i g (Fr.refl S H) h⟩⟩
theorem dbr_one {F : FSR ι} (h : DSR G st F) : DBR G [st] F := by
  obtain ⟨t, h, l⟩ := h.ex
  exact ⟨⟨t, pss_one h, l⟩⟩
theorem dbr_cons {F F' : FSR ι} (h : DSR G st F) (hr : DBR G sts F') : DBR G (st :: sts) (fun D ρ i => F { D with nx := F' D } ρ i) := by
  obtain ⟨t, h, l⟩ := h.ex
  obtain ⟨u, h2, l2⟩ := hr.ex
  refine ⟨⟨_, pss_cons h h2, fun S σ H ρ i D Dh g h q => ?_⟩⟩
  exact l S σ H ρ i _ _ g h ⟨fun S' σ' H' ρ' j g' fr hp => l2 S' σ' H' ρ' j D Dh g' hp (q.from fr), q.rt, q.bk, q.ct⟩
/-- an if, its test told first -/
theorem dsr_if {sa sb : List Stmt} {Fc : FTR ι} {F F' : FSR ι} (hc : DTR G c Fc) (ha : DBR G sa F) (hb : DBR G sb F') : DSR G (.If c sa sb pos) (fun D ρ i => ∃ Pc : Bool → ι → Prop, Fc ρ i Pc ∧ (∀ j, Pc true j → F D ρ j) ∧ (∀ j, Pc false j → F' D ρ j)) := by
  obtain ⟨t0, h0, l0⟩ := hc.ex
  obtain ⟨t, h, l⟩ := ha.ex
  obtain ⟨u, h2, l2⟩ := hb.ex
  refine ⟨⟨_, ps_if h0 h h2, fun S σ H ρ i D Dh g h q => ?_⟩⟩
  obtain ⟨Pc, hc, h1, h2⟩ := h
  refine l0 S σ H ρ i _ _ g hc fun b H1 j st hp => ?_
  cases b with
  | true => exact l S σ H1 ρ j D Dh (g.stepI st) (h1 j hp) (q.from (st.fr g))
  | false => exact l2 S σ H1 ρ j D Dh (g.stepI st) (h2 j hp) (q.from (st.fr g))
theorem dsr_par {x y : Str} {Fs : FAR ι} {px py pt : Pos} {kt k2 pt2} (n m : Nat) (ha : DAR G [a, b] Fs) (hN : G.X.N.Nodup) (hc : G.X.calm = true := by rfl) (hi : G.X.N[n]? = some x := by rfl) (hj : G.X.N[m]? = some y := by rfl) (hij : n ≠ m := by decide)
    (hx : G.X.env.scope.names.lookup x = some .local := by rfl) (hy : G.X.env.scope.names.lookup y = some .local := by rfl)
    (hw : swappedStores [.Tuple [.Name x px, .Name y py] kt pt] (.Tuple [a, b] k2 pt2) G.X.env = pure (some [x, y]) := by rfl)
    (hs : swapsWithSole [.Tuple [.Name x px, .Name y py] kt pt] (.Tuple [a, b] k2 pt2) pos.line G.X.env = pure false := by rfl) :
    DSR G (.Assign [.Tuple [.Name x px, .Name y py] kt pt] (.Tuple [a, b] k2 pt2) pos) (fun D ρ i => Fs ρ i fun ds j => two ds fun d e => D.nx ((ρ.set n (.d d)).set m (.d e)) j) := by
  obtain ⟨t, h, l⟩ := ha.ex
  refine ⟨⟨_, ps_par hc hN hi hj hij hx hy h hw hs, fun S σ H ρ i D Dh g h q => ?_⟩⟩
  refine l S σ H ρ i _ _ g h fun vs ds H1 j st hv hp => ?_
  unfold two at hp
  split at hp
  · obtain ⟨v, w, rfl, h1, h2⟩ := dvl2 hv
    exact ⟨v, w, rfl, q.nx _ _ _ _ j (((g.stepI st).set h1).set h2) (st.fr g) hp⟩
  · exact hp.elim
end
/-! ### the rule for a def that is handed a state -/
section
/-- the context of a body that is handed a state -/
abbrev famS {κ : Type} (P : Program) (w : World) (K : PySem.W.Frag) (mg : Str → Option Value) (base : Heap) (N : List Str) (qual : Str) (sc : Scope) (f : Addr) (cdv : Value) (A : Around) (outer : List Env) (s : Shared) (H : Hp) (S : Addr → Prop) (hS : ∀ a, S a → ∃ o, H a = some o) (st : Sta κ) (i0 : κ) (h0 : st.M i0 H) : Fam κ where
  X := (cxOf CX0 P w K mg base N qual sc f cdv A outer s H E0).nox
  H0 := H
  S0 := S
  W := fun i H' => ExF st.fp H H' ∧ st.M i H'
  clo := fun i H1 H2 h k x => ⟨fun a o n e => k a o o e (h.1 a o n e), st.loc i H1 H2 h.2 (fun a o z e => by
    obtain ⟨o0, e0⟩ := st.dom i0 H h0 a z
    exact k a o o0 e0 e) x⟩
  top := fun i H1 h a o e => by
    by_cases z : st.fp a
    · exact st.dom i H1 h.2 a z
    · exact ⟨o, h.1 a o z e⟩
  s0 := hS
theorem gs_self {κ : Type} {P : Program} {w : World} {K : PySem.W.Frag} {mg : Str → Option Value} {base : Heap} {N : List Str} {qual : Str} {sc : Scope} {f : Addr} {cdv : Value} {A : Around} {outer : List Env} {s : Shared} {H : Hp} {S : Addr → Prop} {hS : ∀ a, S a → ∃ o, H a = some o} {st : Sta κ} {i0 : κ} {h0 : st.M i0 H} (hf : ∀ a, st.fp a → S a) :
    GS (famS P w K mg base N qual sc f cdv A outer s H S hS st i0 h0) st (fun i => i) (fun _ j => j) :=
  ⟨hf, fun _ _ h => h.2, fun i j H1 H2 h e m => ⟨h.1.trans e, m⟩⟩
/-- a part of the state -/
structure SubS {ι κ : Type} (c : Sta κ) (st : Sta ι) (π : ι → κ) (u : ι → κ → ι) : Prop where
  fp : ∀ a, c.fp a → st.fp a
  get : ∀ i H, st.M i H → c.M (π i) H
  put : ∀ i j H H', st.M i H → ExF c.fp H H' → c.M j H' → st.M (u i j) H'
theorem GS.subS {ι κ μ : Type} {G : Fam ι} {st : Sta κ} {c : Sta μ} {π : ι → κ} {u : ι → κ → ι} {π' : κ → μ} {u' : κ → μ → κ} (gs : GS G st π u) (s : SubS c st π' u') : GS G c (fun i => π' (π i)) (fun i j => u i (u' (π i) j)) :=
  ⟨fun a z => gs.sub a (s.fp a z), fun i H h => s.get _ H (gs.get i H h), fun i j H H' h e m => gs.put i _ H H' h (fun a o n => e a o fun z => n (s.fp a z)) (s.put _ j H H' (gs.get i H h) e m)⟩
def startS (n : Nat) (sl : List Slot) : List Slot := sl ++ List.replicate (n - sl.length) Slot.un
theorem argOk_slot {K : PySem.W.Frag} {S : Addr → Prop} {H0 H : Hp} {s : Slot} {v : V} (h : ArgOk K S H s v) : SlotOk K S H0 H (some v) s ∧ s.isOwn = false := by
  cases s with
  | d x => exact ⟨h, rfl⟩
  | raw w => exact ⟨h, rfl⟩
  | scr w => exact ⟨h, rfl⟩
  | un => exact h.elim
  | own _ => exact h.elim
  | ownd _ _ => exact h.elim
theorem gd_startS {G : Ctx} {H : Hp} {N : List Str} {vs : List V} {sl : List Slot} (hw : G.W H) (ha : ∀ a, G.S0 a → ∃ o, H a = some o) (hv : SlL G.X.K G.S0 H sl vs) (hl : sl.length ≤ N.length) : Gd G G.S0 (L2.start N vs) H (startS N.length sl) := by
  have hvl := hv.len
  refine ⟨hw, ha, fun _ h => h, by unfold L2.start startS; simp [hvl], fun i s hs => ?_, fun i j si sj v h1 h2 o1 o2 _ _ => ?_⟩
  · unfold startS at hs
    unfold L2.start
    by_cases hi : i < sl.length
    · rw [List.getElem?_append_left hi] at hs
      obtain ⟨v, e1, e2⟩ := hv.get hs
      rw [List.getElem?_append_left (by rw [List.length_map]; omega), List.getElem?_map, e1]
      exact (argOk_slot e2).1
    · rw [List.getElem?_append_right (by omega), List.getElem?_replicate] at hs
      split at hs
      · cases hs; exact trivial
      · cases hs
  · unfold startS at h1
    by_cases hi : i < sl.length
    · rw [List.getElem?_append_left hi] at h1
      obtain ⟨v, e1, e2⟩ := hv.get h1
      rw [(argOk_slot (H0 := H) e2).2] at o1
      cases o1
    · rw [List.getElem?_append_right (by omega), List.getElem?_replicate] at h1
      split at h1
      · cases h1; cases o1
      · cases h1
theorem fn_pureS {κ : Type} {P : Program} {w : World} {K : PySem.W.Frag} {mg : Str → Option Value} {base : Heap} {x qual : Str} {stm : Stmt} {f : Addr} {fd : FuncData} {N ps : List Str} {k : Nat} {C : ConS κ} (F : Fun K x qual stm f fd) (Sc : FnScope N ps (defScope stm)) (len : ∀ st i sl P, C.C st i sl P → sl.length = ps.length)
    (hbody : ∀ (cdv : Value) (A : Around) (outer : List Env) (s : Shared) (H : Hp) (S : Addr → Prop) (hS : ∀ a, S a → ∃ o, H a = some o) (st : Sta κ) (i0 : κ) (h0 : st.M i0 H), (∀ a, st.fp a → S a) → Room k (A.deeper (envOfC qual (defScope stm) s.heap.objs.size f cdv)) → ∀ sl R, C.C st i0 sl R →
      ∃ T, DBR (famS P w K mg base N qual (defScope stm) f cdv A outer s H S hS st i0 h0) (defBody stm) T ∧ T { nx := fun _ => R .non, rt := R } (startS N.length sl) i0) : FnOk P w K mg base CX0 (k + 1) f fd ps (spS K C) := by
  have hpl : ps.length ≤ N.length := by have := congrArg List.length Sc.pre; rw [List.length_take] at this; omega
  refine F.ok Sc (fun vs H Q E ⟨S, st, i, sl, _, _, _, hv, hc⟩ => by rw [hv.len]; exact len _ _ _ _ hc) fun cdv A outer s H vs Q E hr h => ?_
  obtain ⟨S, st, i, sl, hS, hf, h0, hv, hc⟩ := h
  obtain ⟨T, ⟨t, hp, l⟩, hT⟩ := hbody cdv A outer s H S hS st i h0 hf hr sl _ hc
  refine ⟨t, ?_, ?_⟩
  · exact hp
  · refine l S _ H (startS N.length sl) i _ _ (gd_startS (G := (famS P w K mg base N qual (defScope stm) f cdv A outer s H S hS st i h0).at i) ⟨ExF.refl _ _, h0⟩ hS hv (by rw [len _ _ _ _ hc]; exact hpl)) hT ?_
    exact ⟨fun S' σ' H' ρ' j g fr q => q .non H' g.wld.1 g.wld.2 rfl, fun v d H' j hw hv q => q v H' hw.1 hw.2 hv, fun _ _ _ _ _ _ _ z => z.elim, fun _ _ _ _ _ _ _ z => z.elim⟩
end
end DL
namespace DL
open PySem PySem.Spec PyProof.Rows L2
/-! ### the dict that draws go by: a: the dict, b: its cells, c: what is left; L: how long that is; n: at most so many draws so far -/
def drawM (a b c : Addr) (L : Nat) (n : Nat) (H : Hp) : Prop := ∃ (k : Nat) (cells left : List Int), k ≤ n ∧ cells.length = 64 ∧ (∀ x ∈ cells, 0 ≤ x ∧ x < 2147483648) ∧ left.length = L ∧
  H a = some (.dK [(.inr "cells", .ref b), (.inr "left", .ref c), (.inr "spot", .int (k : Nat))]) ∧ H b = some (.lst (cells.map V.int)) ∧ H c = some (.lst (left.map V.int))
def drawSta (a b c : Addr) (L : Nat) : Sta Nat where
  fp := fun x => x = a ∨ x = b ∨ x = c
  M := drawM a b c L
  loc := fun n H H' ⟨k, cells, left, h1, h2, h3, h4, e1, e2, e3⟩ q _ => ⟨k, cells, left, h1, h2, h3, h4, q a _ (.inl rfl) e1, q b _ (.inr (.inl rfl)) e2, q c _ (.inr (.inr rfl)) e3⟩
  noc := fun n H ⟨k, cells, left, h1, h2, h3, h4, e1, e2, e3⟩ x φ hx z => by
    rcases hx with rfl | rfl | rfl
    · rw [e1] at z; cases z
    · rw [e2] at z; cases z
    · rw [e3] at z; cases z
  dom := fun n H ⟨k, cells, left, h1, h2, h3, h4, e1, e2, e3⟩ x hx => by
    rcases hx with rfl | rfl | rfl
    · exact ⟨_, e1⟩
    · exact ⟨_, e2⟩
    · exact ⟨_, e3⟩
/-- v is what draws go by, in this state -/
def IsDraw (st : Sta Nat) (v : V) : Prop := ∃ a b c L, a ≠ b ∧ a ≠ c ∧ b ≠ c ∧ st = drawSta a b c L ∧ v = .ref a
/-- no more draws than these, ever -/
def manyDraws : Nat := 1000000000000000
def conMix : Con := ⟨fun ds P _ => ∃ c k : Int, ds = [.int c, .int k] ∧ 0 ≤ c ∧ c < 4611686018427387904 ∧ 0 ≤ k ∧ k < 4611686018427387904 ∧ ∀ x : Int, 0 ≤ x → x < 2147483648 → P (.int x),
  fun _ _ _ _ _ ⟨c, k, e, h1, h2, h3, h4, h⟩ m _ => ⟨c, k, e, h1, h2, h3, h4, fun x a b => m _ (h x a b)⟩⟩
def conDraw : ConS Nat := ⟨fun st n sl P => ∃ (v : V) (top : Int), IsDraw st v ∧ sl = [.raw v, .d (.int top)] ∧ 0 < top ∧ top < 1000000000 ∧ n < manyDraws ∧ ∀ x : Int, 0 ≤ x → x < top → P (.int x) (n + 1),
  fun _ _ _ _ _ ⟨v, top, h0, e, h1, h2, h3, h⟩ m => ⟨v, top, h0, e, h1, h2, h3, fun x a b => m _ _ (h x a b)⟩⟩
section
variable {P : Program} {w : World} {K : PySem.W.Frag} {mg : Str → Option Value} {base : Heap} {f f2 : Addr} {fd fd2 : FuncData} {k : Nat}
theorem valV_at {kvs : List (Key × V)} {k : Key} {v : V} (h : valV kvs k = some v) : (valV kvs k) = some v := h
theorem put_spot {b c : Addr} {k j : Int} : putK [((.inr "cells" : Key), V.ref b), (.inr "left", .ref c), (.inr "spot", .int k)] (.inr "spot") (V.int j) = [(.inr "cells", .ref b), (.inr "left", .ref c), (.inr "spot", .int j)] := by
  have e : ∀ x y : Str, decide ((Sum.inr x : Key) = Sum.inr y) = decide (x = y) := key_rr
  simp [putK, e]
  decide
theorem get_cells {b c : Addr} {k : Int} : valV [((.inr "cells" : Key), V.ref b), (.inr "left", .ref c), (.inr "spot", .int k)] (.inr "cells") = some (.ref b) := valV_pos rfl
theorem get_left {b c : Addr} {k : Int} : valV [((.inr "cells" : Key), V.ref b), (.inr "left", .ref c), (.inr "spot", .int k)] (.inr "left") = some (.ref c) := by
  rw [valV_neg (by intro z; injection z with z; exact absurd z (by decide))]
  exact valV_pos rfl
theorem get_spot {b c : Addr} {k : Int} : valV [((.inr "cells" : Key), V.ref b), (.inr "left", .ref c), (.inr "spot", .int k)] (.inr "spot") = some (.int k) := by
  rw [valV_neg (by intro z; injection z with z; exact absurd z (by decide)), valV_neg (by intro z; injection z with z; exact absurd z (by decide))]
  exact valV_pos rfl
theorem atI_int {ns : List Int} {i : Int} (h0 : 0 ≤ i) (h1 : i < ns.length) : ∃ x, ns[i.toNat]? = some x ∧ atI (ns.map V.int) i = some (.int x) ∧ ixN (ns.map V.int).length i = some i.toNat := by
  have hl : i.toNat < ns.length := by omega
  refine ⟨ns[i.toNat], List.getElem?_eq_getElem hl, ?_, by unfold ixN; rw [if_pos h0, if_pos (by rw [List.length_map]; exact h1)]⟩
  have e : atI (ns.map V.int) ((i.toNat : Nat) : Int) = some (.int ns[i.toNat]) := atI_nat (by simp [List.getElem?_map, List.getElem?_eq_getElem hl])
  rw [Int.toNat_of_nonneg h0] at e
  exact e
theorem dget_at {H : Hp} {a : Addr} {kvs : List (Key × V)} {x : Str} {v : V} (e : H a = some (.dK kvs)) (h : valV kvs (.inr x) = some v) : DGet H a (.str x) (some v) := by
  have q : DGet H a (kV (.inr x)) (valV kvs (.inr x)) := DGet.k e
  rw [h] at q
  exact q
theorem ints_lay : ∀ l : List Int, PyData.canLayAll0 (toPs (l.map Dat.int)) = true ∧ PyData.depthAll (toPs (l.map Dat.int)) = 0
  | [] => ⟨rfl, rfl⟩
  | x :: l => by
    have ih := ints_lay l
    rw [List.map_cons, toPs, PyData.canLayAll0, PyData.depthAll, ih.1, ih.2]
    exact ⟨rfl, rfl⟩
theorem ints_shaped (l : List Int) : SeqAt.shaped (toP (.lst (l.map Dat.int))) = true := by
  have h := ints_lay l
  unfold SeqAt.shaped
  rw [toP, PyData.canLay0, PyData.depth, h.1, h.2]
  rfl
theorem ints_dv {K : PySem.W.Frag} {S : Addr → Prop} {H : Hp} : ∀ l : List Int, DvL K S H (l.map Dat.int) (l.map V.int)
  | [] => rfl
  | x :: l => ⟨_, _, rfl, rfl, ints_dv l⟩
theorem ints_ne (l : List Int) : PyData.eqv (toP (.lst (l.map Dat.int))) (toP (.lst [])) = l.isEmpty := by
  cases l with
  | nil => rfl
  | cons x l => rfl
end
end DL
namespace DL
open PySem PySem.Spec PyProof.Rows L2
section
variable {G : Ctx} {S S' : Addr → Prop} {σ : L2.St} {H H' : Hp} {ρ : List Slot} {pos : Pos} {a b e : Expr} {Fa Fb F : FE}
/-- name[e] of a list of one's own -/
theorem de_ixOwn {x : Str} {p : Pos} (i : Nat) (hb : DE G b Fb) (hs : PlainIx b := by exact fun _ _ => rfl) (hN : G.X.N[i]? = some x := by rfl) (hv : Vis G.X.env.scope x := by first | exact Or.inl rfl | exact Or.inr (Or.inl rfl) | exact Or.inr (Or.inr rfl)) (hd : (x == ("__debug__" : Str)) = false := by decide)
    (hcd : (x == ("__classdict__" : Str)) = false := by decide) : DE G (.Subscript (.Name x p) b pos) (fun ρ P => ownL ρ i fun ds => Fb ρ fun y => isI y fun k => someD (atI ds k) P) := by
  obtain ⟨tb, h2, l2⟩ := hb.ex
  refine ⟨⟨_, pe_ix ix_list (pe_var hN hv hd hcd) h2 hs, fun S σ H ρ P Q g h q => ?_⟩⟩
  obtain ⟨ds, es, hf⟩ := ownL_inv h
  obtain ⟨p, xs, e1, sp, e0, eh, hl⟩ := g.slot_own es
  refine ⟨.ref p, e1, l2 S σ H ρ _ _ g hf fun v d H1 st hv hp => ?_⟩
  obtain ⟨k, rfl, hp⟩ := isI_inv hp
  cases dv_int hv
  obtain ⟨d, ed, hp⟩ := someD_inv hp
  have g1 := g.step st
  obtain ⟨p', xs', e1', sp', e0', eh', hl'⟩ := g1.slot_own es
  cases e1.symm.trans e1'
  obtain ⟨z, ez, hz⟩ := atI_dv hl' ed
  exact ⟨p, xs', k, z, rfl, rfl, .inl (.inl eh'), ez, q z d H1 st hz hp⟩
/-- len(name) of a list of one's own -/
theorem de_lenOwn {x : Str} {p p2 : Pos} (i : Nat) (hm : G.X.mg "len" = none) (hN : G.X.N[i]? = some x := by rfl) (hv : Vis G.X.env.scope x := by first | exact Or.inl rfl | exact Or.inr (Or.inl rfl) | exact Or.inr (Or.inr rfl)) (hd : (x == ("__debug__" : Str)) = false := by decide)
    (hcd : (x == ("__classdict__" : Str)) = false := by decide) (hg : Gl G.X "len" := by rfl) (he : starEach [.Name x p] G.X.env = (false, eval (.Name x p) G.X.env) :: starEach [] G.X.env := by rfl) : DE G (.Call (.Name "len" p2) [.Name x p] [] pos) (fun ρ P => ownL ρ i fun ds => P (.int (ds.length : Nat))) := by
  refine ⟨⟨_, pe_callB call_len hg hm PySem.boot_len (pa_cons (pe_var hN hv hd hcd) pa_nil he) (he := he), fun S σ H ρ P Q g h q => ?_⟩⟩
  obtain ⟨ds, es, hf⟩ := ownL_inv h
  obtain ⟨p, xs, e1, sp, e0, eh, hl⟩ := g.slot_own es
  exact ⟨.ref p, e1, _, _, rfl, .inl ⟨xs, .inl (.inl eh), rfl⟩, q _ (.int (xs.length : Nat)) H (Stp.refl g.wld) rfl (by rw [hl.len]; exact hf)⟩
theorem DvL.set {K : PySem.W.Frag} : ∀ {ds : List Dat} {vs : List V} (n : Nat) {d : Dat} {v : V}, DvL K S H ds vs → Dv K S H d v → DvL K S H (ds.set n d) (vs.set n v)
  | [], vs, n, d, v, e, _ => by cases (e : _ = []); exact rfl
  | d0 :: ds, vs, 0, d, v, e, h => by
    obtain ⟨v0, r, rfl, h1, h2⟩ := (e : ∃ v r, vs = v :: r ∧ Dv K S H d0 v ∧ DvL K S H ds r)
    exact ⟨v, r, rfl, h, h2⟩
  | d0 :: ds, vs, n + 1, d, v, e, h => by
    obtain ⟨v0, r, rfl, h1, h2⟩ := (e : ∃ v r, vs = v :: r ∧ Dv K S H d0 v ∧ DvL K S H ds r)
    exact ⟨v0, r.set n v, rfl, h1, h2.set n h⟩
/-- name[b] = e of a list of one's own -/
theorem ds_putOwn {x : Str} {np sp : Pos} (i : Nat) (he : DE G e F) (hb : DE G b Fb) (hN : G.X.N[i]? = some x := by rfl) (hv : Vis G.X.env.scope x := by first | exact Or.inl rfl | exact Or.inr (Or.inl rfl) | exact Or.inr (Or.inr rfl)) (hd : (x == ("__debug__" : Str)) = false := by decide)
    (hcd : (x == ("__classdict__" : Str)) = false := by decide) (hs : swapsWithSole [.Subscript (.Name x np) b sp] e pos.line G.X.env = pure false := by rfl) (hw : swappedStores [.Subscript (.Name x np) b sp] e G.X.env = pure none := by rfl)
    (h1 : (assignEach [.Subscript (.Name x np) b sp] G.X.env).map (·.2) = [assign (.Subscript (.Name x np) b sp) G.X.env] := by rfl)
    (hw2 : ∀ z, assign (.Subscript (.Name x np) b sp) G.X.env z = (do let u ← holding [z] (eval (.Name x np) G.X.env); let k ← holding [z, u] (eval b G.X.env); standAt sp; holding [z, u, k] (setItem u k z); release [z, u, k] []) := by intro _; rfl) :
    DS G (.Assign [.Subscript (.Name x np) b sp] e pos) (fun D ρ => F ρ fun v => ownL ρ i fun ds => Fb ρ fun y => isI y fun k => someD (ixN ds.length k) fun j => D.nx (ρ.set i (.own (ds.set j v)))) := by
  obtain ⟨t, h, l⟩ := he.ex
  obtain ⟨tb, h2, l2⟩ := hb.ex
  refine ⟨⟨_, ps_asg h (pg_sub (pe_var hN hv hd hcd) h2 set_list hw2) hs hw h1, fun S σ H ρ D Dh g hf q => ?_⟩⟩
  refine l S σ H ρ _ _ g hf fun v d H1 st hv' hp => ?_
  have g1 := g.step st
  obtain ⟨ds, es, hf⟩ := ownL_inv hp
  obtain ⟨p, xs, e1, sp, e0, eh, hl⟩ := g1.slot_own es
  refine ⟨.ref p, e1, l2 S σ H1 ρ _ _ g1 hf fun v2 d2 H2 st2 hv2 hp => ?_⟩
  obtain ⟨k, rfl, hp⟩ := isI_inv hp
  cases dv_int hv2
  obtain ⟨j, ej, hp⟩ := someD_inv hp
  have g2 := g1.step st2
  obtain ⟨p', xs', e1', sp', e0', eh', hl'⟩ := g2.slot_own es
  cases e1.symm.trans e1'
  have fr : Fr S H2 S (upd H2 p (.lst (xs'.set j v))) := fun b u n e => ⟨n, by rw [upd_ne (fun z => n (by rw [z]; exact sp'))]; exact e⟩
  obtain ⟨g3, fr3⟩ := g2.write (o := .lst (xs'.set j v)) (s' := .own (ds.set j d)) es e1' rfl rfl ⟨p, xs'.set j v, rfl, sp', e0', upd_same, DvL.move fr _ _ (hl'.set j (st2.dv g1 hv'))⟩
  exact ⟨p, xs', k, j, rfl, rfl, eh', by rw [hl'.len]; exact ej, q.nx _ _ _ _ g3 (Fr.trans (st.fr g) (Fr.trans (st2.fr g1) fr3)) hp⟩
/-! ### a list that is handed in from outside, of ints -/
def rdScr (ρ : List Slot) (i : Nat) (P : List Int → Prop) : Prop := match ρ[i]? with
  | some (.scr x) => P x
  | _ => False
theorem rdScr_inv {ρ : List Slot} {i : Nat} {P : List Int → Prop} (h : rdScr ρ i P) : ∃ x, ρ[i]? = some (.scr x) ∧ P x := by
  unfold rdScr at h
  split at h
  · rename_i x e; exact ⟨x, e, h⟩
  · exact h.elim
theorem rdScr_here {ρ : List Slot} {i : Nat} {ns : List Int} {P : List Int → Prop} (e : ρ[i]? = some (.scr ns)) (h : P ns) : rdScr ρ i P := by unfold rdScr; rw [e]; exact h
theorem Gd.slot_scr (g : Gd G S σ H ρ) {i : Nat} {ns : List Int} (h : ρ[i]? = some (.scr ns)) : ∃ a, σ[i]? = some (some (.ref a)) ∧ ScrOk G.X.K S H ns (.ref a) := by
  have q := g.slots i _ h
  cases e : σ[i]? with
  | none => rw [e] at q; exact q.elim
  | some o =>
    cases o with
    | none => rw [e] at q; exact q.elim
    | some v =>
      rw [e] at q
      obtain ⟨a, rfl, r⟩ := (q : ScrOk G.X.K S H ns v)
      exact ⟨a, rfl, a, rfl, r⟩
theorem walk_scr {S : Addr → Prop} {H : Hp} {ns : List Int} {p : Addr} (q : ScrOk G.X.K S H ns (.ref p)) : WalkOk G (Itl G.X.K p) (ns.map Dat.int) S H := by
  have all : ∀ (S2 : Addr → Prop) (H2 : Hp), Fr S H S2 H2 → SqL G.X.K H2 p (ns.map V.int) := fun S2 H2 fr => (q.move fr).sq
  refine ⟨fun i S' H' hi fr => ?_, fun i d S' σ' ρ' H' x H2 hd g fr y => ?_, fun S' H' fr => ⟨_, all S' H' fr, by simp⟩⟩
  · have hl : i < ns.length := by simpa using hi
    exact ⟨_, .int ns[i], all S' H' fr, by simp [List.getElem?_eq_getElem hl]⟩
  · obtain ⟨rfl, y⟩ := y
    rw [List.getElem?_map] at hd
    cases e : ns[i]? with
    | none => rw [e] at hd; cases hd
    | some n =>
      rw [e] at hd
      cases hd
      have q := y _ (all _ _ fr)
      rw [List.getElem?_map, e] at q
      cases q
      exact ⟨Stp.refl g.wld, rfl⟩
theorem di_scr {tg : Expr} {x : Str} {p : Pos} (i : Nat) (hN : G.X.N[i]? = some x := by rfl) (hv : Vis G.X.env.scope x := by first | exact Or.inl rfl | exact Or.inr (Or.inl rfl) | exact Or.inr (Or.inr rfl)) (hd : (x == ("__debug__" : Str)) = false := by decide)
    (hcd : (x == ("__classdict__" : Str)) = false := by decide) : DI G tg (.Name x p) (fun ρ P => rdScr ρ i fun ns => P (ns.map Dat.int)) := by
  refine ⟨⟨_, pi_seq (pe_var hN hv hd hcd), fun S σ H ρ P R g h q => ?_⟩⟩
  obtain ⟨ns, e, h⟩ := rdScr_inv h
  obtain ⟨a, ea, hs⟩ := g.slot_scr e
  exact ⟨_, ea, a, rfl, .inl ⟨⟨_, hs.sq⟩, q _ _ H (Stp.refl g.wld) (walk_scr hs) h⟩⟩
/-- enumerate of it: pairs -/
def enumL : Nat → List Int → List Dat
  | _, [] => []
  | k, n :: ns => .tup [.int (k : Nat), .int n] :: enumL (k + 1) ns
theorem enumL_get : ∀ {ns : List Int} {k i : Nat} {d : Dat}, (enumL k ns)[i]? = some d → ∃ n, ns[i]? = some n ∧ d = .tup [.int ((k + i : Nat) : Int), .int n]
  | [], _, _, _, h => by simp [enumL] at h
  | n :: ns, k, 0, d, h => by
    simp [enumL] at h
    exact ⟨n, rfl, h.symm⟩
  | n :: ns, k, i + 1, d, h => by
    obtain ⟨m, e1, e2⟩ := enumL_get (ns := ns) (k := k + 1) (i := i) (by simpa [enumL] using h)
    exact ⟨m, by simpa using e1, by rw [e2]; congr 3; omega⟩
theorem enumL_len : ∀ (k : Nat) (ns : List Int), (enumL k ns).length = ns.length
  | _, [] => rfl
  | k, n :: ns => by rw [enumL, List.length_cons, List.length_cons, enumL_len (k + 1) ns]
theorem di_enumScr {elts : List Expr} {kk : Nat} {tpos p pp : Pos} {x : Str} (i : Nat) (hm : G.X.mg "enumerate" = none) (hN : G.X.N[i]? = some x := by rfl) (hv : Vis G.X.env.scope x := by first | exact Or.inl rfl | exact Or.inr (Or.inl rfl) | exact Or.inr (Or.inr rfl)) (hd : (x == ("__debug__" : Str)) = false := by decide)
    (hcd : (x == ("__classdict__" : Str)) = false := by decide) (hg : Gl G.X "enumerate" := by rfl) (hs : starEach [.Name x p] G.X.env = [(false, eval (.Name x p) G.X.env)] := by rfl) :
    DI G (.Tuple elts kk tpos) (.Call (.Name "enumerate" pp) [.Name x p] [] pos) (fun ρ P => rdScr ρ i fun ns => P (enumL 0 ns)) := by
  refine ⟨⟨_, pi_enum hg hm (pa_cons (pe_var hN hv hd hcd) pa_nil) hs, fun S σ H ρ P R g h q => ?_⟩⟩
  obtain ⟨ns, e, h⟩ := rdScr_inv h
  obtain ⟨a, ea, hsc⟩ := g.slot_scr e
  have all : ∀ (S2 : Addr → Prop) (H2 : Hp), Fr S H S2 H2 → SqL G.X.K H2 a (ns.map V.int) := fun S2 H2 fr => (hsc.move fr).sq
  refine ⟨_, ea, a, _, rfl, hsc.sq, q _ _ H (Stp.refl g.wld) ⟨fun j S' H' hj fr => ?_, fun j d S' σ' ρ' H' z H2 hd g fr y => ?_, fun S' H' fr => ⟨_, all S' H' fr, by rw [enumL_len, List.length_map]; exact Nat.le_refl _⟩⟩ h⟩
  · rw [enumL_len] at hj
    exact ⟨_, .int ns[j], all S' H' fr, by simp [List.getElem?_eq_getElem hj]⟩
  · obtain ⟨n, e1, rfl⟩ := enumL_get hd
    obtain ⟨T, u, rfl, nT, rfl, y⟩ := y
    have q := y _ (all _ _ fr)
    rw [List.getElem?_map, e1] at q
    cases q
    have s2 : Stp G H' (upd H' T (.tup [.int ((j : Nat) : Int), .int n])) := Stp.new g.wld nT
    exact ⟨s2, T, _, rfl, .inl ⟨g.fresh nT, upd_same⟩, _, _, rfl, by rw [Nat.zero_add]; rfl, _, _, rfl, rfl, rfl⟩
/-- a new object becomes one's own, behind steps that made it -/
theorem Gd.setOwn2 (g : Gd G S σ H ρ) (st : Stp G H H') {i : Nat} {s : Slot} {p : Addr} (np : H p = none) (hs : s.isOwn = true) (h : SlotOk G.X.K (fun a => S a ∨ a = p) G.H0 H' (some (.ref p)) s) :
    Gd G (fun a => S a ∨ a = p) (σ.set i (some (.ref p))) H' (ρ.set i s) ∧ Fr S H (fun a => S a ∨ a = p) H' := by
  have fr : Fr S H (fun a => S a ∨ a = p) H' := fun a u n e => ⟨fun z => z.elim n (ne_of_none e np), st.keep a u (fun z => n (g.sub a z)) e⟩
  have n0 : ∀ a, G.H0 a = none → ¬ G.S0 a := fun a n z => by
    obtain ⟨o, e⟩ := G.s0 a z
    rw [n] at e; cases e
  have old : ∀ (j : Nat) t, ρ[j]? = some t → SlotOk G.X.K (fun a => S a ∨ a = p) G.H0 H' (σ[j]?.join) t := fun j t ht =>
    (g.slots j t ht).move fr (fun _ => .inl) fun a u ow ea e => by
      have q := g.slots j t ht
      obtain ⟨a', u', e1, _, _, e4⟩ := SlotOk.addr q ow
      rw [ea] at e1
      cases e1
      exact st.keep a u (n0 a e4) e
  have other : ∀ (j : Nat) sj, ρ[j]? = some sj → sj.isOwn = true → σ[j]? = some (some (.ref p)) → False := fun j sj hj oj e => by
    have q := g.slots j sj hj
    rw [e] at q
    obtain ⟨a, u, e1, _, e2, _⟩ := SlotOk.addr q oj
    cases e1
    rw [np] at e2; cases e2
  obtain ⟨a0, u0, ea0, _, eh0, _⟩ := SlotOk.addr h hs
  cases ea0
  refine ⟨⟨st.wld, fun a ha => ?_, fun a ha => .inl (g.sub a ha), by simp [g.len], fun j t ht => ?_, fun j k sj sk w h1 h2 o1 o2 e1 e2 => ?_⟩, fr⟩
  · rcases ha with ha | rfl
    · obtain ⟨u, e⟩ := g.all a ha
      exact st.has a u e
    · exact ⟨u0, eh0⟩
  · rw [getset] at ht
    rw [getset]
    by_cases hj : j = i
    · subst hj
      rw [if_pos rfl] at ht ⊢
      have hl := g.len
      by_cases hi : j < ρ.length
      · rw [if_pos hi] at ht
        cases ht
        rw [if_pos (by omega)]
        exact h
      · rw [if_neg hi] at ht; cases ht
    · rw [if_neg hj] at ht ⊢
      exact old j t ht
  · rw [getset] at h1 h2
    rw [getset] at e1 e2
    by_cases hj : j = i
    · by_cases hk : k = i
      · omega
      · rw [if_pos hj] at e1
        split at e1
        · cases e1
          rw [if_neg hk] at h2 e2
          exact (other k sk h2 o2 e2).elim
        · cases e1
    · by_cases hk : k = i
      · rw [if_pos hk] at e2
        split at e2
        · cases e2
          rw [if_neg hj] at h1 e1
          exact (other j sj h1 o1 e1).elim
        · cases e2
      · rw [if_neg hj] at h1 e1
        rw [if_neg hk] at h2 e2
        exact g.apart j k sj sk w h1 h2 o1 o2 e1 e2
/-- name = [.. for ..], the list one's own -/
theorem ds_setLcOwn {y : Str} {py spos : Pos} {elt tg iter : Expr} {ifs : List Expr} {scope : Scope} {x : Str} (i j : Nat) {F : FI} {Ft : FT} {Fe : FE} (hc : G.X.calm = true) (hN : G.X.N.Nodup) (hsw : swapsWith (.ListComp elt [⟨tg, iter, ifs, 0⟩] scope pos) (some (.Name y py)) spos.line G.X.env = pure true) (hi : DI G tg iter F) (ok : BlkOk G.X.N G.X.env.scope scope [(x, j)])
    (hg : ∀ (s : Shared) (H : Hp) (C : Addr) (cl : List (Str × Addr)) (fp : List Addr), PG (G.X.blk s H scope (compEnvC scope cl C G.X.env) fp) tg (gName j)) (ht : ∀ (s : Shared) (H : Hp) (C : Addr) (cl : List (Str × Addr)) (fp : List Addr), DTs (G.blk s H scope (compEnvC scope cl C G.X.env) fp) ifs Ft)
    (he : ∀ (s : Shared) (H : Hp) (C : Addr) (cl : List (Str × Addr)) (fp : List Addr), DE (G.blk s H scope (compEnvC scope cl C G.X.env) fp) elt Fe) (hy : G.X.N[i]? = some y := by rfl) (hyl : G.X.env.scope.names.lookup y = some .local := by rfl) (hs : ∀ x, foldedSetIterable iter G.X.env x = pure x := by intro _; rfl) :
    DS G (.Assign [.Name y py] (.ListComp elt [⟨tg, iter, ifs, 0⟩] scope pos) spos) (fun D ρ => F ρ fun items => compF (gNm j) Ft Fe (ρ.set j .un) items [] fun ds => D.nx (ρ.set i (.own ds))) := by
  obtain ⟨w, h1, l1⟩ := hi.ex
  refine ⟨⟨_, ps_setLc (i := i) (own := [(x, j)]) hc hN hy hyl hsw h1 ok hg (fun s H C cl fp => (ht s H C cl fp).blk) (fun s H C cl fp => (he s H C cl fp).blk) hs, fun S σ H ρ D Dh g h q => ?_⟩⟩
  refine lift_lc j l1 S σ H ρ _ _ g h fun p xs ds H' np st e hv hp => ?_
  obtain ⟨g2, fr⟩ := g.setOwn2 (i := i) (s := .own ds) st np rfl ⟨p, xs, rfl, .inr rfl, g.fresh0 np, e, hv⟩
  exact q.nx _ _ H' _ g2 fr hp
end
end DL
namespace DL
open PySem PySem.Spec PyProof.Rows L2
/-! ### defs whose arguments are slots: data, raw values, the script -/
structure ConL where
  C : List Slot → (Dat → Prop) → Prop
  mono : ∀ sl P P', C sl P → (∀ d, P d → P' d) → C sl P'
def spL (K : PySem.W.Frag) (C : ConL) : Sp := fun vs H Q E => ∃ (S : Addr → Prop) (sl : List Slot), (∀ a, S a → ∃ o, H a = some o) ∧ SlL K S H sl vs ∧ C.C sl (fun d => ∀ v H', Evl.Ex H H' → Dv K S H' d v → Q v H')
theorem fn_pureL {P : Program} {w : World} {K : PySem.W.Frag} {mg : Str → Option Value} {base : Heap} {x qual : Str} {st : Stmt} {f : Addr} {fd : FuncData} {N ps : List Str} {k : Nat} {C : ConL} (F : Fun K x qual st f fd) (Sc : FnScope N ps (defScope st)) (len : ∀ sl P, C.C sl P → sl.length = ps.length)
    (hbody : ∀ (cdv : Value) (A : Around) (outer : List Env) (s : Shared) (H : Hp) (S : Addr → Prop) (hS : ∀ a, S a → ∃ o, H a = some o), Room k (A.deeper (envOfC qual (defScope st) s.heap.objs.size f cdv)) →
      ∃ T, DB (ctx0 P w K mg base N qual (defScope st) f cdv A outer s H S hS) (defBody st) T ∧ ∀ sl R, C.C sl R → T { nx := fun _ => R .non, rt := R } (startS N.length sl)) : FnOk P w K mg base CX0 (k + 1) f fd ps (spL K C) := by
  have hpl : ps.length ≤ N.length := by have := congrArg List.length Sc.pre; rw [List.length_take] at this; omega
  refine F.ok Sc (fun vs H Q E ⟨S, sl, _, hv, hc⟩ => by rw [hv.len]; exact len _ _ hc) fun cdv A outer s H vs Q E hr h => ?_
  obtain ⟨S, sl, hS, hv, hc⟩ := h
  obtain ⟨T, ⟨t, hp, l⟩, hT⟩ := hbody cdv A outer s H S hS hr
  refine ⟨t, hp, ?_⟩
  refine l S _ H (startS N.length sl) _ _ (gd_startS (G := ctx0 P w K mg base N qual (defScope st) f cdv A outer s H S hS) (fun _ _ e => e) hS hv (by rw [len _ _ hc]; exact hpl)) (hT sl _ hc) ?_
  exact ⟨fun S' σ' H' ρ' g fr q => q .non H' g.wld rfl, fun v d H' hw hv q => q v H' hw hv, fun _ _ _ _ _ _ z => z.elim, fun _ _ _ _ _ _ z => z.elim⟩
structure CalleeL (P : Program) (w : World) (K : PySem.W.Frag) (mg : Str → Option Value) (base : Heap) (x : Str) (k : Nat) (ps : List Str) (C : ConL) : Prop where
  ex : ∃ f fd, FnOk P w K mg base CX0 k f fd ps (spL K C) ∧ mg x = some (.ref f) ∧ PySem.W.keepIn K (.ref f) = true ∧ Binds K fd ps []
/-- arguments as slots -/
abbrev FSl := List Slot → (List Slot → Prop) → Prop
def LiftSl0 (G : Ctx) (t : TA) (F : FSl) : Prop := ∀ S σ H ρ P (Q : List V → Hp → Prop), Gd G S σ H ρ → F ρ P → (∀ vs sl H', Stp G H H' → SlL G.X.K S H' sl vs → P sl → Q vs H') → t σ H Q
structure DSl0 (G : Ctx) (es : List Expr) (F : FSl) : Prop where
  ex : ∃ t, PA G.X es t ∧ LiftSl0 G t F
section
variable {G : Ctx} {S S' : Addr → Prop} {σ : L2.St} {H H' : Hp} {ρ : List Slot} {pos : Pos} {a b e : Expr} {es : List Expr} {Fa Fb F : FE}
theorem dl_nil : DSl0 G [] (fun _ P => P []) := ⟨⟨_, pa_nil, fun _ _ H _ _ _ g h q => q [] [] H (.refl g.wld) rfl h⟩⟩
theorem dl_d {Fs : FSl} (ha : DE G e Fa) (hr : DSl0 G es Fs) (hs : starEach (e :: es) G.X.env = (false, eval e G.X.env) :: starEach es G.X.env := by rfl) :
    DSl0 G (e :: es) (fun ρ P => Fa ρ fun x => Fs ρ fun xs => P (.d x :: xs)) := by
  obtain ⟨t, h1, l1⟩ := ha.ex
  obtain ⟨u, h2, l2⟩ := hr.ex
  refine ⟨⟨_, pa_cons h1 h2 hs, fun S σ H ρ P Q g h q => ?_⟩⟩
  refine l1 S σ H ρ _ _ g h fun v d H1 st hv h' => ?_
  refine l2 S σ H1 ρ _ _ (g.step st) h' fun vs ds H2 st2 hvs hp => ?_
  exact q _ (.d d :: ds) H2 (st.trans st2) ⟨v, vs, rfl, st2.dv (g.step st) hv, hvs⟩ hp
theorem dl_scr {x : Str} {p : Pos} {Fs : FSl} (n : Nat) (hr : DSl0 G es Fs) (hN : G.X.N[n]? = some x := by rfl) (hv : Vis G.X.env.scope x := by first | exact Or.inl rfl | exact Or.inr (Or.inl rfl) | exact Or.inr (Or.inr rfl)) (hd : (x == ("__debug__" : Str)) = false := by decide)
    (hcd : (x == ("__classdict__" : Str)) = false := by decide) (hs : starEach (Expr.Name x p :: es) G.X.env = (false, eval (.Name x p) G.X.env) :: starEach es G.X.env := by rfl) :
    DSl0 G (.Name x p :: es) (fun ρ P => rdScr ρ n fun ns => Fs ρ fun xs => P (.scr ns :: xs)) := by
  obtain ⟨u, h2, l2⟩ := hr.ex
  refine ⟨⟨_, pa_cons (pe_var hN hv hd hcd) h2 hs, fun S σ H ρ P Q g h q => ?_⟩⟩
  obtain ⟨ns, e, h⟩ := rdScr_inv h
  obtain ⟨a, ea, hsc⟩ := g.slot_scr e
  exact ⟨_, ea, l2 S σ H ρ _ _ g h fun vs sl H2 st2 hvs hp => q _ (.scr ns :: sl) H2 st2 ⟨_, vs, rfl, hsc.move fun a o n e => ⟨n, st2.keep a o (fun z => n (g.sub a z)) e⟩, hvs⟩ hp⟩
theorem de_fnL {x : Str} {k m : Nat} {ps : List Str} {C : ConL} {p : Pos} {Fs : FSl} (h : CalleeL G.X.prog G.X.w G.X.K G.X.mg G.X.base x k ps C) (hr : Room m G.X.A) (ha : DSl0 G (e :: es) Fs) (hk : k ≤ m := by decide) (hg : Gl G.X x := by rfl) (hdb : (x == ("__debug__" : Str)) = false := by decide)
    (he : starEach (e :: es) G.X.env = (false, eval e G.X.env) :: starEach es G.X.env := by rfl) (hpl : (backTo pos (starEach es G.X.env)).any (·.1) = false := by rfl) :
    DE G (.Call (.Name x p) (e :: es) [] pos) (fun ρ P => Fs ρ fun sl => C.C sl P) := by
  obtain ⟨f, fd, F, hm, hkp, hb⟩ := h.ex
  obtain ⟨t, h, l⟩ := ha.ex
  refine ⟨⟨_, pe_call F (hr.mono hk) hg hm hkp hb .nil pass0 h hdb he hpl, fun S σ H ρ P Q g h q => ?_⟩⟩
  refine l S σ H ρ _ _ g h fun vs sl H1 s1 hv hp => ?_
  rw [List.append_nil]
  exact ⟨S, sl, (g.step s1).all, hv, C.mono _ _ _ hp fun d hp v H' e hd => q v d H' (s1.trans (Stp.ex (g.step s1).wld e)) hd hp⟩
end
/-! ### more statements with the state's index -/
section
variable {ι κ : Type} {G : Fam ι} {S S' : Addr → Prop} {σ : L2.St} {H H' H2 : Hp} {ρ : List Slot} {pos : Pos} {a b c e : Expr} {es rest : List Expr} {Fa Fb : FR ι} {st : Stmt} {sts : List Stmt}
/-- what asks nothing of the state is a statement all the same -/
theorem dsr_of {F : ι → FS} (h : ∀ i, DS (G.at i) st (F i)) : DSR G st (fun D ρ i => F i { nx := fun ρ => D.nx ρ i, rt := fun d => D.rt d i, bk := fun ρ => D.bk ρ i, ct := fun ρ => D.ct ρ i } ρ) := by
  have h' : ∀ i, ∃ t, PS G.X st t ∧ LiftS (G.at i) t (F i) := fun i => (h i).ex
  refine ⟨⟨fun D σ H => ∃ t : TS, PS G.X st t ∧ t D σ H, ⟨fun pins s σ H D I ⟨t, hp, hq⟩ => hp.run pins s σ H D I hq⟩, fun S σ H ρ i D Dh g h q => ?_⟩⟩
  obtain ⟨t, hp, l⟩ := h' i
  exact ⟨t, hp, l S σ H ρ _ _ g h ⟨fun S' σ' H' ρ' g' fr hn => q.nx S' σ' H' ρ' i g' fr hn, fun v d H' hw hd hn => q.rt v d H' i hw hd hn, fun S' σ' H' ρ' g' fr hn => q.bk S' σ' H' ρ' i g' fr hn, fun S' σ' H' ρ' g' fr hn => q.ct S' σ' H' ρ' i g' fr hn⟩⟩
/-- name = [e, ..], the list one's own -/
theorem dsr_setOwn {x : Str} {pos' p2 : Pos} {Fs : FAR ι} (n : Nat) (he : DAR G es Fs) (hN : G.X.N.Nodup) (hi : G.X.N[n]? = some x := by rfl) (hx : Loc G.X.env.scope x := by first | exact Or.inl rfl | exact Or.inr rfl) (hs : swapsWith (.List es p2) (some (.Name x pos')) pos.line G.X.env = pure false := by rfl)
    (hf : G.X.fn x = true ∨ G.X.env.scope.names.lookup x = some .local := by first | exact .inl rfl | exact .inr rfl) : DSR G (.Assign [.Name x pos'] (.List es p2) pos) (fun D ρ i => Fs ρ i fun ds j => ds.length ≤ sizeLine ∧ D.nx (ρ.set n (.own ds)) j) := by
  obtain ⟨t, h, l⟩ := he.ex
  refine ⟨⟨_, ps_set (i := n) hN hi hx (pe_lst h) hs hf, fun S σ H ρ i D Dh g h q => ?_⟩⟩
  refine l S σ H ρ i _ _ g h fun vs ds H1 j st hv hp => ⟨by rw [hv.len]; exact hp.1, fun p np => ?_⟩
  have g1 := g.stepI st
  obtain ⟨g2, fr⟩ := g1.grow (o := .lst vs) np
  exact q.nx _ _ _ _ j (g1.setOwn (i := n) (s := .own ds) np rfl ⟨p, vs, rfl, .inr rfl, g1.fresh0 np, upd_same, hv.move fr⟩) (Fr.trans (st.fr g) fr) hp.2
/-- x, y = e, [], the second one a list of one's own -/
theorem dsr_parOwn {x y : Str} {px py pt lp : Pos} {kt k2 pt2} (n m : Nat) (ha : DR G a Fa) (hN : G.X.N.Nodup) (hc : G.X.calm = true := by rfl) (hi : G.X.N[n]? = some x := by rfl) (hj : G.X.N[m]? = some y := by rfl) (hij : n ≠ m := by decide)
    (hx : G.X.env.scope.names.lookup x = some .local := by rfl) (hy : G.X.env.scope.names.lookup y = some .local := by rfl)
    (hw : swappedStores [.Tuple [.Name x px, .Name y py] kt pt] (.Tuple [a, .List [] lp] k2 pt2) G.X.env = pure (some [x, y]) := by rfl)
    (hs : swapsWithSole [.Tuple [.Name x px, .Name y py] kt pt] (.Tuple [a, .List [] lp] k2 pt2) pos.line G.X.env = pure false := by rfl)
    (hst : starEach [a, .List [] lp] G.X.env = (false, eval a G.X.env) :: starEach [.List [] lp] G.X.env := by rfl) (hst2 : starEach [.List [] lp] G.X.env = (false, eval (.List [] lp) G.X.env) :: starEach [] G.X.env := by rfl) :
    DSR G (.Assign [.Tuple [.Name x px, .Name y py] kt pt] (.Tuple [a, .List [] lp] k2 pt2) pos) (fun D ρ i => Fa ρ i fun d j => D.nx ((ρ.set n (.d d)).set m (.own [])) j) := by
  obtain ⟨t, h, l⟩ := ha.ex
  refine ⟨⟨_, ps_par hc hN hi hj hij hx hy (pa_cons h (pa_cons (pe_lst pa_nil) pa_nil hst2) hst) hw hs, fun S σ H ρ i D Dh g h q => ?_⟩⟩
  refine l S σ H ρ i _ _ g h fun v d H1 j st hv hp => ⟨by decide, fun p np => ?_⟩
  have g1 := (g.stepI st).set (i := n) hv
  obtain ⟨g2, fr⟩ := g1.grow (o := .lst []) np
  exact ⟨v, .ref p, rfl, q.nx _ _ _ _ j (g1.setOwn (i := m) (s := .own []) np rfl ⟨p, [], rfl, .inr rfl, g1.fresh0 np, upd_same, rfl⟩) (Fr.trans (st.fr g) fr) hp⟩
/-! ### for, with the index -/
abbrev FIR (ι : Type) := List Slot → ι → (List Dat → ι → Prop) → Prop
/-- range(e) -/
theorem rangeR {tg : Expr} {p : Pos} {Fs : FAR ι} (hm : G.X.mg "range" = none) (ha : DAR G [a] Fs) (hg : Gl G.X "range" := by rfl) (hs : starEach [a] G.X.env = [(false, eval a G.X.env)] := by rfl) :
    ∃ w : TI, PI G.X tg (.Call (.Name "range" p) [a] [] pos) w ∧ ∀ S σ H ρ i (P : List Dat → ι → Prop) (R : It → Hp → Prop), Gd (G.at i) S σ H ρ → (Fs ρ i fun ds j => int1 ds fun n => (-(2 ^ 62) ≤ n ∧ n < 2 ^ 62) ∧ P (rints 0 n.toNat) j) →
      (∀ (lo : Int) (n : Nat) H1 j, StpI G j H H1 → P (rints lo n) j → R (Itr lo n) H1) → w σ H R := by
  obtain ⟨t, h1, l1⟩ := ha.ex
  refine ⟨_, pi_range1 hg hm h1 hs, fun S σ H ρ i P R g h q => ?_⟩
  refine l1 S σ H ρ i _ _ g h fun vs ds H1 j st hv hp => ?_
  unfold int1 at hp
  split at hp
  · obtain ⟨v, rfl, hd⟩ := dvl1 hv
    cases dv_int hd
    exact ⟨_, rfl, hp.1.1, hp.1.2, q _ _ H1 j st hp.2⟩
  · exact hp.elim
/-- for name in range(e), by a word of what is left, the slots and the index -/
theorem dsr_forRange {x : Str} {xp p fp : Pos} {body : List Stmt} {Fs : FAR ι} {Fb : FSR ι} (n : Nat) (hm : G.X.mg "range" = none) (hp : PassesOwn (model G.X.prog G.X.w) G.X.A G.X.env G.X.xe) (hc : G.X.calm = true) (ha : DAR G [a] Fs) (hb : DBR G body Fb) (hN : G.X.N.Nodup) (hi : G.X.N[n]? = some x := by rfl) (hx : Loc G.X.env.scope x := by first | exact Or.inl rfl | exact Or.inr rfl)
    (hf : G.X.fn x = true ∨ G.X.env.scope.names.lookup x = some .local := by first | exact .inl rfl | exact .inr rfl) (hg : Gl G.X "range" := by rfl) (hs : starEach [a] G.X.env = [(false, eval a G.X.env)] := by rfl)
    (hs2 : ∀ z, foldedSetIterable (.Call (.Name "range" p) [a] [] pos) G.X.env z = pure z := by intro _; rfl) :
    DSR G (.For (.Name x xp) (.Call (.Name "range" p) [a] [] pos) body [] fp) (fun D ρ i => ∃ Inv : List Dat → List Slot → ι → Prop, (Fs ρ i fun ds j => int1 ds fun n => (-(2 ^ 62) ≤ n ∧ n < 2 ^ 62) ∧ Inv (rints 0 n.toNat) ρ j) ∧ (∀ ρ j, Inv [] ρ j → D.nx ρ j) ∧ ∀ d ds ρ j, Inv (d :: ds) ρ j → Fb { nx := Inv ds, ct := Inv ds, bk := D.nx, rt := D.rt } (ρ.set n (.d d)) j) := by
  obtain ⟨w, h1, lw⟩ := rangeR (tg := .Name x xp) (p := p) (pos := pos) hm ha hg hs
  obtain ⟨u, h3, lb⟩ := hb.ex
  refine ⟨⟨_, ps_for hp hc h1 (pg_name (i := n) hN hi hx hf) h3 hs2, ?_⟩⟩
  intro S σ H ρ i D Dh gd h q
  obtain ⟨Inv, h, k0, ks⟩ := h
  refine lw S σ H ρ i (fun items j => Inv items ρ j) _ gd h fun lo cnt H1 j0 st hp => ?_
  have g1 := gd.stepI st
  have fr1 : Fr S H S H1 := st.fr gd
  have wk : ∀ j : ι, WalkOk (G.at j) (Itr lo cnt) (rints lo cnt) S H1 := fun j => walk_rng
  refine ⟨fun r m σ' H' => m = (rints lo cnt).length - r ∧ r ≤ (rints lo cnt).length ∧ ∃ S' ρ' j, Gd (G.at j) S' σ' H' ρ' ∧ Fr S H1 S' H' ∧ Inv ((rints lo cnt).drop r) ρ' j, ⟨_, rfl, Nat.zero_le _, S, ρ, j0, g1, Fr.refl _ _, hp⟩, ?_⟩
  rintro r m σ' H' ⟨rfl, hr, S', ρ', j, g', fr, hf'⟩
  by_cases hlt : r < (rints lo cnt).length
  · refine .inr ⟨(wk j).go r S' H' hlt fr, fun σ2 H2 => ∃ S2 ρ2 j2, Gd (G.at j2) S2 σ2 H2 ρ2 ∧ Fr S H1 S2 H2 ∧ Inv ((rints lo cnt).drop (r + 1)) ρ2 j2, fun σ2 H2 ⟨S2, ρ2, j2, a1, a2, a3⟩ => ⟨_, by omega, rfl, hlt, S2, ρ2, j2, a1, a2, a3⟩, fun z H2 y => ?_⟩
    obtain ⟨s2, hd⟩ := (wk j).yld r _ S' σ' ρ' H' z H2 (List.getElem?_eq_getElem hlt) g' fr y
    have g2 := g'.step s2
    rw [List.drop_eq_getElem_cons hlt] at hf'
    have frx : Fr S' H' S' H2 := s2.fr g'
    refine lb S' _ H2 _ j _ _ (g2.set hd) (ks _ _ _ _ hf') ⟨fun S4 σ4 H4 ρ4 j4 g4 fr4 hn => ⟨S4, ρ4, j4, g4, (fr.trans frx).trans fr4, hn⟩, q.rt, fun S4 σ4 H4 ρ4 j4 g4 fr4 hn => q.nx S4 σ4 H4 ρ4 j4 g4 (fr1.trans ((fr.trans frx).trans fr4)) hn, fun S4 σ4 H4 ρ4 j4 g4 fr4 hn => ⟨S4, ρ4, j4, g4, (fr.trans frx).trans fr4, hn⟩⟩
  · have e : r = (rints lo cnt).length := by omega
    subst e
    rw [List.drop_length] at hf'
    exact .inl ⟨(wk j).stop S' H' fr, q.nx S' σ' H' ρ' j g' (fr1.trans fr) (k0 _ _ hf')⟩
end
end DL
namespace DL
open PySem PySem.Spec PyProof.Rows L2
/-! ### two states side by side; a list of one number -/
def staAnd {ι κ : Type} (s : Sta ι) (t : Sta κ) : Sta (ι × κ) where
  fp := fun a => s.fp a ∨ t.fp a
  M := fun i H => s.M i.1 H ∧ t.M i.2 H
  loc := fun i H H' h q x => ⟨s.loc _ H H' h.1 (fun a o z => q a o (.inl z)) x, t.loc _ H H' h.2 (fun a o z => q a o (.inr z)) x⟩
  noc := fun i H h a φ z => z.elim (s.noc _ H h.1 a φ) (t.noc _ H h.2 a φ)
  dom := fun i H h a z => z.elim (s.dom _ H h.1 a) (t.dom _ H h.2 a)
theorem sub_fst {ι κ : Type} {s : Sta ι} {t : Sta κ} (d : ∀ a, t.fp a → ¬ s.fp a) : SubS s (staAnd s t) Prod.fst (fun i n => (n, i.2)) :=
  ⟨fun _ => .inl, fun _ _ h => h.1, fun i j H H' h e m => ⟨m, t.loc i.2 H H' h.2 (fun a o z q => e a o (d a z) q) fun a φ q => e a _ (fun z => s.noc i.1 H h.1 a φ z q) q⟩⟩
theorem sub_snd {ι κ : Type} {s : Sta ι} {t : Sta κ} (d : ∀ a, t.fp a → ¬ s.fp a) : SubS t (staAnd s t) Prod.snd (fun i n => (i.1, n)) :=
  ⟨fun _ => .inr, fun _ _ h => h.2, fun i j H H' h e m => ⟨s.loc i.1 H H' h.1 (fun a o z q => e a o (fun y => d a y z) q) fun a φ q => e a _ (fun z => t.noc i.2 H h.2 a φ z q) q, m⟩⟩
def roomSta (a : Addr) : Sta Int where
  fp := fun b => b = a
  M := fun r H => H a = some (.lst [.int r])
  loc := fun r H H' h q _ => q a _ rfl h
  noc := fun r H h b φ e z => by rw [e, h] at z; cases z
  dom := fun r H h b e => by rw [e]; exact ⟨_, h⟩
section
variable {ι κ : Type} {G : Fam ι} {S S' : Addr → Prop} {σ : L2.St} {H H' H2 : Hp} {ρ : List Slot} {pos : Pos} {a b c e : Expr} {es rest : List Expr} {Fa Fb : FR ι} {st : Stmt} {sts : List Stmt}
theorem dr_add (ha : DR G a Fa) (hb : DR G b Fb) : DR G (.BinOp a .Add b pos) (fun ρ i P => Fa ρ i fun x j => Fb ρ j fun y k => addD x y fun z => P z k) := dr_bin (.or (.or op_add op_add_str) (.or op_cat op_catA)) (fun i => serves_add) ha hb
theorem dr_sub (ha : DR G a Fa) (hb : DR G b Fb) : DR G (.BinOp a .Sub b pos) (fun ρ i P => Fa ρ i fun x j => Fb ρ j fun y k => int0 (fun i j => .int (i - j)) x y fun z => P z k) := dr_bin op_sub (fun i => serves_I0) ha hb
theorem dr_mulI (ha : DR G a Fa) (hb : DR G b Fb) : DR G (.BinOp a .Mult b pos) (fun ρ i P => Fa ρ i fun x j => Fb ρ j fun y k => intD (fun i j => .int (i * j)) CMul x y fun z => P z k) := dr_bin op_mul (fun i => serves_I) ha hb
theorem dtr_eq (hu : G.X.A.units + 64 < cLine) (ha : DR G a Fa) (hb : DR G b Fb) : DTR G (.Compare a [.Eq] [b] pos) (fun ρ i P => Fa ρ i fun x j => Fb ρ j fun y k => eqD x y fun z => isB z fun z => P z k) := dtr_cmp (.or op_eq (op_eqD hu)) (fun i => serves_eq) ha hb
theorem dtr_gt (ha : DR G a Fa) (hb : DR G b Fb) : DTR G (.Compare a [.Gt] [b] pos) (fun ρ i P => Fa ρ i fun x j => Fb ρ j fun y k => int0 (fun i j => .bl (decide (j < i))) x y fun z => isB z fun z => P z k) := dtr_cmp op_gt (fun i => serves_B0) ha hb
theorem dtr_lt (ha : DR G a Fa) (hb : DR G b Fb) : DTR G (.Compare a [.Lt] [b] pos) (fun ρ i P => Fa ρ i fun x j => Fb ρ j fun y k => int0 (fun i j => .bl (decide (i < j))) x y fun z => isB z fun z => P z k) := dtr_cmp op_lt (fun i => serves_B0) ha hb
/-- room[0] -/
theorem dr_room {π : ι → Int} {u : ι → Int → ι} {x : Str} {p : Pos} {z} {ra : Addr} (gs : GS G (roomSta ra) π u) (n : Nat) (hN : G.X.N[n]? = some x := by rfl) (hv : Vis G.X.env.scope x := by first | exact Or.inl rfl | exact Or.inr (Or.inl rfl) | exact Or.inr (Or.inr rfl)) (hd : (x == ("__debug__" : Str)) = false := by decide)
    (hcd : (x == ("__classdict__" : Str)) = false := by decide) {pc : Pos} (hs : PlainIx (Expr.Constant (.int 0) z pc) := by exact fun _ _ => rfl) : DR G (.Subscript (.Name x p) (.Constant (.int 0) z pc) pos) (fun ρ i P => rdRaw ρ n fun v => v = .ref ra ∧ P (.int (π i)) i) := by
  refine ⟨⟨_, pe_ix ix_list (pe_var hN hv hd hcd) pe_int hs, fun S σ H ρ i P Q g h q => ?_⟩⟩
  obtain ⟨v, e, rfl, h⟩ := rdRaw_inv h
  have m : H ra = some (.lst [.int (π i)]) := gs.get i H g.wld
  exact ⟨.ref ra, g.slot_raw e, ra, [.int (π i)], 0, .int (π i), rfl, rfl, .inl (.inl m), rfl, q (.int (π i)) (.int (π i)) H i (.refl g.wld) rfl h⟩
/-- room[0] = e -/
theorem dsr_roomSet {π : ι → Int} {u : ι → Int → ι} {x : Str} {np sp pc : Pos} {z} {ra : Addr} (gs : GS G (roomSta ra) π u) (n : Nat) (he : DR G e Fa) (hN : G.X.N[n]? = some x := by rfl) (hv : Vis G.X.env.scope x := by first | exact Or.inl rfl | exact Or.inr (Or.inl rfl) | exact Or.inr (Or.inr rfl)) (hd : (x == ("__debug__" : Str)) = false := by decide)
    (hcd : (x == ("__classdict__" : Str)) = false := by decide) (hs : swapsWithSole [.Subscript (.Name x np) (.Constant (.int 0) z pc) sp] e pos.line G.X.env = pure false := by rfl) (hw : swappedStores [.Subscript (.Name x np) (.Constant (.int 0) z pc) sp] e G.X.env = pure none := by rfl)
    (h1 : (assignEach [.Subscript (.Name x np) (.Constant (.int 0) z pc) sp] G.X.env).map (·.2) = [assign (.Subscript (.Name x np) (.Constant (.int 0) z pc) sp) G.X.env] := by rfl)
    (hw2 : ∀ y, assign (.Subscript (.Name x np) (.Constant (.int 0) z pc) sp) G.X.env y = (do let u ← holding [y] (eval (.Name x np) G.X.env); let k ← holding [y, u] (eval (.Constant (.int 0) z pc) G.X.env); standAt sp; holding [y, u, k] (setItem u k y); release [y, u, k] []) := by intro _; rfl) :
    DSR G (.Assign [.Subscript (.Name x np) (.Constant (.int 0) z pc) sp] e pos) (fun D ρ i => Fa ρ i fun d j => isI d fun r => rdRaw ρ n fun v => v = .ref ra ∧ D.nx ρ (u j r)) := by
  obtain ⟨t, h, l⟩ := he.ex
  refine ⟨⟨_, ps_asg h (pg_sub (pe_var hN hv hd hcd) pe_int set_list hw2) hs hw h1, fun S σ H ρ i D Dh g hf q => ?_⟩⟩
  refine l S σ H ρ i _ _ g hf fun v d H1 j s1 hv' hp => ?_
  obtain ⟨r, rfl, hp⟩ := isI_inv hp
  cases dv_int hv'
  obtain ⟨v, e, rfl, hp⟩ := rdRaw_inv hp
  have g1 := g.stepI s1
  have m : H1 ra = some (.lst [.int (π j)]) := gs.get j H1 g1.wld
  have s2 : StpI G (u j r) H1 (upd H1 ra (.lst [.int r])) := gs.stp g1.wld (fun a o n q => by rw [upd_ne (show a ≠ ra from n)]; exact q) (show upd H1 ra (.lst [.int r]) ra = _ from upd_same)
  exact ⟨.ref ra, g1.slot_raw e, ra, [.int (π j)], 0, 0, rfl, rfl, m, rfl, q.nx S σ _ ρ (u j r) (g1.stepI s2) (Fr.trans (s1.fr g) (s2.fr g1)) hp⟩
/-! ### arguments of which the last one is a new list of one number, a state that the callee changes -/
def LiftSlF {ι : Type} (G : Fam ι) (t : TA) (F : List Slot → ι → (List Slot → Int → ι → Prop) → Prop) : Prop := ∀ S σ H ρ i P (Q : List V → Hp → Prop), Gd (G.at i) S σ H ρ → F ρ i P →
  (∀ vs sl Hb j p r, StpI G j H Hb → Hb p = none → SlL G.X.K (fun a => S a ∨ a = p) (upd Hb p (.lst [.int r])) sl vs → P sl r j → Q (vs ++ [.ref p]) (upd Hb p (.lst [.int r]))) → t σ H Q
structure DSlF {ι : Type} (G : Fam ι) (es : List Expr) (F : List Slot → ι → (List Slot → Int → ι → Prop) → Prop) : Prop where
  ex : ∃ t, PA G.X es t ∧ LiftSlF G t F
theorem dslF_last {lp : Pos} (ha : DR G e Fa) (hs : starEach [.List [e] lp] G.X.env = (false, eval (.List [e] lp) G.X.env) :: starEach [] G.X.env := by rfl) (hs2 : starEach [e] G.X.env = (false, eval e G.X.env) :: starEach [] G.X.env := by rfl) : DSlF G [.List [e] lp] (fun ρ i P => Fa ρ i fun d j => isI d fun r => P [] r j) := by
  obtain ⟨t, h1, l1⟩ := ha.ex
  refine ⟨⟨_, pa_cons (pe_lst (pa_cons h1 pa_nil hs2)) pa_nil hs, fun S σ H ρ i P Q g h q => ?_⟩⟩
  refine l1 S σ H ρ i _ _ g h fun v d H1 j s1 hv hp => ⟨(show (1 : Nat) ≤ sizeLine by decide), fun p np => ?_⟩
  obtain ⟨r, rfl, hp⟩ := isI_inv hp
  cases dv_int hv
  exact q [] [] H1 j p r s1 np rfl hp
theorem fr_new {p : Addr} {o : HO} {Hb : Hp} (s : StpI G j H Hb) (g : Gd (G.at i) S σ H ρ) (np : Hb p = none) : Fr S H (fun a => S a ∨ a = p) (upd Hb p o) := fun a u n e => by
  have e2 := (s.fr g a u n e).2
  exact ⟨fun z => z.elim n (ne_of_none e2 np), by rw [upd_ne (ne_of_none e2 np)]; exact e2⟩
theorem dslF_d {Fs : List Slot → ι → (List Slot → Int → ι → Prop) → Prop} (ha : DR G e Fa) (hr : DSlF G es Fs) (hs : starEach (e :: es) G.X.env = (false, eval e G.X.env) :: starEach es G.X.env := by rfl) :
    DSlF G (e :: es) (fun ρ i P => Fa ρ i fun x j => Fs ρ j fun xs r k => P (.d x :: xs) r k) := by
  obtain ⟨t, h1, l1⟩ := ha.ex
  obtain ⟨u, h2, l2⟩ := hr.ex
  refine ⟨⟨_, pa_cons h1 h2 hs, fun S σ H ρ i P Q g h q => ?_⟩⟩
  refine l1 S σ H ρ i _ _ g h fun v d H1 j s1 hv h' => ?_
  have g1 := g.stepI s1
  refine l2 S σ H1 ρ j _ _ g1 h' fun vs sl Hb k p r s2 np hvs hp => ?_
  exact q (v :: vs) (.d d :: sl) Hb k p r (s1.trans s2) np ⟨v, vs, rfl, Dv.move (fr_new s2 g1 np) d v hv, hvs⟩ hp
theorem dslF_raw {x : Str} {p : Pos} {Fs : List Slot → ι → (List Slot → Int → ι → Prop) → Prop} (n : Nat) (hr : DSlF G es Fs) (hN : G.X.N[n]? = some x := by rfl) (hv : Vis G.X.env.scope x := by first | exact Or.inl rfl | exact Or.inr (Or.inl rfl) | exact Or.inr (Or.inr rfl)) (hd : (x == ("__debug__" : Str)) = false := by decide)
    (hcd : (x == ("__classdict__" : Str)) = false := by decide) (hs : starEach (Expr.Name x p :: es) G.X.env = (false, eval (.Name x p) G.X.env) :: starEach es G.X.env := by rfl) :
    DSlF G (.Name x p :: es) (fun ρ i P => rdRaw ρ n fun w => Fs ρ i fun xs r k => P (.raw w :: xs) r k) := by
  obtain ⟨u, h2, l2⟩ := hr.ex
  refine ⟨⟨_, pa_cons (pe_var hN hv hd hcd) h2 hs, fun S σ H ρ i P Q g h q => ?_⟩⟩
  obtain ⟨w, e, h⟩ := rdRaw_inv h
  exact ⟨w, g.slot_raw e, l2 S σ H ρ i _ _ g h fun vs sl Hb k p r s2 np hvs hp => q (w :: vs) (.raw w :: sl) Hb k p r s2 np ⟨w, vs, rfl, rfl, hvs⟩ hp⟩
theorem SlL.snoc {K : PySem.W.Frag} {s : Slot} {v : V} (h : ArgOk K S H s v) : ∀ {sl : List Slot} {vs : List V}, SlL K S H sl vs → SlL K S H (sl ++ [s]) (vs ++ [v])
  | [], _, e => by cases (e : _ = []); exact ⟨v, [], rfl, h, rfl⟩
  | s :: sl, vs, e => by
    obtain ⟨v0, r, rfl, h1, h2⟩ := (e : ∃ v r, vs = v :: r ∧ ArgOk K S H s v ∧ SlL K S H sl r)
    exact ⟨v0, r ++ [v], rfl, h1, h2.snoc h⟩
theorem dr_fnSF {st : Sta κ} {π : ι → κ} {u : ι → κ → ι} {x : Str} {k m : Nat} {ps : List Str} {C : ConS (κ × Int)} {p : Pos} {Fs : List Slot → ι → (List Slot → Int → ι → Prop) → Prop} (gs : GS G st π u) (h : CalleeS G.X.prog G.X.w G.X.K G.X.mg G.X.base x k ps C) (hr : Room m G.X.A) (ha : DSlF G (e :: es) Fs) (hk : k ≤ m := by decide) (hg : Gl G.X x := by rfl) (hdb : (x == ("__debug__" : Str)) = false := by decide)
    (he : starEach (e :: es) G.X.env = (false, eval e G.X.env) :: starEach es G.X.env := by rfl) (hpl : (backTo pos (starEach es G.X.env)).any (·.1) = false := by rfl) :
    DR G (.Call (.Name x p) (e :: es) [] pos) (fun ρ i P => Fs ρ i fun sl r j => ∀ ra, ¬ st.fp ra → C.C (staAnd st (roomSta ra)) (π j, r) (sl ++ [.raw (.ref ra)]) fun d j' => P d (u j j'.1)) := by
  obtain ⟨f, fd, F, hm, hkp, hb⟩ := h.ex
  obtain ⟨t, h, l⟩ := ha.ex
  refine ⟨⟨_, pe_call F (hr.mono hk) hg hm hkp hb .nil pass0 h hdb he hpl, fun S σ H ρ i P Q g h q => ?_⟩⟩
  refine l S σ H ρ i _ _ g h fun vs sl Hb j p r s1 np hv hp => ?_
  rw [List.append_nil]
  have g1 := g.stepI s1
  have nfp : ¬ st.fp p := fun z => by
    obtain ⟨o, e⟩ := st.dom (π j) Hb (gs.get j Hb g1.wld) p z
    rw [np] at e; cases e
  have m1 : st.M (π j) (upd Hb p (.lst [.int r])) := st.loc _ Hb _ (gs.get j Hb g1.wld) (fun a o z e => by rw [upd_ne (fun y => nfp (by rw [← y]; exact z))]; exact e) (keepX_upd fun φ z => by rw [np] at z; cases z)
  refine ⟨fun a => S a ∨ a = p, staAnd st (roomSta p), (π j, r), sl ++ [.raw (.ref p)], fun a z => ?_, fun a z => ?_, ⟨m1, upd_same⟩, hv.snoc (s := .raw (.ref p)) rfl, C.mono _ _ _ _ _ (hp p nfp) fun d j' hp v H2 e m hd => ?_⟩
  · by_cases y : a = p
    · exact ⟨_, by rw [y]; exact upd_same⟩
    · obtain ⟨o, e⟩ := g1.all a (z.resolve_right y)
      exact ⟨o, by rw [upd_ne y]; exact e⟩
  · exact z.imp (fun z => g1.sub a (gs.sub a z)) id
  · have ex : ExF st.fp Hb H2 := fun a o n q => e a o (fun z => z.elim n (ne_of_none q np)) (by rw [upd_ne (ne_of_none q np)]; exact q)
    exact q v d H2 (u j j'.1) (s1.trans (gs.stp g1.wld ex m.1)) (hd.move fun a o n e => ⟨fun z => n (.inl z), e⟩) hp
end
end DL
namespace DL
open PySem PySem.Spec PyProof.Rows L2
section
variable {G : Ctx} {S S' : Addr → Prop} {σ : L2.St} {H H' : Hp} {ρ : List Slot} {pos : Pos} {a b e : Expr} {Fa Fb F : FE}
/-- l.index(text) of a list of texts -/
def indexD (ds : List Dat) (y : Dat) (P : Dat → Prop) : Prop := isS y fun z => someD (strsOf ds) fun zs => ∃ j : Nat, zs[j]? = some z ∧ (∀ m : Nat, m < j → zs[m]? ≠ some z) ∧ P (.int (j : Nat))
theorem flat_strs' : ∀ (zs : List Str), (zs.map V.str).all flatV = true
  | [] => rfl
  | z :: zs => by rw [List.map_cons, List.all_cons, flat_strs' zs]; rfl
theorem de_index {apos cpos : Pos} (ha : DE G a Fa) (hb : DE G b Fb) (hst : starEach [b] G.X.env = (false, eval b G.X.env) :: starEach [] G.X.env := by rfl)
    (hbase : attributeBase a "index" G.X.env (eval a G.X.env) = eval a G.X.env := by rfl)
    (hfew : ((backTo cpos (starEach [b] G.X.env)).all (fun x => !x.1) && (backToKw cpos (keywordEach [] G.X.env)).all (fun x => x.1.isSome) && decide ([b].length + ([] : List Keyword).length + (if ([] : List Keyword).isEmpty then 0 else 1) < 30)) = true := by rfl)
    (hline : (apos.endLine == cpos.line) = true := by rfl) (hplain : (backTo cpos (starEach [] G.X.env)).any (·.1) = false := by rfl) :
    DE G (.Call (.Attribute a "index" apos) [b] [] cpos) (fun ρ P => Fa ρ fun x => lstD x fun ds => Fb ρ fun y => indexD ds y P) := by
  obtain ⟨ta, h1, l1⟩ := ha.ex
  obtain ⟨tb, h2, l2⟩ := hb.ex
  refine ⟨⟨_, pe_bm PySem.F.plainAttrs_list PySem.F.slot_list_index PySem.F.type_list_index mt_index h1 (pa_cons h2 pa_nil hst) hbase hfew hline hst hplain, fun S σ H ρ P Q g h q => ?_⟩⟩
  refine l1 S σ H ρ _ _ g h fun v d H1 st hv hp => ?_
  have g1 := g.step st
  cases d with
  | lst ds =>
    obtain ⟨p, xs, rfl, n, e1, hl⟩ := dv_lst hv
    refine ⟨.inl ⟨rfl, xs, .inl (.inl e1)⟩, l2 S σ H1 ρ _ _ g1 hp fun v2 d2 H2 st2 hv2 hp => ?_⟩
    obtain ⟨z, rfl, hp⟩ := isS_inv hp
    cases dv_str hv2
    obtain ⟨zs, ez, j, h1, h2, hp⟩ := someD_inv hp
    have e2 : H2 p = some (.lst xs) := st2.keep p _ (fun y => n (g1.sub p y)) e1
    have hx : xs = zs.map V.str := by
      have q := hl
      rw [strsOf_eq ez] at q
      exact q.strs
    refine ⟨p, xs, .str z, j, .str z, rfl, rfl, .inl (.inl e2), rfl, by rw [hx]; exact flat_strs' zs, by rw [hx, List.getElem?_map, h1]; rfl, (show (z == z) = true from beq_self_eq_true z), fun m z' hm hz' => ?_, q (.int (j : Nat)) (.int (j : Nat)) H2 (st.trans st2) rfl hp⟩
    rw [hx, List.getElem?_map] at hz'
    cases ey : zs[m]? with
    | none => rw [ey] at hz'; cases hz'
    | some y =>
      rw [ey] at hz'
      cases hz'
      show (y == z) = false
      refine beq_eq_false_iff_ne.mpr fun e => h2 m hm ?_
      rw [ey, e]
  | _ => exact hp.elim
end
end DL
namespace DL
open PySem PySem.Spec PyProof.Rows L2 HT
section
variable {prog : Program} {w : World} {A : Around} {E : Value → Shared → Prop} {s : Shared}
theorem rev_places (n : Nat) : Builtin.Slice.slicePlaces ((n : Int) - 1) (-1) (-1) = n := by
  unfold Builtin.Slice.slicePlaces
  rw [if_neg (show ¬ (-1 : Int) > 0 by decide)]
  by_cases h : n = 0
  · subst h; decide
  · rw [if_pos (show (n : Int) - 1 > -1 by omega), show (-(-1) : Int) = 1 by decide, Int.ediv_one]
    omega
theorem rev_adjust (n : Nat) : Builtin.Slice.sliceAdjust none none (-1) (n : Int) = ((n : Int) - 1, -1) := by
  rfl
theorem rev_applied {sl : Addr} {vk : Value} {n : Nat} {Q : Int × Int × Nat → Shared → Prop} (hs : s.heap.IsSliceOf sl .none .none vk) (pk : IsPart vk (some (-1))) (h : Q ((n : Int) - 1, -1, n) s) : wpAny (model prog w) A (Builtin.Slice.sliceApplied (.ref sl) (pure (n : Int))) Q E s := by
  obtain ⟨ob, hob, hcb, hdb⟩ := id hs
  unfold Builtin.Slice.sliceApplied Builtin.Slice.sliceFields
  refine wpAny_bind (wpAny_bind (wpAny_field hob hdb (x := .none) rfl (wpAny_bind (wpAny_field hob hdb (x := .none) rfl (wpAny_bind (wpAny_field hob hdb (x := vk) rfl (wpAny_pure ?_)))))))
  refine wpAny_bind (slicePart_ pk ?_)
  show wpAny _ _ (if ((-1 : Int) == 0) = true then _ else _) Q E s
  rw [if_neg (show ¬ ((-1 : Int) == 0) = true by decide)]
  refine wpAny_bind (slicePart_none (wpAny_bind (slicePart_none (wpAny_bind (wpAny_pure ?_)))))
  show wpAny _ _ (match Builtin.Slice.sliceAdjust none none (-1) (n : Int) with | (lo, hi) => pure (lo, (-1 : Int), Builtin.Slice.slicePlaces lo hi (-1))) Q E s
  rw [rev_adjust n]
  show wpAny _ _ (pure ((n : Int) - 1, (-1 : Int), Builtin.Slice.slicePlaces ((n : Int) - 1) (-1) (-1))) Q E s
  rw [rev_places]
  exact wpAny_pure h
theorem fm_congr {α β : Type} {f g : α → Option β} : ∀ {l : List α}, (∀ k ∈ l, f k = g k) → l.filterMap f = l.filterMap g
  | [], _ => rfl
  | a :: l, h => by
    rw [List.filterMap_cons, List.filterMap_cons, h a List.mem_cons_self, fm_congr fun k hk => h k (List.mem_cons_of_mem _ hk)]
theorem rev_pick (items : Array Value) : (List.range items.size).filterMap (fun (k : Nat) => items[((items.size : Int) - 1 + (k : Int) * -1).toNat]?) = items.toList.reverse := by
  have h1 : (List.range items.size).filterMap (fun (k : Nat) => items[((items.size : Int) - 1 + (k : Int) * -1).toNat]?) = ((List.range items.size).map fun k => items.size - 1 - k).filterMap (items[·]?) := by
    rw [List.filterMap_map]
    refine fm_congr fun k hk => ?_
    have hk' := List.mem_range.mp hk
    have e : ((items.size : Int) - 1 + (k : Int) * -1).toNat = items.size - 1 - k := by omega
    show items[_]? = items[items.size - 1 - k]?
    rw [e]
  rw [h1, PySem.W.krv_range, List.filterMap_reverse, PySem.W.krv_all]
/-- t[::-1] of a tuple -/
theorem getItem_rev {t sl : Addr} {items : Array Value} {vk : Value} {Q : Value → Shared → Prop} (hT : IsTup s.heap t items) (hS : s.heap.IsSliceOf sl .none .none vk) (pk : IsPart vk (some (-1)))
    (h : Q (.ref s.heap.objs.size) { s with heap := s.heap.push { cls := .type "tuple", data := .seq items.toList.reverse.toArray } }) (hz : items.size ≤ sizeLine) : wpAny (model prog w) A (getItem (.ref t) (.ref sl)) Q E s := by
  have okR : sizeOk (.seq items.toList.reverse.toArray) := by
    show items.toList.reverse.toArray.size ≤ sizeLine
    simpa using hz
  obtain ⟨ob, hob, hcb, hdb⟩ := id hS
  have isS : s.TypeIs (.ref sl) "slice" := ⟨ob, hob, hcb⟩
  unfold getItem
  try with_reducible refine wpAny_holding ?_
  first | refine wpAny_bind (wpAny_pure ?_) | skip
  refine wpAny_bind (wpAny_sequenceKey hT.typeIs (show _ from by decide) ?_)
  refine wpAny_bind (wpAny_callSpecial?_slot (name := Str.ofString "__getitem__") hT.typeIs PyProof.Rows.slot_tuple_getitem (wpAny_call_entry PyProof.Rows.slot_tuple_getitem hT.typeIs entry_tuple_getitem ?_ (args_tuple_getitem _ _)))
  refine (show wpAny _ _ (Builtin.Tuple.tupleItemsOf (.ref t) >>= _) _ _ s from wpAny_bind (tupleItemsOf_ hT ?_))
  refine wpAny_bind (wpAny_typeOf isS ?_)
  rw [if_pos (by decide)]
  refine wpAny_bind (rev_applied (n := items.size) hS pk ?_)
  refine (show wpAny _ _ (if (((items.size : Int) - 1 == 0) && ((-1 : Int) == 1) && (items.size == items.size)) = true then _ else _) _ _ s from ?_)
  rw [if_neg (by simp), rev_pick]
  exact wpAny_bind (m := Builtin.Tuple.tupleExact _) (wpAny_newObj_type (wpAny_pure ⟨_, rfl, wpAny_pure h⟩) okR)
end
section
variable {X : Cx} {e : Expr} {te : TE} {p1 p2 p3 pos : Pos} {z : Nat}
theorem pe_revT (he : PE X e te) : PE X (.Subscript e (.Slice none none (some (.UnaryOp .USub (.Constant (.int 1) z p1) p2)) p3) pos) (fun σ H Q => te σ H fun x H1 => ∃ a xs, x = .ref a ∧ SqT X.K H1 a xs ∧ ∀ p, H1 p = none → Q (.ref p) (upd H1 p (.tup xs.reverse))) := by
  refine ⟨fun pins s σ H Q I h => ?_⟩
  refine Subscript_ (thn (he.run pins s σ H _ I h) fun v s1 ⟨x, H1, I1, r1, q1⟩ => ?_)
  obtain ⟨a, xs, rfl, hx, q⟩ := q1
  cases r1
  obtain ⟨its, rv, hT, hz⟩ := I1.tuple hx
  refine wpAny_Slice ?_
  rw [evalPart_none]
  refine wpAny_pure ?_
  refine wpAny_pure ?_
  rw [evalPart_some]
  refine thn ((pe_un un_neg pe_int).run pins s1 σ H1 (fun v H2 => v = .int (-1) ∧ H2 = H1) I1 ⟨1, rfl, rfl, rfl⟩) fun u s2 ⟨y, H2, I2, r2, q2⟩ => ?_
  obtain ⟨rfl, rfl⟩ := q2
  obtain ⟨t, rfl⟩ := r2
  have I3 : Inv X pins σ H2 { s2 with heap := s2.heap.push { cls := .type "slice", data := .fields #[.none, .none, .int (-1) t] } } := I2.kept (t' := s2.toks) fun b ob q => Heap.get?_push_of_some _ q
  obtain ⟨its, rv, hT, hz⟩ := I3.tuple hx
  refine (show wpAny (model X.prog X.w) X.A (subscriptTail e (.Slice none none (some (.UnaryOp .USub (.Constant (.int 1) z p1) p2)) p3) (.ref a) (.ref s2.heap.objs.size)) (EP X pins σ Q) X.xe { s2 with heap := s2.heap.push { cls := .type "slice", data := .fields #[.none, .none, .int (-1) t] } } from ?_)
  refine tail_any (ops := [.ref a, .ref s2.heap.objs.size]) hT.typeIs PyProof.Rows.slot_tuple_getitem.lookup (getItem_rev hT (Heap.IsSliceOf.new ..) (.int (-1) t) ?_ (by rw [List.size_toArray, ← rv.length]; exact hz)) (by with_unfolding_all rfl)
  have hl : its.length ≤ sizeLine := by rw [← rv.length]; exact hz
  refine ⟨.ref (s2.heap.push { cls := .type "slice", data := .fields #[.none, .none, .int (-1) t] }).objs.size, _, I3.laid (t' := s2.toks) (o := .tup xs.reverse) (fun b ob q => Heap.get?_push_of_some _ q) (Nat.le_refl _) ?_, rfl, q _ (I3.hok.fresh (Nat.le_refl _))⟩
  exact ⟨by rw [List.length_reverse, rv.length]; exact hl, _, rv.reverse, IsTup.new _ _⟩
end
def tupD1 (d : Dat) (P : List Dat → Prop) : Prop := match d with
  | .tup ds => P ds
  | _ => False
section
variable {G : Ctx} {S : Addr → Prop} {σ : L2.St} {H : Hp} {ρ : List Slot} {a : Expr} {Fa : FE} {p1 p2 p3 pos : Pos} {z : Nat}
theorem DvL.rev {K : PySem.W.Frag} : ∀ {ds : List Dat} {vs : List V}, DvL K S H ds vs → DvL K S H ds.reverse vs.reverse
  | [], _, e => by cases (e : _ = []); rfl
  | d :: ds, vs, e => by
    obtain ⟨v, r, rfl, h1, h2⟩ := (e : ∃ v r, vs = v :: r ∧ Dv K S H d v ∧ DvL K S H ds r)
    rw [List.reverse_cons, List.reverse_cons]
    exact h2.rev.append ⟨v, [], rfl, h1, rfl⟩
theorem de_revT (ha : DE G a Fa) : DE G (.Subscript a (.Slice none none (some (.UnaryOp .USub (.Constant (.int 1) z p1) p2)) p3) pos) (fun ρ P => Fa ρ fun x => tupD1 x fun ds => P (.tup ds.reverse)) := by
  obtain ⟨t, h, l⟩ := ha.ex
  refine ⟨⟨_, pe_revT h, fun S σ H ρ P Q g h q => ?_⟩⟩
  refine l S σ H ρ _ _ g h fun v d H1 st hv hp => ?_
  cases d with
  | tup ds =>
    obtain ⟨p, xs, rfl, e1, hl⟩ := dv_tup hv
    exact ⟨p, xs, rfl, sqT_of e1, new_tup (g.step st) hl.rev hp fun v d H2 s2 => q v d H2 (st.trans s2)⟩
  | _ => exact hp.elim
end
end DL
namespace DL
open PySem PySem.Spec PyProof.Rows L2
/-! ### a def that is handed a dict, which it fills and hands back -/
structure ConO where
  C : Dat → List (Key × Dat) → (List (Key × Dat) → Prop) → Prop
  mono : ∀ d l P P', C d l P → (∀ l', P l' → P' l') → C d l P'
def spO (K : PySem.W.Frag) (C : ConO) : Sp := fun vs H Q E => ∃ (S : Addr → Prop) (p : Addr) (kvs : List (Key × V)) (l : List (Key × Dat)) (d : Dat) (v : V), (∀ a, S a → ∃ o, H a = some o) ∧ S p ∧ vs = [v, .ref p] ∧ Dv K S H d v ∧ H p = some (.dK kvs) ∧ RelP K S H kvs l ∧
  C.C d l fun l' => ∀ (kvs' : List (Key × V)) (H' : Hp), (∀ a o, a ≠ p → H a = some o → H' a = some o) → H' p = some (.dK kvs') → RelP K S H' kvs' l' → Q (.ref p) H'
structure CalleeO (P : Program) (w : World) (K : PySem.W.Frag) (mg : Str → Option Value) (base : Heap) (x : Str) (k : Nat) (ps : List Str) (C : ConO) : Prop where
  ex : ∃ f fd, FnOk P w K mg base CX0 k f fd ps (spO K C) ∧ mg x = some (.ref f) ∧ PySem.W.keepIn K (.ref f) = true ∧ Binds K fd ps []
end DL
namespace DL
open PySem PySem.Spec PyProof.Rows L2
/-! ### lists that are new, by the callee's promise over any scratch -/
mutual
def noLst : Dat → Bool
  | .lst _ => false
  | .dic _ _ => false
  | .tup ds => noLsts ds
  | _ => true
def noLsts : List Dat → Bool
  | [] => true
  | d :: ds => noLst d && noLsts ds
end
section
variable {K : PySem.W.Frag} {S S' : Addr → Prop} {H : Hp}
mutual
theorem noLst_dv (h : ∀ a xs, ¬ S a → H a = some (.tup xs) → ¬ S' a) : ∀ (d : Dat) (v : V), noLst d = true → Dv K S H d v → Dv K S' H d v
  | .non, _, _, e => e
  | .bl _, _, _, e => e
  | .int _, _, _, e => e
  | .str _, _, _, e => e
  | .tup ds, v, n, e => by
    obtain ⟨a, xs, rfl, h1, h2⟩ := (e : ∃ a xs, v = .ref a ∧ ((¬ S a ∧ H a = some (.tup xs)) ∨ WrT K a xs) ∧ DvL K S H ds xs)
    rw [noLst] at n
    exact ⟨a, xs, rfl, h1.imp (fun z => ⟨h a xs z.1 z.2, z.2⟩) id, noLst_dvl h ds xs n h2⟩
  | .lst ds, v, n, e => by rw [noLst] at n; cases n
  | .dic ks ds, v, n, e => by rw [noLst] at n; cases n
theorem noLst_dvl (h : ∀ a xs, ¬ S a → H a = some (.tup xs) → ¬ S' a) : ∀ (ds : List Dat) (vs : List V), noLsts ds = true → DvL K S H ds vs → DvL K S' H ds vs
  | [], _, _, e => e
  | d :: ds, vs, n, e => by
    obtain ⟨v, r, rfl, h1, h2⟩ := (e : ∃ v r, vs = v :: r ∧ Dv K S H d v ∧ DvL K S H ds r)
    rw [noLsts, Bool.and_eq_true] at n
    exact ⟨v, r, rfl, noLst_dv h d v n.1 h1, noLst_dvl h ds r n.2 h2⟩
end
end
section
variable {G : Ctx} {S : Addr → Prop} {σ : L2.St} {H H' : Hp} {ρ : List Slot} {pos : Pos} {a e : Expr} {Fa F : FE}
/-- an expression that tells a new list -/
structure DN (G : Ctx) (e : Expr) (F : List Slot → (List Dat → Prop) → Prop) : Prop where
  ex : ∃ t, PE G.X e t ∧ ∀ S σ H ρ P (Q : VK), Gd G S σ H ρ → F ρ P → (∀ p xs ds H', Stp G H H' → H p = none → H' p = some (.lst xs) → DvL G.X.K S H' ds xs → P ds → Q (.ref p) H') → t σ H Q
theorem dn_fnX0 {x : Str} {k m : Nat} {ps : List Str} {C : Con} {p : Pos} (h : CalleeX G.X.prog G.X.w G.X.K G.X.mg G.X.base x k ps C) (hr : Room m G.X.A) (ha : DE G a Fa) (hk : k ≤ m := by decide) (hg : Gl G.X x := by rfl) (hdb : (x == ("__debug__" : Str)) = false := by decide)
    (he : starEach [a] G.X.env = (false, eval a G.X.env) :: starEach [] G.X.env := by rfl) (hpl : (backTo pos (starEach [] G.X.env)).any (·.1) = false := by rfl) :
    DN G (.Call (.Name x p) [a] [] pos) (fun ρ P => Fa ρ fun d => noLst d = true ∧ C.C [d] (fun r => ∃ ds, r = .lst ds ∧ P ds) (fun _ => False)) := by
  obtain ⟨f, fd, F, hm, hkp, hb⟩ := h.ex
  obtain ⟨t, h, l⟩ := ha.ex
  refine ⟨⟨_, pe_call F (hr.mono hk) hg hm hkp hb .nil passL (pa_cons h pa_nil he) hdb he hpl, fun S σ H ρ P Q g h q => ?_⟩⟩
  refine l S σ H ρ _ _ g h fun v d H1 st hv ⟨hn, hp⟩ => ?_
  show spD G.X.K C ([v] ++ []) H1 Q E0
  have g1 := g.step st
  refine ⟨fun b => S b ∨ ∃ o, H1 b = some o ∧ ∀ xs, o ≠ .tup xs, [d], fun b hb => ?_, ⟨v, [], rfl, noLst_dv (fun b xs n e z => ?_) d v hn hv, rfl⟩, C.mono _ _ _ _ _ hp (fun r ⟨ds, er, hp⟩ v' H2 ex hd => ?_) fun _ z => z.elim⟩
  · rcases hb with hb | ⟨o, e, _⟩
    · exact g1.all b hb
    · exact ⟨o, e⟩
  · rcases z with z | ⟨o, e2, n2⟩
    · exact n z
    · rw [e] at e2; cases e2; exact n2 xs rfl
  · subst er
    obtain ⟨b, xs, rfl, nb, eb, hl⟩ := dv_lst hd
    have fresh : H1 b = none := by
      cases e : H1 b with
      | none => rfl
      | some o =>
        by_cases z : ∃ ys, o = .tup ys
        · obtain ⟨ys, rfl⟩ := z
          have e2 := ex b _ e
          rw [eb] at e2; cases e2
        · exact (nb (.inr ⟨o, e, fun ys ey => z ⟨ys, ey⟩⟩)).elim
    have fresh0 : H b = none := by
      cases e : H b with
      | none => rfl
      | some o =>
        obtain ⟨o', e'⟩ := st.has b o e
        rw [fresh] at e'; cases e'
    exact q b xs ds H2 (st.trans (Stp.ex g1.wld ex)) fresh0 eb (hl.move fun c o n e => ⟨fun z => n (.inl z), e⟩) hp
/-- a def that fills a dict and hands it back, of a new one -/
theorem de_fnO {x : Str} {k m : Nat} {ps : List Str} {C : ConO} {p dp : Pos} (h : CalleeO G.X.prog G.X.w G.X.K G.X.mg G.X.base x k ps C) (hr : Room m G.X.A) (ha : DE G a Fa) (hk : k ≤ m := by decide) (hg : Gl G.X x := by rfl) (hdb : (x == ("__debug__" : Str)) = false := by decide)
    (he : starEach [a, .Dict [] [] dp] G.X.env = (false, eval a G.X.env) :: starEach [.Dict [] [] dp] G.X.env := by rfl) (he2 : starEach [Expr.Dict [] [] dp] G.X.env = (false, eval (.Dict [] [] dp) G.X.env) :: starEach [] G.X.env := by rfl) (hpl : (backTo pos (starEach [.Dict [] [] dp] G.X.env)).any (·.1) = false := by rfl) :
    DE G (.Call (.Name x p) [a, .Dict [] [] dp] [] pos) (fun ρ P => Fa ρ fun d => C.C d [] fun l => P (dicP l)) := by
  obtain ⟨f, fd, F, hm, hkp, hb⟩ := h.ex
  obtain ⟨t, h, l⟩ := ha.ex
  refine ⟨⟨_, pe_call F (hr.mono hk) hg hm hkp hb .nil pass0 (pa_cons h (pa_cons pe_dnewK pa_nil he2) he) hdb he hpl, fun S σ H ρ P Q g h q => ?_⟩⟩
  refine l S σ H ρ _ _ g h fun v d H1 st hv hp => fun b nb => ?_
  have g1 := g.step st
  have mv : ∀ c o, ¬ S c → H1 c = some o → ¬ (S c ∨ c = b) ∧ upd H1 b (.dK []) c = some o := fun c o n e => ⟨fun z => z.elim n (ne_of_none e nb), by rw [upd_ne (ne_of_none e nb)]; exact e⟩
  refine ⟨fun c => S c ∨ c = b, b, [], [], d, v, fun c hc => ?_, .inr rfl, rfl, hv.move mv, upd_same, ⟨rfl, rfl⟩, C.mono _ _ _ _ hp fun l hp kvs' H2 keep hb' rel => ?_⟩
  · by_cases z : c = b
    · exact ⟨_, by rw [z]; exact upd_same⟩
    · obtain ⟨o, e⟩ := g1.all c (hc.resolve_right z)
      exact ⟨o, by rw [upd_ne z]; exact e⟩
  · have ex : Evl.Ex H1 H2 := fun c o e => keep c o (ne_of_none e nb) (by rw [upd_ne (ne_of_none e nb)]; exact e)
    exact q _ (dicP l) H2 (st.trans (Stp.ex g1.wld ex)) ⟨b, kvs', rfl, g1.fresh nb, hb', rel.1, rel.2.move fun c o n e => ⟨fun z => n (.inl z), e⟩⟩ hp
/-- name = [new list, new list]; if test: ..; name[0].append(text); name[1].append(text); the rest goes on without the name -/
theorem db_two {x : Str} {np : Pos} {e1 e2 c : Expr} {sa rest : List Stmt} {F1 F2 : List Slot → (List Dat → Prop) → Prop} {Fc : FT} {Fs Fr' : FS} {lp ap0 cp0 ap1 cp1 ip0 ip1 nq0 nq1 ep0 ep1 ipos zp0 zp1 tp0 tp1 : Pos} {z0 z1 w0 w1} {m0 m1 : Str} (i : Nat)
    (h1 : DN G e1 F1) (h2 : DN G e2 F2) (hc : DT G c Fc) (hs : DB G sa Fs) (hr : DB G rest Fr') (hN : G.X.N.Nodup) (hi : G.X.N[i]? = some x := by rfl) (hx : Loc G.X.env.scope x := by first | exact Or.inl rfl | exact Or.inr rfl) (hv : Vis G.X.env.scope x := by first | exact Or.inl rfl | exact Or.inr (Or.inl rfl) | exact Or.inr (Or.inr rfl)) (hd : (x == ("__debug__" : Str)) = false := by decide)
    (hcd : (x == ("__classdict__" : Str)) = false := by decide) (hsw : swapsWith (.List [e1, e2] lp) (some (.Name x np)) pos.line G.X.env = pure false := by rfl) (hf : G.X.fn x = true ∨ G.X.env.scope.names.lookup x = some .local := by first | exact .inl rfl | exact .inr rfl)
    (hst : starEach [e1, e2] G.X.env = (false, eval e1 G.X.env) :: starEach [e2] G.X.env := by rfl) (hst2 : starEach [e2] G.X.env = (false, eval e2 G.X.env) :: starEach [] G.X.env := by rfl)
    (hpx0 : PlainIx (Expr.Constant (.int 0) z0 zp0) := by exact fun _ _ => rfl) (hpx1 : PlainIx (Expr.Constant (.int 1) z1 zp1) := by exact fun _ _ => rfl)
    (hb0 : attributeBase (.Subscript (.Name x nq0) (.Constant (.int 0) z0 zp0) ip0) "append" G.X.env (eval (.Subscript (.Name x nq0) (.Constant (.int 0) z0 zp0) ip0) G.X.env) = eval (.Subscript (.Name x nq0) (.Constant (.int 0) z0 zp0) ip0) G.X.env := by rfl)
    (hb1 : attributeBase (.Subscript (.Name x nq1) (.Constant (.int 1) z1 zp1) ip1) "append" G.X.env (eval (.Subscript (.Name x nq1) (.Constant (.int 1) z1 zp1) ip1) G.X.env) = eval (.Subscript (.Name x nq1) (.Constant (.int 1) z1 zp1) ip1) G.X.env := by rfl)
    (hfew0 : ((backTo cp0 (starEach [Expr.Constant (.str m0) w0 tp0] G.X.env)).all (fun x => !x.1) && (backToKw cp0 (keywordEach [] G.X.env)).all (fun x => x.1.isSome) && decide ([Expr.Constant (.str m0) w0 tp0].length + ([] : List Keyword).length + (if ([] : List Keyword).isEmpty then 0 else 1) < 30)) = true := by rfl)
    (hfew1 : ((backTo cp1 (starEach [Expr.Constant (.str m1) w1 tp1] G.X.env)).all (fun x => !x.1) && (backToKw cp1 (keywordEach [] G.X.env)).all (fun x => x.1.isSome) && decide ([Expr.Constant (.str m1) w1 tp1].length + ([] : List Keyword).length + (if ([] : List Keyword).isEmpty then 0 else 1) < 30)) = true := by rfl)
    (hl0 : (ap0.endLine == cp0.line) = true := by rfl) (hl1 : (ap1.endLine == cp1.line) = true := by rfl) (hp0 : (backTo cp0 (starEach [] G.X.env)).any (·.1) = false := by rfl) (hp1 : (backTo cp1 (starEach [] G.X.env)).any (·.1) = false := by rfl)
    (hes0 : starEach [Expr.Constant (.str m0) w0 tp0] G.X.env = (false, eval (.Constant (.str m0) w0 tp0) G.X.env) :: starEach [] G.X.env := by rfl) (hes1 : starEach [Expr.Constant (.str m1) w1 tp1] G.X.env = (false, eval (.Constant (.str m1) w1 tp1) G.X.env) :: starEach [] G.X.env := by rfl)
    (hsx0 : swapsWith (.Call (.Attribute (.Subscript (.Name x nq0) (.Constant (.int 0) z0 zp0) ip0) "append" ap0) [.Constant (.str m0) w0 tp0] [] cp0) none ep0.line G.X.env = pure false := by rfl)
    (hsx1 : swapsWith (.Call (.Attribute (.Subscript (.Name x nq1) (.Constant (.int 1) z1 zp1) ip1) "append" ap1) [.Constant (.str m1) w1 tp1] [] cp1) none ep1.line G.X.env = pure false := by rfl) :
    DB G (.Assign [.Name x np] (.List [e1, e2] lp) pos :: .If c sa [] ipos :: .Expr (.Call (.Attribute (.Subscript (.Name x nq0) (.Constant (.int 0) z0 zp0) ip0) "append" ap0) [.Constant (.str m0) w0 tp0] [] cp0) ep0 ::
        .Expr (.Call (.Attribute (.Subscript (.Name x nq1) (.Constant (.int 1) z1 zp1) ip1) "append" ap1) [.Constant (.str m1) w1 tp1] [] cp1) ep1 :: rest)
      (fun D ρ => F1 ρ fun xs => F2 ρ fun ys => xs.length < sizeLine ∧ ys.length < sizeLine ∧ i < ρ.length ∧ ∃ Pc : Bool → Prop, Fc (ρ.set i (.d (.lst [.lst xs, .lst ys]))) Pc ∧ (Pc true → Fs { D with nx := fun _ => False } (ρ.set i (.d (.lst [.lst xs, .lst ys])))) ∧ (Pc false → Fr' D (ρ.set i .un))) := by
  obtain ⟨t1, p1, l1⟩ := h1.ex
  obtain ⟨t2, p2, l2⟩ := h2.ex
  obtain ⟨tc, pc, lc⟩ := hc.ex
  obtain ⟨ts, pss, ls⟩ := hs.ex
  obtain ⟨tr, pr, lr⟩ := hr.ex
  refine ⟨⟨_, pss_cons (ps_set (i := i) hN hi hx (pe_lst (pa_cons p1 (pa_cons p2 pa_nil hst2) hst)) hsw hf) (pss_cons (ps_if pc pss pss_nil)
    (pss_cons (ps_expr (pe_bm PySem.F.plainAttrs_list PySem.F.slot_list_append PySem.F.type_list_append mt_append (pe_ix ix_list (pe_var hi hv hd hcd) pe_int hpx0) (pa_cons pe_str pa_nil hes0) hb0 hfew0 hl0 hes0 hp0) hsx0)
    (pss_cons (ps_expr (pe_bm PySem.F.plainAttrs_list PySem.F.slot_list_append PySem.F.type_list_append mt_append (pe_ix ix_list (pe_var hi hv hd hcd) pe_int hpx1) (pa_cons pe_str pa_nil hes1) hb1 hfew1 hl1 hes1 hp1) hsx1) pr))), fun S σ H ρ D Dh g h q => ?_⟩⟩
  refine l1 S σ H ρ _ _ g h fun a0 us xs H1 s1 n0 e0 d0 h => ?_
  have g1 := g.step s1
  refine l2 S σ H1 ρ _ _ g1 h fun a1 ws ys H2 s2 n1 e1 d1 ⟨hlx, hly, hil, Pc, h, hyes, hno⟩ => ?_
  have g2 := g1.step s2
  have ns0 : ¬ S a0 := g.fresh n0
  have ns1 : ¬ S a1 := g1.fresh n1
  have n1' : H a1 = none := by
    cases f : H a1 with
    | none => rfl
    | some o =>
      obtain ⟨o', f'⟩ := s1.has a1 o f
      rw [n1] at f'; cases f'
  have ne01 : a1 ≠ a0 := fun z => by rw [z, e0] at n1; cases n1
  have e0' : H2 a0 = some (.lst us) := s2.keep a0 _ (fun z => ns0 (g.sub a0 z)) e0
  have d0' := s2.dvl g1 d0
  refine ⟨show 2 ≤ sizeLine by decide, fun a na => ?_⟩
  have st3 : Stp G H2 (upd H2 a (.lst [.ref a0, .ref a1])) := Stp.new g2.wld na
  have g3 := g2.step st3
  have na0 : a0 ≠ a := ne_of_none e0' na
  have na1 : a1 ≠ a := ne_of_none e1 na
  have e0b : upd H2 a (.lst [.ref a0, .ref a1]) a0 = some (.lst us) := by rw [upd_ne na0]; exact e0'
  have e1b : upd H2 a (.lst [.ref a0, .ref a1]) a1 = some (.lst ws) := by rw [upd_ne na1]; exact e1
  have dv : Dv G.X.K S (upd H2 a (.lst [.ref a0, .ref a1])) (.lst [.lst xs, .lst ys]) (.ref a) :=
    ⟨a, _, rfl, g2.fresh na, upd_same, _, _, rfl, ⟨a0, us, rfl, ns0, e0b, st3.dvl g2 d0'⟩, _, _, rfl, ⟨a1, ws, rfl, ns1, e1b, st3.dvl g2 d1⟩, rfl⟩
  have g4 := g3.set (i := i) dv
  have s0123 := (s1.trans s2).trans st3
  refine lc S _ _ _ _ _ g4 h fun b H4 s4 hp => ?_
  have g5 := g4.step s4
  have s5 := s0123.trans s4
  cases b with
  | true => exact ls S _ H4 _ _ _ g5 (hyes hp) ⟨fun _ _ _ _ _ _ z => z.elim, q.rt, fun S' σ' H' ρ' g' f => q.bk S' σ' H' ρ' g' (Fr.trans (s5.fr g) f), fun S' σ' H' ρ' g' f => q.ct S' σ' H' ρ' g' (Fr.trans (s5.fr g) f)⟩
  | false =>
    have k4 : ∀ b o, ¬ S b → upd H2 a (.lst [.ref a0, .ref a1]) b = some o → H4 b = some o := fun b o n e => s4.keep b o (fun z => n (g.sub b z)) e
    have ea : H4 a = some (.lst [.ref a0, .ref a1]) := k4 a _ (g2.fresh na) upd_same
    have ea0 : H4 a0 = some (.lst us) := k4 a0 _ ns0 e0b
    have ea1 : H4 a1 = some (.lst ws) := k4 a1 _ ns1 e1b
    have hl := g.len
    have ev : (σ.set i (some (.ref a)))[i]? = some (some (V.ref a)) := by rw [List.getElem?_set_self (by omega)]
    refine ⟨.ref a, ev, a, [.ref a0, .ref a1], 0, .ref a0, rfl, rfl, .inl (.inl ea), rfl, .inl ⟨rfl, us, .inl (.inl ea0)⟩, a0, us, .str m0, rfl, rfl, ea0, by rw [d0.len]; exact hlx, ?_⟩
    have n0a : a ≠ a0 := fun z => na0 z.symm
    have n1a : a ≠ a1 := fun z => na1 z.symm
    refine ⟨.ref a, ev, a, [.ref a0, .ref a1], 1, .ref a1, rfl, rfl, .inl (.inl (by rw [upd_ne n0a]; exact ea)), rfl, .inl ⟨rfl, ws, .inl (.inl (by rw [upd_ne ne01]; exact ea1))⟩, a1, ws, .str m1, rfl, rfl, by rw [upd_ne ne01]; exact ea1, by rw [d1.len]; exact hly, ?_⟩
    have s6 : Stp G H (upd (upd H4 a0 (.lst (us ++ [.str m0]))) a1 (.lst (ws ++ [.str m1]))) := by
      refine ⟨G.clo H4 _ s5.wld (fun b u u0 f f' => ?_) (fun b φ f => by rw [upd_ne (fun z => by rw [z, ea1] at f; cases f), upd_ne (fun z => by rw [z, ea0] at f; cases f)]; exact f), fun b u n f => ?_, fun b u f => ?_⟩
      · obtain ⟨o, fo⟩ := G.top H g.wld b u0 f
        rw [upd_ne (fun z => by rw [z] at fo; rw [n1'] at fo; cases fo), upd_ne (ne_of_none fo n0)]; exact f'
      · rw [upd_ne (ne_of_none f n1'), upd_ne (ne_of_none f n0)]; exact s5.keep b u n f
      · rw [upd_ne (ne_of_none f n1'), upd_ne (ne_of_none f n0)]; exact s5.has b u f
    exact lr S _ _ _ D Dh (g.step s6 |>.wipe) (hno hp) (q.from (s6.fr g))
end
end DL
namespace DL
open PySem PySem.Spec PyProof.Rows L2
/-! ### defs that are handed a state, called where no repr is under way -/
theorem fn_pureSG {κ : Type} {P : Program} {w : World} {K : PySem.W.Frag} {mg : Str → Option Value} {base : Heap} {x qual : Str} {stm : Stmt} {f : Addr} {fd : FuncData} {N ps : List Str} {k : Nat} {C : ConS κ} (F : Fun K x qual stm f fd) (Sc : FnScope N ps (defScope stm)) (len : ∀ st i sl P, C.C st i sl P → sl.length = ps.length)
    (hbody : ∀ (cdv : Value) (A : Around) (outer : List Env) (s : Shared) (H : Hp) (S : Addr → Prop) (hS : ∀ a, S a → ∃ o, H a = some o) (st : Sta κ) (i0 : κ) (h0 : st.M i0 H), A.guards = some [] → (∀ a, st.fp a → S a) → Room k (A.deeper (envOfC qual (defScope stm) s.heap.objs.size f cdv)) → ∀ sl R, C.C st i0 sl R →
      ∃ T, DBR (famS P w K mg base N qual (defScope stm) f cdv A outer s H S hS st i0 h0) (defBody stm) T ∧ T { nx := fun _ => R .non, rt := R } (startS N.length sl) i0) : FnG P w K mg base CX0 (k + 1) f fd ps (spS K C) := by
  have hpl : ps.length ≤ N.length := by have := congrArg List.length Sc.pre; rw [List.length_take] at this; omega
  obtain ⟨oc, od, kV, doc, pm, an, cdv, ct, osl, rfl, lk, hcd⟩ := F.ex
  refine fnG_of lk hcd Sc (fun vs H Q E ⟨S, st, i, sl, _, _, _, hv, hc⟩ => by rw [hv.len]; exact len _ _ _ _ hc) fun A outer s H vs Q E hgd hr h => ?_
  obtain ⟨S, st, i, sl, hS, hf, h0, hv, hc⟩ := h
  obtain ⟨T, ⟨t, hp, l⟩, hT⟩ := hbody cdv A outer s H S hS st i h0 hgd hf hr sl _ hc
  refine ⟨t, hp.nox, ?_⟩
  refine l S _ H (startS N.length sl) i _ _ (gd_startS (G := (famS P w K mg base N qual (defScope stm) f cdv A outer s H S hS st i h0).at i) ⟨ExF.refl _ _, h0⟩ hS hv (by rw [len _ _ _ _ hc]; exact hpl)) hT ?_
  exact ⟨fun S' σ' H' ρ' j g fr q => q .non H' g.wld.1 g.wld.2 rfl, fun v d H' j hw hv q => q v H' hw.1 hw.2 hv, fun _ _ _ _ _ _ _ z => z.elim, fun _ _ _ _ _ _ _ z => z.elim⟩
structure CalleeSG {κ : Type} (P : Program) (w : World) (K : PySem.W.Frag) (mg : Str → Option Value) (base : Heap) (x : Str) (k : Nat) (ps : List Str) (C : ConS κ) : Prop where
  ex : ∃ f fd, FnG P w K mg base CX0 k f fd ps (spS K C) ∧ mg x = some (.ref f) ∧ PySem.W.keepIn K (.ref f) = true ∧ Binds K fd ps []
section
variable {ι κ : Type} {G : Fam ι} {S S' : Addr → Prop} {σ : L2.St} {H H' H2 : Hp} {ρ : List Slot} {pos : Pos} {a b c e : Expr} {es rest : List Expr} {Fa Fb : FR ι} {st : Stmt} {sts : List Stmt}
theorem dr_fnSG {st : Sta κ} {π : ι → κ} {u : ι → κ → ι} {x : Str} {k m : Nat} {ps : List Str} {C : ConS κ} {p : Pos} {Fs : FSR' ι} (gs : GS G st π u) (h : CalleeSG G.X.prog G.X.w G.X.K G.X.mg G.X.base x k ps C) (hr : Room m G.X.A) (hgd : G.X.A.guards = some []) (ha : DSl G (e :: es) Fs) (hk : k ≤ m := by decide) (hg : Gl G.X x := by rfl) (hdb : (x == ("__debug__" : Str)) = false := by decide)
    (he : starEach (e :: es) G.X.env = (false, eval e G.X.env) :: starEach es G.X.env := by rfl) (hpl : (backTo pos (starEach es G.X.env)).any (·.1) = false := by rfl) :
    DR G (.Call (.Name x p) (e :: es) [] pos) (fun ρ i P => Fs ρ i fun sl j => C.C st (π j) sl fun d j' => P d (u j j')) := by
  obtain ⟨f, fd, F, hm, hkp, hb⟩ := h.ex
  obtain ⟨t, h, l⟩ := ha.ex
  refine ⟨⟨_, pe_callG F (hr.mono hk) hgd hg hm hkp hb pass0 h hdb he hpl, fun S σ H ρ i P Q g h q => ?_⟩⟩
  refine l S σ H ρ i _ _ g h fun vs sl H1 j s1 hv hp => ?_
  rw [List.append_nil]
  have g1 := g.stepI s1
  refine ⟨S, st, π j, sl, g1.all, fun a z => g1.sub a (gs.sub a z), gs.get j H1 g1.wld, hv, C.mono _ _ _ _ _ hp fun d j' hp v H' e m hd => ?_⟩
  exact q v d H' (u j j') (s1.trans (gs.stp g1.wld e m)) hd hp
/-- statements that ask nothing of the state -/
theorem dbr_of {F : ι → FS} (h : ∀ i, DB (G.at i) sts (F i)) : DBR G sts (fun D ρ i => F i { nx := fun ρ => D.nx ρ i, rt := fun d => D.rt d i, bk := fun ρ => D.bk ρ i, ct := fun ρ => D.ct ρ i } ρ) := by
  have h' : ∀ i, ∃ t, PSs G.X sts t ∧ LiftS (G.at i) t (F i) := fun i => (h i).ex
  refine ⟨⟨fun D σ H => ∃ t : TS, PSs G.X sts t ∧ t D σ H, ⟨fun pins s σ H D I ⟨t, hp, hq⟩ => hp.run pins s σ H D I hq⟩, fun S σ H ρ i D Dh g h q => ?_⟩⟩
  obtain ⟨t, hp, l⟩ := h' i
  exact ⟨t, hp, l S σ H ρ _ _ g h ⟨fun S' σ' H' ρ' g' fr hn => q.nx S' σ' H' ρ' i g' fr hn, fun v d H' hw hd hn => q.rt v d H' i hw hd hn, fun S' σ' H' ρ' g' fr hn => q.bk S' σ' H' ρ' i g' fr hn, fun S' σ' H' ρ' g' fr hn => q.ct S' σ' H' ρ' i g' fr hn⟩⟩
end
section
variable {G : Ctx} {S : Addr → Prop} {H : Hp} {pos : Pos} {a : Expr}
/-- len of a dict -/
def lenDD : RCD
  | [.dic ks _], P => P (.int (ks.length : Nat))
  | _, _ => False
theorem serves_lenDD : ServesC G (fun xs H Q => ∃ a kvs, xs = [V.ref a] ∧ H a = some (.dK kvs) ∧ Q (.int kvs.length) H) lenDD := by
  intro S σ ρ H vs ds P Q g hv h q
  unfold lenDD at h
  split at h
  · obtain ⟨v, rfl, h1⟩ := dvl1 hv
    obtain ⟨p, kvs, rfl, n, e1, ek, hl⟩ := dv_dic h1
    have hk : kvs.length = _ := (List.length_map (f := Prod.fst) (as := kvs)).symm.trans (congrArg List.length ek)
    exact ⟨p, kvs, rfl, e1, q _ (.int _) H (Stp.refl g.wld) (by rw [hk]; rfl) h⟩
  · exact h.elim
theorem de_lenDD {p : Pos} {Fs : FA} (hm : G.X.mg "len" = none) (ha : DA G [a] Fs) (hg : Gl G.X "len" := by rfl) (he : starEach [a] G.X.env = (false, eval a G.X.env) :: starEach [] G.X.env := by rfl) : DE G (.Call (.Name "len" p) [a] [] pos) (fun ρ P => Fs ρ fun ds => lenDD ds P) := de_cb call_lenD serves_lenDD hm PySem.boot_len ha hg (he := he)
end
end DL
namespace DL
open PySem PySem.Spec PyProof.Rows L2
/-! ### an error that a name keeps behind its clause -/
def errO (a : Addr) (cls : Value) (d : Option Addr) : HO := .ext fun h => ∃ (oe : Obj) (vs : Array Value), h.get? a = some oe ∧ oe.cls = cls ∧ oe.dict = d ∧ oe.data = .fields vs
section
variable {X : Cx} {pins : List (Addr × Obj)} {σ : L2.St} {H : Hp} {s : Shared}
theorem inv_known {a : Addr} {oe : Obj} {vs : Array Value} {cls : Value} {d : Option Addr} (I : Inv X pins σ H s) (ha : s.heap.get? a = some oe) (hz : Zc cls d oe) (hd : oe.data = .fields vs) (na : H a = none) (nL : a ≠ X.env.locals) (h0 : X.s_0.heap.get? a = none) (hp : ∀ p ∈ X.pn ++ pins, p.1 ≠ a) :
    Inv X pins σ (upd H a (errO a cls d)) s := by
  have other : ∀ {b o}, H b = some o → upd H a (errO a cls d) b = some o := fun {b o} e => by rw [upd_ne (ne_of_none e na)]; exact e
  have none' : ∀ {b}, b ≠ a → H b = none → upd H a (errO a cls d) b = none := fun {b} ne e => by rw [upd_ne ne]; exact e
  have B := I.base
  refine ⟨I.ok, I.os, I.bare, ⟨B.keep, B.slot, fun b o e n hx => none' (fun z => by rw [z, h0] at e; cases e) (B.free b o e n hx), B.there, fun b xs e => other (B.tups b xs e), fun b o u e => other (B.frzs b o u e), fun b ps e => (B.tbls b ps e).imp fun _ q => other q⟩, I.loc, I.cell, none' (fun z => nL z.symm) I.free,
    fun y c e => none' (fun z => ?_) (I.freeC y c e), fun p h => ?_, fun b u e => ?_, I.len⟩
  · obtain ⟨v, o, ho, hc⟩ := I.cell y c e
    rw [z, ha] at ho
    cases ho
    rw [hd] at hc
    cases hc
  · obtain ⟨p1, p2, p3⟩ := I.pin p h
    exact ⟨p1, none' (hp p h) p2, p3⟩
  · by_cases hb : b = a
    · subst hb
      rw [upd_same] at e
      cases e
      exact ⟨⟨oe, vs, ha, hz.1, hz.2, hd⟩, ⟨oe, ha⟩, fun h1 h2 ⟨o, ws, e1, e2, e3, e4⟩ k => ⟨o, ws, k _ e1, e2, e3, e4⟩⟩
    · rw [upd_ne hb] at e
      exact (I.hok b u e).stay (fun _ _ _ q => q) (fun _ q => other q) fun _ _ q => other q
/-- what 'except (A, B) as n' wishes of an error, where it is caught and kept -/
def wKeep (K : PySem.W.Frag) (c1 c2 : Value) (i n : Nat) (ts : Addr → Value → Option Addr → TS) (D : Ends) : WX := fun cls d σ H => PySem.W.exmAny K cls [c1, c2] = some true ∧
  (σ.length = n → ∀ a, H a = none → ts a cls d { nx := fun σ' H' => D.nx (σ'.set i none) (upd H' a (errO a cls d)), rt := fun _ _ => False, bk := fun _ _ => False, ct := fun _ _ => False } (σ.set i (some (.ref a))) H)
theorem fly_kept {base h h' : Heap} {l : List Env} {e : Addr} {Z : Obj → Prop} (x : HandSPX.FlyingZ base l e Z h) (k : ∀ b o, h.get? b = some o → h'.get? b = some o) : HandSPX.FlyingZ base l e Z h' := by
  obtain ⟨f1, f2, f3, oe, vs, T, oT, ts, t1, t2, t3, t4, t5, t6, t7, t8⟩ := x
  exact ⟨fun b o e => k b o (f1 b o e), f2, Heap.FunFrames.of_keeps (fun b o e _ => ⟨o, k b o e, rfl⟩) f3, oe, vs, T, oT, ts, k _ _ t1, t2, t3, t4, t5, t6, k _ _ t7, t8⟩
theorem ps_try_keep {x1 x2 n : Str} {c1 c2 : Value} {i kk : Nat} {body suite : List Stmt} {b₀ : Stmt} {q1 q2 tpos pos pos' : Pos} {tb : WX → TS} {ts : Addr → Value → Option Addr → TS} (hs : X.stack = X.env :: X.outer) (hex : X.ex = []) (hf : X.env.frame = some X.env.locals) (hN : X.N.Nodup) (hi : X.N[i]? = some n) (hln : X.env.kindOf n = some .local) (n1 : Names X x1 c1) (n2 : Names X x2 c2)
    (hb : ∀ (W : WX) (pn : List (Addr × Obj)) (xe : Value → Shared → Prop), Takes (X.tr pn xe) W → PassesOwn (model X.prog X.w) X.A X.env xe → PSs (X.tr pn xe) body (tb W)) (hsu : ∀ (a : Addr) (oe : Obj) (cls : Value) (d : Option Addr) (pn : List (Addr × Obj)), Zc cls d oe → (∃ vs, oe.data = .fields vs) → PSs (X.suite a ((a, oe) :: pn)) (b₀ :: suite) (ts a cls d)) :
    PS X (.Try body [.ExceptHandler (some (.Tuple [.Name x1 q1, .Name x2 q2] kk tpos)) (some n) (b₀ :: suite) pos'] [] [] pos) (fun D σ H => tb (wKeep X.K c1 c2 i X.N.length ts D) D σ H) := by
  refine ⟨fun pins s σ H D I h => wpAny_Try_except ?_⟩
  have okX := I.ok
  have frm : X.A.frames = some (X.env :: X.outer) := by rw [okX.frames, hs]
  refine wpAny_mono ((hb (wKeep X.K c1 c2 i X.N.length ts D) (X.pn ++ pins) (fun e s₁ => wpAny (model X.prog X.w) X.A (noteFrame e X.env) (fun _ s₂ => wpAny (model X.prog X.w) X.A (setFlight e none) (fun _ s₃ => wpAny (model X.prog X.w) X.A (handleBy e X.env [.ExceptHandler (some (.Tuple [.Name x1 q1, .Name x2 q2] kk tpos)) (some n) (b₀ :: suite) pos']) (SP X pins D) X.xe s₃) X.xe s₂) X.xe s₁) (fun u s' xx => ?_) PassesOwn.looking).run [] s σ H D (I.toTry _) h) (fun fl s1 hsp => ?_) (fun e s1 he => he)
  · obtain ⟨a, B, sI, pins', σ', H', cls, d, rfl, J', nb, up, sky, na, os, ag, hm, hyes⟩ := xx
    have J : Inv X pins σ' H' sI := J'.ofTry okX
    rw [hs] at sky
    show wpAny (model X.prog X.w) X.A (noteFrame (.ref a) X.env) _ _ _
    refine Sky.land Zc.steady frm hf sky fun h3 fl3 up3 => ?_
    have upT := up.trans up3
    have J3 : Inv X pins σ' H' { s' with heap := h3 } := J.landed nb fl3.1 upT os ag
    obtain ⟨oe3, vs3, he3, hz3, hd3⟩ := fl3.there
    have gone : ∀ {b o}, sI.heap.get? b = some o → b ∉ frs X.stack → b ≠ a := fun {b o} e nf z => by
      have q := nb b o e nf
      rw [z, fl3.2.1] at q
      cases q
    have apart : a ∉ frs (X.env :: X.outer) := fun hm => by
      obtain ⟨_, o', e', hnf⟩ := fl3.2.2.1.mem hm
      rw [he3] at e'
      cases e'
      exact hnf _ hd3
    have nL : a ≠ X.env.locals := fun z => apart (List.mem_filterMap.mpr ⟨X.env, List.mem_cons_self, hf.trans (by rw [z])⟩)
    have nF : a ∉ X.fs := fun hm => by
      obtain ⟨e, he, q⟩ := List.mem_filterMap.mp hm
      exact apart (List.mem_filterMap.mpr ⟨e, List.mem_cons_of_mem _ he, q⟩)
    have S3 := J3.suite he3 hd3 na nL nF
    refine wpAny_handleBy_cons (codeAny_handlers_test ?_) (by intro q; cases q)
    have nm : ∀ {x c p} {Q E : Value → Shared → Prop}, Names X x c → Q c { s' with heap := h3 } → wpAny (model X.prog X.w) (X.A.mark (some (.ref a))) (eval (.Name x p) X.env) Q E { s' with heap := h3 } := fun {x c p Q E} hc q => by
      obtain ⟨hg, hdb, hm | ⟨hm, hv, hnn⟩⟩ := hc
      · exact ld_glob (X := X.suite a ((a, oe3) :: (X.pn ++ pins))) S3 hg hm q hdb
      · exact ld_blt (X := X.suite a ((a, oe3) :: (X.pn ++ pins))) S3 hg hm hv q hnn hdb
    refine wpAny_Tuple (wpAny_items_cons (nm n1 (wpAny_items_cons (nm n2 (wpAny_items_nil ⟨by size_fits, ?_⟩)))))
    let hp : Heap := h3.push { cls := .type "tuple", data := .seq [c1, c2].toArray }
    have kp : ∀ q o, h3.get? q = some o → hp.get? q = some o := fun _ _ z => Heap.get?_push_of_some _ z
    have LT : PySem.W.Looks (model X.prog X.w) hp (typeOf (.ref a)) cls := fun A Q E s k q => wpAny_typeOf_ref (k _ _ (kp _ _ he3)) (by rw [hz3.1]; exact q)
    refine (PySem.W.exm_tup2 (M := model X.prog X.w) (J3.kIn.keeps kp) LT (Heap.get?_push_size h3 rfl) hm).here ?_
    refine codeAny_handlers_suite_as ?_
    refine HandSPX.lands_againZ (s := { s' with heap := hp }) (fly_kept fl3 kp) fun h4 fl4 up4 => ?_
    have up34 : h3.UpToSlots h4 := fun b o e hd => up4 b o (kp b o e) hd
    have J4 : Inv X pins σ' H' { s' with heap := h4 } := J.landed nb fl4.1 (upT.trans up34) os ag
    obtain ⟨oe4, vs4, he4, hz4, hd4⟩ := fl4.there
    have S4 := J4.suite he4 hd4 na nL nF
    refine store_ok (X := X.suite a ((a, oe4) :: (X.pn ++ pins))) (v := .ref a) S4 hN hi (.inl hln) rfl (fun s5 S5 => ?_) (.inr hln)
    refine wpAny_mono ((hsu a oe4 cls d (X.pn ++ pins) hz4 ⟨_, hd4⟩).run [] s5 _ H' _ S5 (hyes J.len a na)) (fun fl s6 hsp => ?_) (fun _ _ z => False.elim z)
    match fl, hsp with
    | .next, ⟨σ6, H6, S6, q6⟩ =>
      obtain ⟨g1, g2, _⟩ := S6.pin (a, oe4) (List.mem_append_left _ List.mem_cons_self)
      have J6 : Inv X pins σ6 H6 s6 := S6.unsuite okX
      have h00 : X.s_0.heap.get? a = none := by
        cases e : X.s_0.heap.get? a with
        | none => rfl
        | some o =>
          have nst : a ∉ frs X.stack := by rw [hs]; exact apart
          obtain ⟨o', e'⟩ := J.base.there a o e (by rw [hex]; exact List.not_mem_nil)
          exact (gone e' nst rfl).elim
      have hpin : ∀ p ∈ X.pn ++ pins, p.1 ≠ a := fun p hp => by
        obtain ⟨e1, _, e3, e4, _⟩ := J.pin p hp
        refine gone e1 fun z => ?_
        rw [hs] at z
        obtain ⟨en, hen, q⟩ := List.mem_filterMap.mp z
        rcases List.mem_cons.mp hen with rfl | hen
        · rw [hf] at q; exact e3 (Option.some.inj q).symm
        · exact e4 (List.mem_filterMap.mpr ⟨en, hen, q⟩)
      exact gone_ok (inv_known J6 g1 hz4 hd4 g2 nL h00 hpin) hN hi hln fun s7 J7 => ⟨_, _, J7, q6⟩
    | .brk, ⟨_, _, _, z⟩ => exact False.elim z
    | .cont, ⟨_, _, _, z⟩ => exact False.elim z
    | .ret u, ⟨_, _, _, _, _, z⟩ => exact False.elim z
  · match fl, hsp with
    | .next, ⟨σ', H', J', q⟩ => exact wpAny_execs_nil ⟨σ', H', J'.ofTry okX, q⟩
    | .brk, ⟨σ', H', J', q⟩ => exact ⟨σ', H', J'.ofTry okX, q⟩
    | .cont, ⟨σ', H', J', q⟩ => exact ⟨σ', H', J'.ofTry okX, q⟩
    | .ret u, ⟨v, σ', H', J', r, q⟩ => exact ⟨v, σ', H', J'.ofTry okX, r, q⟩
end
end DL
namespace DL
open PySem PySem.Spec PyProof.Rows L2
section
variable {X : Cx} {pins : List (Addr × Obj)} {σ : L2.St} {H : Hp} {s : Shared}
theorem err_at {a D : Addr} {d : Option Addr} (I : Inv X pins σ H s) (e : H a = some (errO a (.ref D) d)) : ∃ oe : Obj, s.heap.get? a = some oe ∧ oe.cls = .ref D ∧ oe.dict = d ∧ ∃ vs, oe.data = .fields vs := by
  obtain ⟨⟨oe, vs, h1, h2, h3, h4⟩, _⟩ := I.hok a _ e
  exact ⟨oe, h1, h2, h3, vs, h4⟩
/-- isinstance of an error that is kept -/
def rIsK (K : PySem.W.Frag) : List V → Hp → VK → Prop := fun xs H Q => ∃ (a D dd : Addr) (fs : List (Str × V)) (c : V) (cv : Value) (b : Bool), xs = [.ref a, c] ∧ H a = some (errO a (.ref D) (some dd)) ∧ H dd = some (.xd fs) ∧ ExcC K D ∧ (∀ u, RelV c u → u = cv) ∧ PySem.W.kitOne K (.ref D) cv = some b ∧ Q (.bl b) H
theorem call_isK : CallR X (.builtin "isinstance") (rIsK X.K) := by
  rintro pins s σ H xs us Q I r ⟨a, D, dd, fs, c, cv, b, rfl, ea, ed, C, hcv, e, q⟩
  obtain ⟨u, w, rfl, ru, rw'⟩ := vals2 r
  obtain rfl : u = Value.ref a := ru
  obtain rfl := hcv _ rw'
  obtain ⟨oe, e1, e2, e3, vs, e4⟩ := err_at I ea
  obtain ⟨mA, hns, hr⟩ := (I.hok dd _ ed : ObjOk X.prog X.w H s.heap dd (.xd fs))
  obtain ⟨od, ho, hl⟩ := lookIn_ns hns
  have J : PySem.W.InstAt s.heap a oe D (some od) := ⟨e1, e2, by unfold PySem.W.notCls; rw [e4] <;> rfl, by rw [e3]; exact ho⟩
  have hcl : (PySem.W.clsIn X.K D).isSome = true := by
    obtain ⟨cd, hc, _⟩ := PySem.W.any_some C.hd
    rw [hc]; rfl
  exact PySem.W.kia_one (PySem.W.kitx_exc hcl C.hg C.hk C.hs C.ha C.hn C.ht C.hm) I.kIn J e (fun z => nomatch z) fun tk => ⟨.bl b, H, I.kept (t' := tk) fun _ _ z => z, rfl, q⟩
/-- a field of an error that is kept -/
def tXk (K : PySem.W.Frag) (f : Str) (te : TE) : TE := fun σ H Q => te σ H fun x H1 => ∃ (a C dd : Addr) (fs : List (Str × V)) (v : V), x = .ref a ∧ H1 a = some (errO a (.ref C) (some dd)) ∧ XfC K C ∧ PySem.W.findIn K (.ref C) f = some none ∧ H1 dd = some (.xd fs) ∧ fs.lookup f = some v ∧ Q v H1
theorem pe_xk {e : Expr} {te : TE} {pos : Pos} {n : Str} (he : PE X e te) (hb : attributeBase e n X.env (eval e X.env) = eval e X.env := by rfl) : PE X (.Attribute e n pos) (tXk X.K n te) := by
  refine ⟨fun pins s σ H Q I h => attr_of hb (thn (he.run pins s σ H _ I h) fun u s1 hh => ?_)⟩
  obtain ⟨x, H1, I1, rx, a, C, dd, fs, v, rfl, ea, T, hno, ed, l, q⟩ := hh
  obtain rfl : u = Value.ref a := rx
  obtain ⟨oe, e1, e2, e3, vs, e4⟩ := err_at I1 ea
  obtain ⟨mA, hns, hr⟩ := (I1.hok dd _ ed : ObjOk X.prog X.w H1 s1.heap dd (.xd fs))
  obtain ⟨od, ho, hl⟩ := lookIn_ns hns
  obtain ⟨w, hu, ru⟩ := RelO.some_of (v := v) (o := mA n) (by rw [← l]; exact hr n)
  have J : PySem.W.InstAt s1.heap a oe C (some od) := ⟨e1, e2, by unfold PySem.W.notCls; rw [e4] <;> rfl, by rw [e3]; exact ho⟩
  exact HandSPX.exc_get I1.kIn J T.ga T.gg T.exC (PySem.W.findObj_own T.hdC hno rfl (by rw [hl, hu])) (handed_of ru) ⟨v, H1, I1.tok _, ru, q⟩
theorem pe_never {e : Expr} : PE X e (fun _ _ _ => False) := ⟨fun _ _ _ _ _ _ h => h.elim⟩
end
end DL
namespace DL
open PySem PySem.Spec PyProof.Rows L2 LamX
/-! ### a lambda handed on: of what stood, nothing but the maker's table is written -/
/-- all but the one at P stay -/
def ExP (P : Addr) (H H' : Hp) : Prop := ∀ b o, b ≠ P → H b = some o → H' b = some o
theorem tabS_ext {H H' : Hp} {P : Addr} {q : Str} (t : TabS H P q) (e : ∀ b o, H b = some o → H' b = some o) : TabS H' P q := t.ext e
section
variable {X : Cx} {pins : List (Addr × Obj)} {σ : L2.St} {H : Hp} {s : Shared}
theorem lam_new {c P : Addr} {q : Str} {params : Arguments} {body : Expr} {scope : Scope} {pos : Pos} {Q E : Value → Shared → Prop} (I : Inv X pins σ H s) (TB : TabB X.base X.mg c P) (hcode : X.env.code = .ref c) (hq : X.env.qual ++ "<lambda>" = q) (hT : TabS H P q) (hdef : defaultsOf params X.env = ([], []))
    (hfree : ∀ y ∈ scope.names, y.2 = .free → ∃ c, X.env.cells.lookup y.1 = some c)
    (h : ∀ (f c' : Addr) (pm ctv : Value) (H1 : Hp) (s' : Shared), Inv X pins σ H1 s' → ExP P H H1 → TabS H1 P q → s'.heap.get? f = some (PySem.W.kla_obj "<lambda>" (X.env.qual ++ "<lambda>") params body scope (cloFrom X.env.cells scope.names []) pm c' ctv) → H1 f = none → f ∉ frs X.stack → H1 c' = some (CodeO c' q) → Q (.ref f) s') :
    wpAny (model X.prog X.w) X.A (eval (.Lambda params body scope pos) X.env) Q E s := by
  obtain ⟨ps, tP, tr, am⟩ := hT
  have heapP : s.heap.get? P = some { cls := .none, data := .fields ps } := I.hok P _ tP
  have bP : s.heap.BuiltinsAt X.mg P := TB.bm.keeps I.bk
  have far : ∀ f, s.heap.objs.size ≤ f → f ∉ frs X.stack := fun f hf z => (List.mem_cons.mp (I.stkSub _ z)).elim (fun e => Nat.lt_irrefl _ (Nat.lt_of_lt_of_le (e ▸ I.lt) hf)) (I.nofs hf)
  refine PySem.W.kla_eval hdef ?_
  cases found : codeAmong pos ps.toList with
  | some cv =>
    obtain ⟨c', rfl, hc'⟩ := am pos cv found
    refine PySem.W.kla_makeFunctionHit (mg := X.mg) (c := c) (P := P) (ps := ps) (closure_ok hfree) I.ok.glob (I.mod.glob.keeps I.bk) hcode (TB.code.keeps I.bk) heapP tr found bP fun ctv h' tk hx hsz => ?_
    exact h h'.objs.size c' ((X.mg "__name__").getD .none) ctv H _ (I.kept fun b o e => Heap.get?_push_of_some _ (hx b o e)) (fun _ _ _ e => e) ⟨ps, tP, tr, am⟩ (Heap.get?_push_size _ rfl) (I.hok.fresh hsz) (far _ hsz) hc'
  | none =>
    refine PySem.W.kla_makeFunction (mg := X.mg) (c := c) (P := P) (ps := ps) (closure_ok hfree) I.ok.glob (I.mod.glob.keeps I.bk) hcode (TB.code.keeps I.bk) heapP tr found TB.gP bP fun c' ctv h' tk hx hge hlt hrec htb => ?_
    obtain ⟨c2, oc, vs, t, e2, hoc, hd, hv⟩ := hrec
    cases e2
    have big : s.heap.objs.size ≤ h'.objs.size := Nat.le_trans hge (Nat.le_of_lt hlt)
    have fresh : H c' = none := I.hok.fresh hge
    subst hq
    have J := inv_table (t' := tk) (more := #[rawInt pos.line, rawInt pos.col, .ref c']) (h' := h'.push (PySem.W.kla_obj "<lambda>" (X.env.qual ++ "<lambda>") params body scope (cloFrom X.env.cells scope.names []) ((X.mg "__name__").getD .none) c' ctv)) (q := X.env.qual ++ "<lambda>") I tP (fun b o hb e => Heap.get?_push_of_some _ (hx b o hb e)) (Heap.get?_push_of_some _ htb) hge ⟨oc, vs, t, Heap.get?_push_of_some _ hoc, hd, hv⟩
    have kp : ExP P H (upd (upd H P (.tbl (ps ++ #[rawInt pos.line, rawInt pos.col, .ref c']))) c' (CodeO c' (X.env.qual ++ "<lambda>"))) := fun b o nb e => by rw [upd_ne (ne_of_none e fresh), upd_ne nb]; exact e
    have nl : (ps ++ #[rawInt pos.line, rawInt pos.col, .ref c']).toList = ps.toList ++ [rawInt pos.line, rawInt pos.col, .ref c'] := by simp
    have gone : ∀ n, n ≠ c' → n ≠ P → H n = none → upd (upd H P (.tbl (ps ++ #[rawInt pos.line, rawInt pos.col, .ref c']))) c' (CodeO c' (X.env.qual ++ "<lambda>")) n = none := fun n a b e => by rw [upd_ne a, upd_ne b]; exact e
    refine h h'.objs.size c' ((X.mg "__name__").getD .none) ctv _ _ J kp ⟨_, by rw [upd_ne (ne_of_none tP fresh), upd_same], by rw [nl]; exact PySem.TriplesOk_snoc _ _ _ _ tr, fun p' cv hcv => ?_⟩ (Heap.get?_push_size _ rfl) (gone _ (Nat.ne_of_gt hlt) (Nat.ne_of_gt (Nat.lt_of_lt_of_le (Heap.lt_size heapP) big)) (I.hok.fresh big)) (far _ big) upd_same
    rw [nl] at hcv
    rcases among_app _ tr hcv with z | z
    · obtain ⟨c0, e1, e2⟩ := am p' cv z
      refine ⟨c0, e1, kp c0 _ (fun y => ?_) e2⟩
      rw [y, tP] at e2
      exact codeO_ne ps (Option.some.inj e2).symm
    · exact ⟨c', z, upd_same⟩
/-- told of the very state that the lambda is handed on in -/
def tLamP (P : Addr) (q : Str) (TT : (XK → Hp → VK → Prop) → Hp → VK → Prop) (t : XK → TE) : TE := fun σ H Q => TabS H P q ∧ ∀ H1, ExP P H H1 → TabS H1 P q → TT (fun E H' Q' => t E σ H' Q') H1 Q
theorem pe_lamP {TT : (XK → Hp → VK → Prop) → Hp → VK → Prop} {x a q : Str} {g c P : Addr} {k : Nat} {pg : Arguments} {bg : List Stmt} {sg : Scope} {dV kV doc pm cdv ct oc : Value} {an od : Option Addr} {osl : Array (Option Value)} {Ng : List Str} {params : Arguments} {body : Expr} {scope : Scope} {t : XK → TE} {p lpos pos : Pos}
    (hg : Gl X x) (hm : X.mg x = some (.ref g)) (hk : PySem.W.keepIn X.K (.ref g) = true) (lk : X.K.lookup g = some ⟨oc, od, .func (PySem.W.fnOf x x pg bg sg dV kV doc pm an cdv ct), osl⟩) (hcg : PySem.W.codeIn X.K cdv x = true) (hb : L2.Binds X.K (PySem.W.fnOf x x pg bg sg dV kV doc pm an cdv ct) [a] []) (Sg : FnScope Ng [a] sg) (hNg : Ng[0]? = some a) (hva : Vis sg a)
    (hG : GivesTo X Ng x sg g cdv bg a q TT) (TB : TabB X.base X.mg c P) (hcode : X.env.code = .ref c) (hq : X.env.qual ++ "<lambda>" = q) (hr : Room (k + 2) X.A) (L : LamS X.env.scope scope) (hdef : defaultsOf params X.env = ([], [])) (hbind : ∀ (q : Str) (cl : List (Str × Addr)) (pm cv ctv : Value), bindArgs (PySem.W.kla_fn "<lambda>" q params body scope cl pm cv ctv) ⟨[], []⟩ = pure [])
    (hbody : ∀ (A : Around) (outer : List Env) (s : Shared) (H : Hp) (E : XK) (f c' : Addr), Room k (A.deeper (lamEnv X scope s.heap.objs.size f c')) → PE (lamCx X A outer s H E scope f c') body (t E))
    (hdb : (x == ("__debug__" : Str)) = false := by decide) (hd : (a == ("__debug__" : Str)) = false := by decide) (hcd : (a == ("__classdict__" : Str)) = false := by decide) :
    PE X (.Call (.Name x p) [.Lambda params body scope lpos] [] pos) (tLamP P q TT t) := by
  subst hq
  refine ⟨fun pins s σ H Q I ⟨hT, h⟩ => wpAny_Call_Name_kw (ld_glob I hg hm (PySem.W.callWith_K (h₀ := X.base) I.ok.mod.kin hk ?_ (by rfl) (by rfl)) hdb)⟩
  show wpAny _ _ (spliced ((false, eval (.Lambda params body scope lpos) X.env) :: backTo pos (starEach [] X.env))) _ _ s
  refine Calls.spliced_cons (lam_new I TB hcode rfl hT hdef (L.has I.ok) fun f c' pm' ctv H1 s' I1 eP T1 hf hfn hfr hco => Calls.spliced_nil ⟨I1.kIn, wpAny_call (codeAny_mono (R := CR C8.CX0 X.stack X.prog X.w H1 s' Q C8.E0) ?_ fun r s2 hq => ?_)⟩)
  · refine run_ofS (N := Ng) (ps := [a]) (us := [.ref f]) (vs := [.ref f]) lk hcg Sg hr I1.env0 (hb s' [.ref f] I1.kIn rfl) (.cons rfl .nil) rfl fun hr' => ?_
    obtain ⟨t', ht', hq'⟩ := hG f c' s' H1 Q (fun E H' Q' => t E σ H' Q') (fun W pn xe E p1 p2 tk hW => pe_act (i := 0) I1 L hf hfn hfr (hbind _ _ _ _ _) tk hW hr' (fun A outer s H hr2 => hbody A outer s H E f c' hr2) hNg hva hd hcd) hco (h H1 eP T1)
    exact ⟨t', ht'.nox, hq'⟩
  · match r, hq with
    | .error e, hq => exact (show False from hq).elim
    | .ok (.ret u), hq => exact I1.after hq
    | .ok .next, hq => exact False.elim hq
    | .ok .brk, hq => exact False.elim hq
    | .ok .cont, hq => exact False.elim hq
end
end DL
namespace DL
open PySem PySem.Spec PyProof.Rows L2 LamX
/-! ### a maker's table of lambdas as a state -/
theorem TabS.to {H H' : Hp} {P : Addr} {q : Str} (t : TabS H P q) (h : ∀ o, H P = some o → H' P = some o) (x : KeepX H H') : TabS H' P q := by
  obtain ⟨ps, h1, h2, h3⟩ := t
  refine ⟨ps, h _ h1, h2, fun pos cv hc => ?_⟩
  obtain ⟨c, e1, e2⟩ := h3 pos cv hc
  exact ⟨c, e1, x c _ e2⟩
def tabSta (P : Addr) (q : Str) : Sta Unit where
  fp := fun a => a = P
  M := fun _ H => TabS H P q
  loc := fun _ H H' h k x => TabS.to h (k P · rfl) x
  noc := fun _ H h a φ e z => by
    obtain ⟨ps, h1, _⟩ := h
    rw [e, h1] at z
    cases z
  dom := fun _ H h a e => by
    obtain ⟨ps, h1, _⟩ := h
    rw [e]
    exact ⟨_, h1⟩
/-- the rule for a def that is handed a state, whose code object is known -/
theorem fn_pureSC {κ : Type} {P : Program} {w : World} {K : PySem.W.Frag} {mg : Str → Option Value} {base : Heap} {x qual : Str} {stm : Stmt} {f : Addr} {fd : FuncData} {N ps : List Str} {k : Nat} {C : ConS κ} {cdc : Value} (F : Fun K x qual stm f fd) (Sc : FnScope N ps (defScope stm)) (len : ∀ st i sl P, C.C st i sl P → sl.length = ps.length)
    (hcode : ∀ kV doc pm an cdv ct, fd = PySem.W.fnOf x qual (defArgs stm) (defBody stm) (defScope stm) .none kV doc pm an cdv ct → cdv = cdc)
    (hbody : ∀ (A : Around) (outer : List Env) (s : Shared) (H : Hp) (S : Addr → Prop) (hS : ∀ a, S a → ∃ o, H a = some o) (st : Sta κ) (i0 : κ) (h0 : st.M i0 H), (∀ a, st.fp a → S a) → Room k (A.deeper (envOfC qual (defScope stm) s.heap.objs.size f cdc)) → ∀ sl R, C.C st i0 sl R →
      ∃ T, DBR (famS P w K mg base N qual (defScope stm) f cdc A outer s H S hS st i0 h0) (defBody stm) T ∧ T { nx := fun _ => R .non, rt := R } (startS N.length sl) i0) : FnOk P w K mg base CX0 (k + 1) f fd ps (spS K C) := by
  have hpl : ps.length ≤ N.length := by have := congrArg List.length Sc.pre; rw [List.length_take] at this; omega
  obtain ⟨oc, od, kV, doc, pm, an, cdv, ct, osl, rfl, lk, hcd⟩ := F.ex
  obtain rfl := hcode kV doc pm an cdv ct rfl
  refine fn_of lk hcd Sc (fun vs H Q E ⟨S, st, i, sl, _, _, _, hv, hc⟩ => by rw [hv.len]; exact len _ _ _ _ hc) fun A outer s H vs Q E hr h => ?_
  obtain ⟨S, st, i, sl, hS, hf, h0, hv, hc⟩ := h
  obtain ⟨T, ⟨t, hp, l⟩, hT⟩ := hbody A outer s H S hS st i h0 hf hr sl _ hc
  refine ⟨t, hp.nox, ?_⟩
  refine l S _ H (startS N.length sl) i _ _ (gd_startS (G := (famS P w K mg base N qual (defScope stm) f cdv A outer s H S hS st i h0).at i) ⟨ExF.refl _ _, h0⟩ hS hv (by rw [len _ _ _ _ hc]; exact hpl)) hT ?_
  exact ⟨fun S' σ' H' ρ' j g fr q => q .non H' g.wld.1 g.wld.2 rfl, fun v d H' j hw hv q => q v H' hw.1 hw.2 hv, fun _ _ _ _ _ _ _ z => z.elim, fun _ _ _ _ _ _ _ z => z.elim⟩
section
variable {ι : Type} {G : Fam ι} {Fa : FR ι} {e : Expr} {pos : Pos}
/-- name.append(e), the list one's own, e of the state -/
theorem dsr_append {x : Str} {np apos cpos : Pos} (i : Nat) (he : DR G e Fa) (hi : G.X.N[i]? = some x := by rfl) (hv : Vis G.X.env.scope x := by first | exact Or.inl rfl | exact Or.inr (Or.inl rfl) | exact Or.inr (Or.inr rfl)) (hd : (x == ("__debug__" : Str)) = false := by decide)
    (hcd : (x == ("__classdict__" : Str)) = false := by decide) (hst : starEach [e] G.X.env = (false, eval e G.X.env) :: starEach [] G.X.env := by rfl)
    (hbase : attributeBase (.Name x np) "append" G.X.env (eval (.Name x np) G.X.env) = eval (.Name x np) G.X.env := by rfl)
    (hfew : ((backTo cpos (starEach [e] G.X.env)).all (fun x => !x.1) && (backToKw cpos (keywordEach [] G.X.env)).all (fun x => x.1.isSome) && decide ([e].length + ([] : List Keyword).length + (if ([] : List Keyword).isEmpty then 0 else 1) < 30)) = true := by rfl)
    (hline : (apos.endLine == cpos.line) = true := by rfl) (hplain : (backTo cpos (starEach [] G.X.env)).any (·.1) = false := by rfl) (hs : swapsWith (.Call (.Attribute (.Name x np) "append" apos) [e] [] cpos) none pos.line G.X.env = pure false := by rfl) :
    DSR G (.Expr (.Call (.Attribute (.Name x np) "append" apos) [e] [] cpos) pos) (fun D ρ j => ownL ρ i fun ds => Fa ρ j fun y j' => ds.length < sizeLine ∧ D.nx (ρ.set i (.own (ds ++ [y]))) j') := by
  obtain ⟨t, h, l⟩ := he.ex
  refine ⟨⟨_, ps_expr (pe_bm PySem.F.plainAttrs_list PySem.F.slot_list_append PySem.F.type_list_append mt_append (pe_var hi hv hd hcd) (pa_cons h pa_nil hst) hbase hfew hline hst hplain) hs, fun S σ H ρ j D Dh g h q => ?_⟩⟩
  obtain ⟨ds, es, hf⟩ := ownL_inv h
  obtain ⟨p, xs, e1, sp, e0, eh, hl⟩ := g.slot_own es
  refine ⟨.ref p, e1, .inl ⟨rfl, xs, .inl (.inl eh)⟩, l S σ H ρ j _ _ g hf fun v d H1 j' st hv ⟨hz, hp⟩ => ?_⟩
  have g1 := g.stepI st
  obtain ⟨p', xs', e1', sp', e0', eh', hl'⟩ := g1.slot_own es
  cases e1.symm.trans e1'
  obtain ⟨g2, fr⟩ := own_append (es := [d]) (ys := [v]) g1 es e1 sp e0 hl' ⟨v, [], rfl, hv, rfl⟩
  exact ⟨p, xs', v, rfl, rfl, eh', by rw [hl'.len]; exact hz, q.nx _ _ _ _ _ g2 (Fr.trans (st.fr g) fr) hp⟩
end
end DL
namespace DL
open PySem PySem.Spec PyProof.Rows L2
def isLst (d : Dat) (P : List Dat → Prop) : Prop := match d with
  | .lst ds => P ds
  | _ => False
section
variable {ι : Type} {G : Fam ι} {Fa : FR ι} {e : Expr}
/-- for name in a list, by a word of what is left, the slots and the index -/
theorem dsr_forLst {x : Str} {xp fp : Pos} {body : List Stmt} {Fb : FSR ι} (n : Nat) (hp : PassesOwn (model G.X.prog G.X.w) G.X.A G.X.env G.X.xe) (hc : G.X.calm = true) (ha : DR G e Fa) (hb : DBR G body Fb) (hN : G.X.N.Nodup) (hi : G.X.N[n]? = some x := by rfl) (hx : Loc G.X.env.scope x := by first | exact Or.inl rfl | exact Or.inr rfl)
    (hf : G.X.fn x = true ∨ G.X.env.scope.names.lookup x = some .local := by first | exact .inl rfl | exact .inr rfl) (hs2 : ∀ z, foldedSetIterable e G.X.env z = pure z := by intro _; rfl) :
    DSR G (.For (.Name x xp) e body [] fp) (fun D ρ i => ∃ Inv : List Dat → List Slot → ι → Prop, (Fa ρ i fun d j => isLst d fun ds => Inv ds ρ j) ∧ (∀ ρ j, Inv [] ρ j → D.nx ρ j) ∧ ∀ d ds ρ j, Inv (d :: ds) ρ j → Fb { nx := Inv ds, ct := Inv ds, bk := D.nx, rt := D.rt } (ρ.set n (.d d)) j) := by
  obtain ⟨t, h1, l1⟩ := ha.ex
  obtain ⟨u, h3, lb⟩ := hb.ex
  refine ⟨⟨_, ps_for hp hc (pi_seq h1) (pg_name (i := n) hN hi hx hf) h3 hs2, fun S σ H ρ i D Dh gd h q => ?_⟩⟩
  obtain ⟨Inv, h, k0, ks⟩ := h
  refine l1 S σ H ρ i _ _ gd h fun v d H1 j0 st hv hl => ?_
  cases d with
  | lst ds =>
    obtain ⟨p, xs, rfl, np, ep, hxs⟩ := dv_lst hv
    refine ⟨p, rfl, .inl ⟨⟨xs, .inl (.inl ep)⟩, ?_⟩⟩
    have g1 := gd.stepI st
    have fr1 : Fr S H S H1 := st.fr gd
    have wk : ∀ j : ι, WalkOk (G.at j) (Itl G.X.K p) ds S H1 := fun j => walk_lst np ep hxs
    refine ⟨fun r m σ' H' => m = ds.length - r ∧ r ≤ ds.length ∧ ∃ S' ρ' j, Gd (G.at j) S' σ' H' ρ' ∧ Fr S H1 S' H' ∧ Inv (ds.drop r) ρ' j, ⟨_, rfl, Nat.zero_le _, S, ρ, j0, g1, Fr.refl _ _, hl⟩, ?_⟩
    rintro r m σ' H' ⟨rfl, hr, S', ρ', j, g', fr, hf'⟩
    by_cases hlt : r < ds.length
    · refine .inr ⟨(wk j).go r S' H' hlt fr, fun σ2 H2 => ∃ S2 ρ2 j2, Gd (G.at j2) S2 σ2 H2 ρ2 ∧ Fr S H1 S2 H2 ∧ Inv (ds.drop (r + 1)) ρ2 j2, fun σ2 H2 ⟨S2, ρ2, j2, a1, a2, a3⟩ => ⟨_, by omega, rfl, hlt, S2, ρ2, j2, a1, a2, a3⟩, fun z H2 y => ?_⟩
      obtain ⟨s2, hd⟩ := (wk j).yld r _ S' σ' ρ' H' z H2 (List.getElem?_eq_getElem hlt) g' fr y
      have g2 := g'.step s2
      rw [List.drop_eq_getElem_cons hlt] at hf'
      have frx : Fr S' H' S' H2 := s2.fr g'
      refine lb S' _ H2 _ j _ _ (g2.set hd) (ks _ _ _ _ hf') ⟨fun S4 σ4 H4 ρ4 j4 g4 fr4 hn => ⟨S4, ρ4, j4, g4, (fr.trans frx).trans fr4, hn⟩, q.rt, fun S4 σ4 H4 ρ4 j4 g4 fr4 hn => q.nx S4 σ4 H4 ρ4 j4 g4 (fr1.trans ((fr.trans frx).trans fr4)) hn, fun S4 σ4 H4 ρ4 j4 g4 fr4 hn => ⟨S4, ρ4, j4, g4, (fr.trans frx).trans fr4, hn⟩⟩
    · have e : r = ds.length := by omega
      subst e
      rw [List.drop_length] at hf'
      exact .inl ⟨(wk j).stop S' H' fr, q.nx S' σ' H' ρ' j g' (fr1.trans fr) (k0 _ _ hf')⟩
  | _ => exact hl.elim
/-- a state that is opened: a family from here on -/
abbrev famAt {κ : Type} (X : Cx) (H : Hp) (S : Addr → Prop) (hS : ∀ a, S a → ∃ o, H a = some o) (st : Sta κ) (i0 : κ) (h0 : st.M i0 H) : Fam κ where
  X := X
  H0 := H
  S0 := S
  W := fun i H' => ExF st.fp H H' ∧ st.M i H'
  clo := fun i H1 H2 h k x => ⟨fun a o n e => k a o o e (h.1 a o n e), st.loc i H1 H2 h.2 (fun a o z e => by
    obtain ⟨o0, e0⟩ := st.dom i0 H h0 a z
    exact k a o o0 e0 e) x⟩
  top := fun i H1 h a o e => by
    by_cases z : st.fp a
    · exact st.dom i H1 h.2 a z
    · exact ⟨o, h.1 a o z e⟩
  s0 := hS
theorem gs_at {κ : Type} {X : Cx} {H : Hp} {S : Addr → Prop} {hS : ∀ a, S a → ∃ o, H a = some o} {st : Sta κ} {i0 : κ} {h0 : st.M i0 H} (hf : ∀ a, st.fp a → S a) : GS (famAt X H S hS st i0 h0) st (fun i => i) (fun _ j => j) :=
  ⟨hf, fun _ _ h => h.2, fun i j H1 H2 h e m => ⟨h.1.trans e, m⟩⟩
/-- statements, by whatever reading holds where they are begun -/
theorem pss_any {X : Cx} {sts : List Stmt} : PSs X sts (fun D σ H => ∃ t : TS, PSs X sts t ∧ t D σ H) := ⟨fun pins s σ H D I ⟨_, hp, hq⟩ => hp.run pins s σ H D I hq⟩
end
end DL
namespace DL
open PySem PySem.Spec PyProof.Rows L2 LamX
/-! ### the end of a row whose law is a def that asks for no repr under way, with one table -/
section
variable {P : Program} {w : World} {K : PySem.W.Frag} {mg mb : Str → Option Value} {k : Nat} {fa a c T : Addr} {fd : FuncData} {x : Str} {sp : Sp} {s : Shared} {vs : List Value} {ns : List Int}
/-- what is tracked at the start: the table, and the script where the module does not hold it -/
structure OnlyTS (K : PySem.W.Frag) (a T : Addr) (vs : List Value) (ns : List Int) (H : Hp) : Prop where
  tab : H T = some (.tbl #[])
  one : ∀ b u, H b = some u → (b = T ∧ u = .tbl #[]) ∨ (b = a ∧ u = .frz { cls := .type "list", data := .seq vs.toArray } (.lst (ns.map V.int)) ∧ K.lookup a = none)
  scr : SqL K H a (ns.map V.int)
theorem onlyTS_ex (KX : K.In s.heap) (hT : s.heap.get? T = some { cls := .none, data := .fields #[] }) (ha : s.heap.get? a = some { cls := .type "list", data := .seq vs.toArray }) (hi : IntsAre vs ns) (hl : ns.length ≤ sizeLine) : ∃ H, OnlyTS K a T vs ns H := by
  have aT : a ≠ T := fun z => by
    rw [z, hT] at ha
    injection ha with ha
    injection ha with _ _ ha _
    cases ha
  cases hk : K.lookup a with
  | some o =>
    have e := KX a o hk
    rw [ha] at e
    injection e with e
    subst e
    refine ⟨fun b => if b = T then some (.tbl #[]) else none, if_pos rfl, fun b u z => ?_, .inr ⟨_, vs.toArray, _, hk, rfl, rfl, rfl, by rw [List.size_toArray, hi.length]; exact hl, by simpa using vals_ints hi⟩⟩
    by_cases hb : b = T
    · rw [show (if b = T then some (HO.tbl #[]) else none) = some (.tbl #[]) from if_pos hb] at z
      cases z
      exact .inl ⟨hb, rfl⟩
    · rw [show (if b = T then some (HO.tbl #[]) else none) = none from if_neg hb] at z
      cases z
  | none =>
    refine ⟨upd (fun b => if b = T then some (.tbl #[]) else none) a (.frz { cls := .type "list", data := .seq vs.toArray } (.lst (ns.map V.int))), by rw [upd_ne (fun z => aT z.symm)]; exact if_pos rfl, fun b u z => ?_, .inl (.inr ⟨_, upd_same⟩)⟩
    by_cases hb : b = a
    · rw [hb, upd_same] at z
      cases z
      exact .inr ⟨hb, rfl, hk⟩
    · rw [upd_ne hb] at z
      by_cases hb2 : b = T
      · rw [if_pos hb2] at z
        cases z
        exact .inl ⟨hb2, rfl⟩
      · rw [if_neg hb2] at z
        cases z
theorem law_callG (KX : K.In s.heap) (hns : s.heap.Ns mainGlobals mg) (hb : s.heap.Ns builtinsNs mb) (hbb : ∀ x : Str, x ≠ "__name__" → mb x = bootBuiltins x) (hlim : s.heap.NoLimit) (hg : s.gens = #[]) (hT : s.heap.get? T = some { cls := .none, data := .fields #[] }) (nT : K.lookup T = none) (C : PySem.W.CodeHd s.heap c T)
    (hbm : ∃ (bm : Addr) (ob : Obj), mg "__builtins__" = some (.ref bm) ∧ bm ≠ builtinsNs ∧ s.heap.get? bm = some ob ∧ ob.cls = .type "module" ∧ ob.dict = some builtinsNs ∧ ob.data = .plain) (ha : s.heap.get? a = some { cls := .type "list", data := .seq vs.toArray }) (hi : IntsAre vs ns) (hl : ns.length ≤ sizeLine) (hr : Room k callerA)
    (F : ∀ base : Heap, K.In base → base.Ns mainGlobals mg → TabB base mg c T → FnG P w K mg base CX0 k fa fd [x] sp) (hbind : ∀ (s : Shared) (u : Value), BindsTo s fd ⟨[u], []⟩ [(x, u)]) (hsp : ∀ H : Hp, OnlyTS K a T vs ns H → sp [.ref a] H (fun v _ => v = .bl true) fun _ _ _ => False) :
    codeAny (model P w) callerA (.call (.ref fa) ⟨[.ref a], []⟩) (fun r s' => r = .ok (.ret (.bool true)) ∧ OldK s.heap s'.heap ∧ s'.os = s.os ∧ AllBare s'.gens) s := by
  obtain ⟨H, O⟩ := onlyTS_ex (T := T) KX hT ha hi hl
  -- what is neither a row of things nor an empty table is not tracked
  have other : ∀ {b : Addr} {o : Obj}, s.heap.get? b = some o → (∀ vs n, o.data ≠ .seq vs n) → o.data ≠ .fields #[] → H b = none := fun {b o} e h1 h2 => by
    cases q : H b with
    | none => rfl
    | some u =>
      rcases O.one b u q with ⟨e', _⟩ | ⟨e', _⟩
      · rw [e', hT] at e
        injection e with e
        subst e
        exact (h2 rfl).elim
      · rw [e', ha] at e
        injection e with e
        subst e
        exact (h1 _ _ rfl).elim
  have dictN : ∀ {b : Addr} {o : Obj} {es : Array DictEntry} {ep : Nat}, s.heap.get? b = some o → o.data = .dict es ep → H b = none := fun {b o es ep} e d => other e (fun vs n z => by rw [d] at z; cases z) (fun z => by rw [d] at z; cases z)
  have down : ∀ {b : Addr} {o : Obj}, s.heap.get? b = some o → H b = none → (hidT s.heap H).get? b = some o := fun e n => hidT_get e n
  have nsD : ∀ {b : Addr} {m : Str → Option Value}, s.heap.Ns b m → (hidT s.heap H).Ns b m := fun {b m} ⟨o, es, ep, e, d, r⟩ => ⟨o, es, ep, down e (dictN e d), d, r⟩
  have KB : K.In (hidT s.heap H) := fun b o e => down (KX b o e) (by
    cases q : H b with
    | none => rfl
    | some u =>
      rcases O.one b u q with ⟨e', _⟩ | ⟨e', _, e2⟩
      · rw [e', nT] at e; cases e
      · rw [e', e2] at e; cases e)
  have M : L2.Mod K mg (hidT s.heap H) := ⟨KB, nsD hns, ⟨mb, nsD hb, hbb⟩, let ⟨mc, h1, h2⟩ := hlim; ⟨mc, nsD h1, h2⟩⟩
  have noG : ∀ {b : Addr}, s.heap.get? b = some { cls := .none, data := .fields #[] } ∨ (∃ ob, s.heap.get? b = some ob ∧ ob.data = .plain) → b ≠ mainGlobals := fun {b} h z => by
    obtain ⟨o, es, ep, e, hd, _⟩ := hns
    rw [z] at h
    rcases h with h | ⟨ob, h, h2⟩
    · rw [e] at h; injection h with h; subst h; cases hd
    · rw [e] at h; injection h with h; subst h; rw [hd] at h2; cases h2
  have TB : TabB (hidT s.heap H) mg c T := by
    refine ⟨?_, ?_, fun z => noG (.inl hT) z.symm⟩
    · obtain ⟨o, us, file, tf, flags, tg, inF, text, tt, e1, r1, r2, r3, rest⟩ := C
      exact ⟨o, us, file, tf, flags, tg, inF, text, tt, down e1 (other e1 (fun vs n z => by rw [r2] at z; cases z) fun z => by rw [r2] at z; cases z; simp at r3), r1, r2, r3, rest⟩
    · obtain ⟨bm, ob, b1, b2, b3, b4, b5, b6⟩ := hbm
      refine ⟨bm, ob, b1, b2, noG (.inr ⟨ob, b3, b6⟩), fun q => ?_, down b3 (other b3 (fun vs n z => by rw [b6] at z; cases z) fun z => by rw [b6] at z; cases z), b4, b5, b6⟩
      rw [q, hT] at b3
      injection b3 with b3
      subst b3
      cases b6
  have hokH : HOk P w H s.heap := fun b u e => by
    rcases O.one b u e with ⟨rfl, rfl⟩ | ⟨rfl, rfl, _⟩
    · exact hT
    · exact ⟨ha, by rw [List.length_map]; exact hl, vs, _, vals_ints hi, ha⟩
  have start : Env0 P w K mg (hidT s.heap H) callerA [] s H := ⟨rfl, M, fun b o e => of_hidT e, Nat.le_of_eq (hidT_size _ _), trivial, fun b hb => (List.not_mem_nil hb).elim, hokH, .of_eq hg⟩
  refine codeAny_mono ((F _ KB (nsD hns) TB).run callerA [] s H ⟨[.ref a], []⟩ [.ref a] [.ref a] _ _ hr rfl start (hbind s (.ref a)) (.cons rfl .nil) (hsp H O)) fun r s' h => ?_
  match r, h with
  | .error e, h => exact (show False from h).elim
  | .ok .next, h => exact False.elim h
  | .ok .brk, h => exact False.elim h
  | .ok .cont, h => exact False.elim h
  | .ok (.ret u), ⟨v, H', os, bare, un, hok', rv, qv⟩ =>
    obtain rfl : v = .bl true := qv
    obtain rfl : u = Value.bool true := rv
    have stays : ∀ b o, b ≠ T → s.heap.get? b = some o → s'.heap.get? b = some o := fun b o nb e => by
      cases q : H b with
      | none => exact un.keep b o e q (fun z => (List.not_mem_nil (show b ∈ ([] : List Addr) from z)).elim) (fun z => (List.not_mem_nil z).elim)
      | some u =>
        rcases O.one b u q with ⟨e', _⟩ | ⟨_, rfl, _⟩
        · exact absurd e' nb
        · obtain ⟨e1, _⟩ := hokH b _ q
          obtain ⟨e2, _⟩ := hok' b _ (un.frzs b _ _ q)
          rw [e] at e1
          rw [e2, e1]
    obtain ⟨more, hm⟩ := un.tbls T #[] O.tab
    have hm' : s'.heap.get? T = some { cls := .none, data := .fields (#[] ++ more) } := hok' T _ hm
    rw [Array.empty_append] at hm'
    refine ⟨rfl, ⟨fun b o e => ?_, fun b o e => ?_⟩, os, bare⟩
    · by_cases hbT : b = T
      · subst hbT
        rw [hT] at e
        injection e with e
        subst e
        exact .inr (.inl ⟨(C.tab hT).isCodeTable, rfl, #[], more, rfl, by rw [Array.empty_append]; exact hm'⟩)
      · exact .inl (stays b o hbT e)
    · by_cases hbT : b = T
      · exact ⟨_, by rw [hbT]; exact hm'⟩
      · exact ⟨o, stays b o hbT e⟩
/-- what the head's heap must say of the law -/
def LawAtG (l : PySem.W.OpenLaw) (w : World) (K : PySem.W.Frag) (k n : Nat) (x : Str) (mg : Str → Option Value) (fa : Addr) (h : Heap) : Prop := ∃ (fd : FuncData) (c T : Addr) (sp : Sp), h.get? T = some { cls := .none, data := .fields #[] } ∧ K.lookup T = none ∧ PySem.W.CodeHd h c T ∧ (∀ (s : Shared) (u : Value), BindsTo s fd ⟨[u], []⟩ [(x, u)]) ∧
  (∀ (H : Hp) (a : Addr) (vs : List Value) (ns : List Int), ns.length ≤ n → OnlyTS K a T vs ns H → sp [.ref a] H (fun v _ => v = .bl true) fun _ _ _ => False) ∧ ∀ base : Heap, K.In base → base.Ns mainGlobals mg → TabB base mg c T → FnG l.prog w K mg base CX0 k fa fd [x] sp
theorem walk_ofG {l : PySem.W.OpenLaw} {n k : Nat} {q : Program} {loose : List Str} {XP : (Str → Option Value) → Heap → Prop} {YP : World → Heap → Prop} {d : DefRec} {K : Params → PySem.W.Frag} {x : Str} (hn : l.most = some n) (hn2 : n ≤ sizeLine) (hdf : d.params.defaults = []) (hr : Room k callerA) (hY : ∀ (w : World) (h : Heap), YP w h → (K w.params).In h)
    (F : ∀ (w : World) (mg : Str → Option Value) (fa : Addr) (h : Heap), YP w h → (K w.params).In h → h.Ns mainGlobals mg → mg d.name = some (.ref fa) → LawAtG l w (K w.params) k n x mg fa h) : PySem.W.WalkO q loose XP YP l.row.toRowW d [] (fun f vs => PySem.call f vs) :=
  Att.attach_callB hn hdf fun w s₀ s₁ mg mb fa o pm cd doc a vs ns G Y ho hd hcd hmg hobj hints hlen hbits hg => by
    have KX := hY w _ Y
    obtain ⟨fd, c, T, sp, hT, nT, C, hb, hsp, hF⟩ := F w mg fa _ Y KX G.T.g hmg
    exact law_callG KX G.T.g G.T.b G.T.builtins G.T.nolimit hg hT nT C G.T.bmain hobj hints (Nat.le_trans hlen hn2) hr hF hb fun H O => hsp H a vs ns hlen O
end
end DL
namespace K01
open PySem PySem.Spec PyProof.Rows L2 DL
/-! texts are of a length that may be asked for -/
mutual
def Fine : Dat → Prop
  | .str z => z.length ≤ 10000
  | .tup ds => Fines ds
  | .lst ds => Fines ds
  | .dic ks ds => Fines ds
  | _ => True
def Fines : List Dat → Prop
  | [] => True
  | d :: ds => Fine d ∧ Fines ds
end
theorem Fines.get : ∀ {ds : List Dat} {i : Nat} {d : Dat}, Fines ds → ds[i]? = some d → Fine d
  | [], _, _, _, h => by simp at h
  | d :: ds, 0, d', f, h => by simp at h; subst h; exact f.1
  | d :: ds, i + 1, d', f, h => Fines.get f.2 (by simpa using h)
theorem Fines.mem {ds : List Dat} {d : Dat} (f : Fines ds) (h : d ∈ ds) : Fine d := by
  obtain ⟨i, hi, e⟩ := List.mem_iff_getElem.mp h
  exact f.get (i := i) (by rw [List.getElem?_eq_getElem hi, e])
theorem fine_str {z : Str} (h : Fine (.str z)) : z.length ≤ 10000 := h
theorem fine_line {z : Str} (h : Fine (.str z)) : z.length ≤ sizeLine := Nat.le_trans (fine_str h) (by decide)
/-! ### the mirror -/
def hasWord : Dat → Bool
  | .tup (.str _ :: _) => true
  | _ => false
def sorts : List Str := ["thing", "num", "tree", "set", "bits"]
def isSort : Dat → Bool
  | .str z => decide (z ∈ sorts)
  | _ => false
def small (c : Nat) : Bool := decide (97 ≤ c) && decide (c ≤ 122)
def isName : Dat → Bool
  | .str z => decide (1 ≤ z.length) && decide (z.length ≤ 6) && z.cps.toList.all small
  | _ => false
/-- a word's row: its sort, the bounds of its number, the sorts within -/
abbrev Row := Str × Option (Int × Int) × List Str
def table : List (Str × Row) := [("number", "num", some (-1000000, 1000000), []), ("plus", "num", none, ["num", "num"]), ("times", "num", some (-1000000, 1000000), ["num"]), ("tip", "tree", none, ["num"]), ("node", "tree", none, ["tree", "tree"]),
  ("none", "set", none, []), ("one", "set", none, ["num"]), ("union", "set", none, ["set", "set"]), ("both", "set", none, ["set", "set"]), ("without", "set", none, ["set", "set"]),
  ("bits", "bits", some (0, 15), []), ("band", "bits", none, ["bits", "bits"]), ("bor", "bits", none, ["bits", "bits"]), ("badd", "bits", none, ["bits", "bits"]), ("bnot", "bits", none, ["bits"])]
def row (w : Str) : Option Row := (table.find? fun p => decide (p.1 = w)).map (·.2)
theorem row_mem {w : Str} {r : Row} (h : row w = some r) : (w, r) ∈ table := by
  unfold row at h
  cases e : table.find? fun p => decide (p.1 = w) with
  | none => rw [e] at h; cases h
  | some p =>
    rw [e] at h
    cases h
    have e1 : p.1 = w := by simpa using List.find?_some e
    rw [← e1]
    exact List.mem_of_find?_eq_some e
def bndD : Option (Int × Int) → Dat
  | none => .tup []
  | some (lo, hi) => .tup [.int lo, .int hi]
def rowD (r : Row) : Dat := .tup [.str r.1, bndD r.2.1, .tup (r.2.2.map Dat.str)]
def words (z : Str) : Option Dat := (row z).map rowD
/-- what stands behind a word of the table -/
def behind (b : Option (Int × Int)) (n : Nat) (r : List Dat) : Option (List Dat) := match b with
  | none => if r.length = n then some r else none
  | some (lo, hi) => match r with
    | .int i :: r' => if r'.length = n ∧ lo ≤ i ∧ i ≤ hi then some r' else none
    | _ => none
def strOr (d : Dat) : Str := match d with
  | .str z => z
  | _ => ""
/-- the sorts wanted, what stands within, its own sort -/
def shape (d : Dat) : Option (List Str × List Dat × Str) := match d with
  | .tup (.str w :: r) =>
    if w = "name" then (match r with
      | [n, s] => if isName n && isSort s then some ([], [], strOr s) else none
      | _ => none)
    else if w = "call" then (match r with
      | [n, .tup ts, s] => if isName n && isSort s && decide (1 ≤ ts.length) && decide (ts.length ≤ 3) then some (List.replicate ts.length "", ts, strOr s) else none
      | _ => none)
    else match row w with
      | none => none
      | some (k, b, ss) => (behind b ss.length r).map fun ts => (ss, ts, k)
  | _ => none
def topS (i : Nat) : Stmt := PySem.Challenge.pw_allsorts_k01_what_is_a_term.main.body.getD i (.Pass ⟨0, 0, 0, 0⟩)
/-- one argument -/
def con1 (pre : Dat → Prop) (f : Dat → Dat) : Con := ⟨fun ds P _ => ∃ d, ds = [d] ∧ pre d ∧ P (f d), fun _ _ _ _ _ ⟨d, e, h, q⟩ m _ => ⟨d, e, h, m _ q⟩⟩
section
variable {P : Program} {w : World} {K : PySem.W.Frag} {mg : Str → Option Value} {base : Heap} {f : Addr} {fd : FuncData} {k : Nat}
/-! ### has_word, is_sort, is_name -/
abbrev s_has_word : Stmt := topS 11
theorem sc_has_word : FnScope ["thing"] ["thing"] (defScope s_has_word) := ⟨rfl, rfl, rfl, by decide +kernel, rfl, by decide +kernel, by decide +kernel⟩
def c_has_word : Con := con1 (fun _ => True) fun d => .bl (hasWord d)
theorem ok_has_word (B : Bt mg) (F : Fun K "has_word" "has_word" s_has_word f fd) : FnOk P w K mg base CX0 (k + 1) f fd ["thing"] (spD K c_has_word) := by
  refine fn_pure F sc_has_word (fun ds P X ⟨d, e, _⟩ => by rw [e]; rfl) fun cdv A outer s H S hS hr => ?_
  have nd := sc_has_word.nd
  refine ⟨_, (db_one (ds_ret (de_and (de_type (TT := "tuple") (he := (de_var 0)) (hm := B.type) (hmT := B.tuple) (hv := by decide +kernel) (hn := by decide) (hd := by decide)) (de_and (de_gt (de_len B.len (da_cons (de_var 0) da_nil)) de_int) (de_one (de_type (TT := "str") (he := (de_ix (de_var 0) de_int)) (hm := B.type) (hmT := B.str) (hv := by decide +kernel) (hn := by decide) (hd := by decide))))))), ?_⟩
  rintro ds R X ⟨d, rfl, _, h⟩
  cases d with
  | tup xs =>
    cases xs with
    | nil => exact h
    | cons x r =>
      simp [rd, DL.start, isB, tyName, lenD, int0, ixD, someD, atI, ixN]
      cases x <;> simpa [hasWord, tyName, someD] using h
  | _ => exact h
abbrev s_is_sort : Stmt := topS 12
theorem sc_is_sort : FnScope ["thing"] ["thing"] (defScope s_is_sort) := ⟨rfl, rfl, rfl, by decide +kernel, rfl, by decide +kernel, by decide +kernel⟩
def c_is_sort : Con := con1 (fun _ => True) fun d => .bl (isSort d)
theorem ok_is_sort (B : Bt mg) (C_SORTS : CT K mg "SORTS" (.tup (sorts.map Dat.str))) (F : Fun K "is_sort" "is_sort" s_is_sort f fd) : FnOk P w K mg base CX0 (k + 1) f fd ["thing"] (spD K c_is_sort) := by
  refine fn_pure F sc_is_sort (fun ds P X ⟨d, e, _⟩ => by rw [e]; rfl) fun cdv A outer s H S hS hr => ?_
  have nd := sc_is_sort.nd
  refine ⟨_, (db_one (ds_ret (de_and (de_type (TT := "str") (he := (de_var 0)) (hm := B.type) (hmT := B.str) (hv := by decide +kernel) (hn := by decide) (hd := by decide)) (de_one (de_in (de_var 0) (de_ctup C_SORTS)))))), ?_⟩
  rintro ds R X ⟨d, rfl, _, h⟩
  cases d with
  | str z => exact h
  | _ => exact h
end
end K01
namespace K01
open PySem PySem.Spec PyProof.Rows L2 DL
theorem compF_map {j : Nat} {Fe : FE} {ρ : List DL.Slot} {f : Dat → Dat} : ∀ {items acc : List Dat} {P : List Dat → Prop}, (∀ d ∈ items, ∀ R : Dat → Prop, R (f d) → Fe (ρ.set j (.d d)) R) → acc.length + items.length ≤ sizeLine → P (acc ++ items.map f) →
    compF (gNm j) (fun _ P => P true) Fe ρ items acc P
  | [], acc, P, _, _, h => by simpa [compF] using h
  | d :: ds, acc, P, he, hl, h => by
    unfold compF
    refine he d List.mem_cons_self _ ⟨by simp at hl; omega, ?_⟩
    exact compF_map (fun x hx => he x (List.mem_cons_of_mem _ hx)) (by simp at hl ⊢; omega) (by simpa using h)
theorem line_big : 100000 ≤ sizeLine := by decide
theorem small_of (c : Nat) : (!decide (([c] : List Nat) < [97]) && !decide (([122] : List Nat) < [c])) = small c := by
  unfold small
  have h1 : (([c] : List Nat) < [97]) ↔ c < 97 := by
    rw [List.cons_lt_cons_iff]; simp
  have h2 : (([122] : List Nat) < [c]) ↔ 122 < c := by
    rw [List.cons_lt_cons_iff]; simp
  have e1 : decide (([c] : List Nat) < [97]) = decide (c < 97) := decide_eq_decide.mpr h1
  have e2 : decide (([122] : List Nat) < [c]) = decide (122 < c) := decide_eq_decide.mpr h2
  rw [e1, e2]
  by_cases a : c < 97 <;> by_cases b : 122 < c <;> simp [a, b] <;> omega
theorem blsOf_map (g : Nat → Bool) : ∀ cs : List Nat, blsOf (cs.map fun c => Dat.bl (g c)) = some (cs.map g)
  | [] => rfl
  | c :: cs => by simp [blsOf, blsOf_map g cs]
def nameOf (d : Dat) : Dat := match d with
  | .str z => .bl (match z.cps.toList with | [c] => small c | _ => false)
  | _ => .bl false
section
variable {P : Program} {w : World} {K : PySem.W.Frag} {mg : Str → Option Value} {base : Heap} {f : Addr} {fd : FuncData} {k : Nat}
abbrev s_is_name : Stmt := topS 24
theorem sc_is_name : FnScope ["thing", "sign"] ["thing"] (defScope s_is_name) := ⟨rfl, rfl, rfl, by decide +kernel, rfl, by decide +kernel, by decide +kernel⟩
def c_is_name : Con := con1 Fine fun d => .bl (isName d)
theorem ok_is_name (B : Bt mg) (C_MOST_LETTERS : CI mg "MOST_LETTERS" 6) (F : Fun K "is_name" "is_name" s_is_name f fd) : FnOk P w K mg base CX0 (k + 1) f fd ["thing"] (spD K c_is_name) := by
  refine fn_pure F sc_is_name (fun ds P X ⟨d, e, _⟩ => by rw [e]; rfl) fun cdv A outer s H S hS hr => ?_
  have nd := sc_is_name.nd
  refine ⟨_, (db_cons (ds_if (dt_w (dw_or (dt_ntype (TT := "str") (he := (de_var 0)) (hm := B.type) (hmT := B.str) (hv := by decide +kernel) (hn := by decide) (hd := by decide)) (dw_or (dt_lt (de_len B.len (da_cons (de_var 0) da_nil)) de_int) (dw_or1 (dt_gt (de_len B.len (da_cons (de_var 0) da_nil)) (de_ci C_MOST_LETTERS)))))) (db_one (ds_ret de_bl)) db_nil) (db_one (ds_ret (de_all rfl B.all (da_cons (de_lc 1 (x := "sign") rfl nd (di_str (de_var 0)) (blkOk_by (own := [("sign", 1)]) (N := ["thing", "sign"]) (sc := defScope s_is_name) (by decide +kernel)) (fun _ _ _ _ _ => pg_name (i := 1) nd rfl (Or.inl rfl)) (fun _ _ _ _ _ => dts_nil) (fun _ _ _ _ _ => (de_chain_le de_str (de_var 1) de_str))) da_nil))))), ?_⟩
  rintro ds R X ⟨d, rfl, hf, h⟩
  replace h : R (.bl (isName d)) := h
  cases d with
  | str z =>
    have hl := fine_line hf
    by_cases h1 : z.length < 1
    · have e : isName (.str z) = false := by simp [isName]; omega
      rw [e] at h
      simp [rd, DL.start, isB, tyName, lenD, int0, hl]
      rw [if_pos (by omega)]
      exact h
    · by_cases h2 : 6 < z.length
      · have e : isName (.str z) = false := by simp [isName]; omega
        rw [e] at h
        simp [rd, DL.start, isB, tyName, lenD, int0, hl]
        rw [if_neg (by omega), if_pos (by omega)]
        exact h
      · have e : isName (.str z) = z.cps.toList.all small := by
          simp only [isName]
          rw [decide_eq_true (show 1 ≤ z.length by omega), decide_eq_true (show z.length ≤ 6 by omega)]; rfl
        rw [e] at h
        simp [rd, DL.start, isB, tyName, lenD, int0, hl]
        rw [if_neg (by omega), if_neg (by omega)]
        refine compF_map (f := nameOf) (fun d hd R hR => ?_) (by have := line_big; simp [DL.signs]; have : z.cps.size = z.length := rfl; omega) ?_
        · obtain ⟨c, hc, rfl⟩ := List.mem_map.mp hd
          have e1 : nameOf (.str ⟨#[c]⟩) = .bl (small c) := rfl
          rw [e1, ← small_of] at hR
          have ea : (Str.ofString "a").cps.toList = [97] := by decide +kernel
          have ez : (Str.ofString "z").cps.toList = [122] := by decide +kernel
          show if (!decide (([c] : List Nat) < (Str.ofString "a").cps.toList)) = true then R (.bl (!decide ((Str.ofString "z").cps.toList < ([c] : List Nat)))) else R (.bl false)
          rw [ea, ez]
          cases hx : decide (([c] : List Nat) < [97]) with
          | true => rw [hx] at hR; exact hR
          | false => rw [hx] at hR; exact hR
        · have e2 : (DL.signs z).map nameOf = z.cps.toList.map fun c => Dat.bl (small c) := by
            rw [DL.signs, List.map_map]; rfl
          rw [List.nil_append, e2]
          simp only [allD, blsOf_map, someD]
          rw [List.all_map]
          exact h
  | _ => exact h
end
end K01
namespace K01
open PySem PySem.Spec PyProof.Rows L2 DL
def conE {α : Type} (args : α → List Dat) (pre : α → Prop) (out : α → Dat) : Con := ⟨fun ds P _ => ∃ a, ds = args a ∧ pre a ∧ P (out a), fun _ _ _ _ _ ⟨a, e, h, q⟩ m _ => ⟨a, e, h, m _ q⟩⟩
def callSh (r : List Dat) : Option (List Str × List Dat × Str) := match r with
  | [n, .tup ts, s] => if isName n && isSort s && decide (1 ≤ ts.length) && decide (ts.length ≤ 3) then some (List.replicate ts.length "", ts, strOr s) else none
  | _ => none
theorem callSh_len {r : List Dat} (h : r.length ≠ 3) : callSh r = none := by
  unfold callSh
  split
  · exact absurd rfl h
  · rfl
def sortsD (o : Option (List Str × List Dat × Str)) : Dat := match o with
  | none => .non
  | some (ss, _, _) => .tup (ss.map Dat.str)
theorem con1_C {pre : Dat → Prop} {g : Dat → Dat} {a : Dat} {P : Dat → Prop} {X : Exc → Prop} : (con1 pre g).C [a] P X ↔ pre a ∧ P (g a) :=
  ⟨fun ⟨d, e, h, q⟩ => by cases e; exact ⟨h, q⟩, fun h => ⟨a, rfl, h.1, h.2⟩⟩
section
variable {P : Program} {w : World} {K : PySem.W.Frag} {mg : Str → Option Value} {base : Heap} {f : Addr} {fd : FuncData} {k : Nat}
abbrev s_has_row : Stmt := topS 13
theorem sc_has_row : FnScope ["thing", "bounds", "sorts"] ["thing", "bounds", "sorts"] (defScope s_has_row) := ⟨rfl, rfl, rfl, by decide +kernel, rfl, by decide +kernel, by decide +kernel⟩
def c_has_row : Con := conE (α := Str × List Dat × Option (Int × Int) × List Str) (fun a => [.tup (.str a.1 :: a.2.1), bndD a.2.2.1, .tup (a.2.2.2.map Dat.str)]) (fun _ => True) fun a => .bl (behind a.2.2.1 a.2.2.2.length a.2.1).isSome
theorem ok_has_row (B : Bt mg) (F : Fun K "has_row" "has_row" s_has_row f fd) : FnOk P w K mg base CX0 (k + 1) f fd ["thing", "bounds", "sorts"] (spD K c_has_row) := by
  refine fn_pure F sc_has_row (fun ds P X ⟨d, e, _⟩ => by rw [e]; rfl) fun cdv A outer s H S hS hr => ?_
  have nd := sc_has_row.nd
  refine ⟨_, (db_cons (ds_if (dt_eq hr.units (de_len B.len (da_cons (de_var 1) da_nil)) de_int) (db_one (ds_ret (de_eq hr.units (de_len B.len (da_cons (de_var 0) da_nil)) (de_add de_int (de_len B.len (da_cons (de_var 2) da_nil)))))) db_nil) (db_cons (ds_if (dt_w (dw_or (dt_ne hr.units (de_len B.len (da_cons (de_var 0) da_nil)) (de_add de_int (de_len B.len (da_cons (de_var 2) da_nil)))) (dw_or1 (dt_ntype (TT := "int") (he := (de_ix (de_var 0) de_int)) (hm := B.type) (hmT := B.int) (hv := by decide +kernel) (hn := by decide) (hd := by decide))))) (db_one (ds_ret de_bl)) db_nil) (db_one (ds_ret (de_chain_le (de_ix (de_var 1) de_int) (de_ix (de_var 0) de_int) (de_ix (de_var 1) de_int)))))), ?_⟩
  rintro ds R X ⟨⟨w, r, b, ss⟩, rfl, _, h⟩
  replace h : R (.bl (behind b ss.length r).isSome) := h
  cases b with
  | none =>
    have e : (behind none ss.length r).isSome = decide ((((r.length + 1 : Nat) : Int)) = 1 + ((ss.map Dat.str).length : Nat)) := by
      unfold behind
      by_cases hx : r.length = ss.length
      · rw [if_pos hx, decide_eq_true (by rw [List.length_map]; omega)]; rfl
      · rw [if_neg hx, decide_eq_false (by rw [List.length_map]; omega)]; rfl
    rw [e] at h
    exact h
  | some p =>
    obtain ⟨lo, hi⟩ := p
    simp [rd, DL.start, bndD, isB, lenD, eqD, addD, neD, ixD]
    by_cases hx : r.length = 1 + ss.length
    · obtain ⟨x, r', rfl⟩ : ∃ x r', r = x :: r' := by
        cases r with
        | nil => simp at hx; omega
        | cons x r' => exact ⟨x, r', rfl⟩
      have hx' : r'.length = ss.length := by simp at hx; omega
      have hc : (((x :: r').length : Nat) : Int) + 1 = 2 + (ss.length : Nat) := by simp; omega
      rw [if_pos hc]
      simp only [at0, at1, someD]
      have tail : ∀ i : Int, (leD (.int lo) (.int i) fun z => match z with
          | Dat.bl b => if b = true then leD (.int i) (.int hi) R else R (.bl false)
          | x => False) ↔ R (.bl (decide (lo ≤ i) && decide (i ≤ hi))) := fun i => by
        by_cases a1 : lo ≤ i <;> simp [leD, a1]
      cases x with
      | int i =>
        rw [if_pos (show tyName (Dat.int i) = "int" from rfl)]
        refine (tail i).mpr ?_
        have e : (behind (some (lo, hi)) ss.length (.int i :: r')).isSome = (decide (lo ≤ i) && decide (i ≤ hi)) := by
          show (if r'.length = ss.length ∧ lo ≤ i ∧ i ≤ hi then some r' else none).isSome = _
          by_cases a1 : lo ≤ i <;> by_cases a2 : i ≤ hi <;> simp [hx', a1, a2]
        rw [← e]; exact h
      | _ => exact h
    · have hc : ¬ ((r.length : Nat) : Int) + 1 = 2 + (ss.length : Nat) := by omega
      rw [if_neg hc]
      have e : (behind (some (lo, hi)) ss.length r).isSome = false := by
        cases r with
        | nil => rfl
        | cons x r' =>
          cases x with
          | int i =>
            show (if r'.length = ss.length ∧ lo ≤ i ∧ i ≤ hi then some r' else none).isSome = false
            rw [if_neg (fun z => hx (by rw [List.length_cons, z.1]; omega))]; rfl
          | _ => rfl
      rw [e] at h
      exact h
abbrev s_sorts_in_call : Stmt := topS 14
theorem sc_sorts_in_call : FnScope ["thing"] ["thing"] (defScope s_sorts_in_call) := ⟨rfl, rfl, rfl, by decide +kernel, rfl, by decide +kernel, by decide +kernel⟩
def c_sorts_in_call : Con := conE (α := Str × List Dat) (fun a => [.tup (.str a.1 :: a.2)]) (fun a => Fines a.2) fun a => sortsD (callSh a.2)
theorem ok_sorts_in_call (B : Bt mg) (C_MOST_TERMS : CI mg "MOST_TERMS" 3) (F_is_name : Callee P w K mg base "is_name" k ["thing"] c_is_name) (F_is_sort : Callee P w K mg base "is_sort" k ["thing"] c_is_sort) (F : Fun K "sorts_in_call" "sorts_in_call" s_sorts_in_call f fd) : FnOk P w K mg base CX0 (k + 1) f fd ["thing"] (spD K c_sorts_in_call) := by
  refine fn_pure F sc_sorts_in_call (fun ds P X ⟨d, e, _⟩ => by rw [e]; rfl) fun cdv A outer s H S hS hr => ?_
  have nd := sc_sorts_in_call.nd
  refine ⟨_, (db_cons (ds_if (dt_w (dw_or (dt_ne hr.units (de_len B.len (da_cons (de_var 0) da_nil)) de_int) (dw_or (dt_not (dt_val (de_fn F_is_name hr (da_cons (de_ix (de_var 0) de_int) da_nil) (by omega)))) (dw_or (dt_not (dt_val (de_fn F_is_sort hr (da_cons (de_ix (de_var 0) de_int) da_nil) (by omega)))) (dw_or1 (dt_ntype (TT := "tuple") (he := (de_ix (de_var 0) de_int)) (hm := B.type) (hmT := B.tuple) (hv := by decide +kernel) (hn := by decide) (hd := by decide))))))) (db_one (ds_ret de_non)) db_nil) (db_cons (ds_if (dt_w (dw_or (dt_lt (de_len B.len (da_cons (de_ix (de_var 0) de_int) da_nil)) de_int) (dw_or1 (dt_gt (de_len B.len (da_cons (de_ix (de_var 0) de_int) da_nil)) (de_ci C_MOST_TERMS))))) (db_one (ds_ret de_non)) db_nil) (db_one (ds_ret (de_rep (de_tup (da_cons de_str da_nil)) (de_len B.len (da_cons (de_ix (de_var 0) de_int) da_nil))))))), ?_⟩
  rintro ds R X ⟨⟨w, r⟩, rfl, hf, h⟩
  replace h : R (sortsD (callSh r)) := h
  replace hf : Fines r := hf
  simp only [rd, DL.start, List.map_cons, List.map_nil, List.length_cons, List.length_nil, List.cons_append, List.nil_append, List.getElem?_cons_zero, lenD_tup, neD_int, isB_bl, ixD_tup]
  rcases r with _ | ⟨a, _ | ⟨b, _ | ⟨c, _ | ⟨d, r⟩⟩⟩⟩
  · rw [callSh_len (by decide)] at h; simp; exact h
  · rw [callSh_len (by simp)] at h; simp; exact h
  · rw [callSh_len (by simp)] at h; simp; exact h
  · obtain ⟨fa, fb, fc, _⟩ := hf
    simp [at1, at2, at3, someD_some, c_is_name, c_is_sort, con1_C, isB_bl]
    refine ⟨fa, ?_⟩
    by_cases h1 : isName a = true
    · by_cases h2 : isSort c = true
      · rw [if_pos h1, if_pos h2]
        cases b with
        | tup ts =>
          rw [if_pos tyName_tup]
          simp only [lenD_tup, int0_int, isB_bl]
          have e : callSh [a, .tup ts, c] = if decide (1 ≤ ts.length) && decide (ts.length ≤ 3) then some (List.replicate ts.length ("" : Str), ts, strOr c) else none := by
            show (if isName a && isSort c && decide (1 ≤ ts.length) && decide (ts.length ≤ 3) then _ else none) = _
            rw [h1, h2]; rfl
          rw [e] at h
          by_cases h3 : ts.length < 1
          · rw [if_pos (decide_eq_true (by omega))]
            rw [decide_eq_false (by omega)] at h
            exact h
          · rw [if_neg (by rw [decide_eq_false (by omega)]; decide)]
            by_cases h4 : 3 < ts.length
            · rw [if_pos (decide_eq_true (by omega))]
              rw [decide_eq_true (by omega : 1 ≤ ts.length), decide_eq_false (by omega)] at h
              exact h
            · rw [if_neg (by rw [decide_eq_false (by omega)]; decide)]
              rw [decide_eq_true (by omega : 1 ≤ ts.length), decide_eq_true (by omega : ts.length ≤ 3)] at h
              refine ⟨by decide, ?_⟩
              rw [repD_tup]
              refine ⟨by simp, by omega, by omega, by decide, ?_⟩
              have e2 : (List.replicate ((ts.length : Nat) : Int).toNat [Dat.str (Str.ofString "")]).flatten = (List.replicate ts.length ("" : Str)).map Dat.str := by
                rw [Int.toNat_natCast]
                generalize ts.length = n
                induction n with
                | zero => rfl
                | succ n ih => rw [List.replicate_succ, List.flatten_cons, ih, List.replicate_succ]; rfl
              rw [e2]
              exact h
        | _ => exact h
      · rw [if_pos h1, if_neg h2]
        have e : callSh [a, b, c] = none := by
          cases b with
          | tup ts =>
            show (if isName a && isSort c && decide (1 ≤ ts.length) && decide (ts.length ≤ 3) then _ else none) = _
            rw [Bool.eq_false_iff.mpr h2, Bool.and_false]; rfl
          | _ => rfl
        rw [e] at h
        exact h
    · rw [if_neg h1]
      have e : callSh [a, b, c] = none := by
        cases b with
        | tup ts =>
          show (if isName a && isSort c && decide (1 ≤ ts.length) && decide (ts.length ≤ 3) then _ else none) = _
          rw [Bool.eq_false_iff.mpr h1]; rfl
        | _ => rfl
      rw [e] at h
      exact h
  · have hc : ¬ (((a :: b :: c :: d :: r).length : Nat) : Int) + 1 = 4 := by simp; omega
    rw [callSh_len (by simp)] at h
    have hd : (!decide ((((a :: b :: c :: d :: r).length + 1 : Nat) : Int) = 4)) = true := by
      rw [decide_eq_false (by simp; omega)]; rfl
    simp only [hd, if_true]
    exact h
end
end K01
namespace K01
open PySem PySem.Spec PyProof.Rows L2 DL
section
variable {P : Program} {w : World} {K : PySem.W.Frag} {mg : Str → Option Value} {base : Heap} {f : Addr} {fd : FuncData} {k : Nat}
/-- the table of words stands there -/
structure TW (K : PySem.W.Frag) (w : World) (mg : Str → Option Value) (x : Str) (td : Str → Option Dat) : Prop where
  ex : ∃ d tv, WD K w d tv ∧ TabOk K tv td ∧ mg x = some (.ref d)
theorem behind_none {n : Nat} {r ts : List Dat} (h : behind none n r = some ts) : ts = r ∧ r.length = n := by
  have h' : (if r.length = n then some r else none) = some ts := h
  by_cases e : r.length = n
  · rw [if_pos e] at h'
    exact ⟨(Option.some.inj h').symm, e⟩
  · rw [if_neg e] at h'; cases h'
theorem behind_some {n : Nat} {r ts : List Dat} {lo hi : Int} (h : behind (some (lo, hi)) n r = some ts) : ∃ i, r = .int i :: ts ∧ ts.length = n ∧ lo ≤ i ∧ i ≤ hi := by
  cases r with
  | nil => cases h
  | cons x r' =>
    cases x with
    | int i =>
      have h' : (if r'.length = n ∧ lo ≤ i ∧ i ≤ hi then some r' else none) = some ts := h
      by_cases e : r'.length = n ∧ lo ≤ i ∧ i ≤ hi
      · rw [if_pos e] at h'
        cases h'
        exact ⟨i, rfl, e⟩
      · rw [if_neg e] at h'; cases h'
    | _ => cases h
theorem cut_from {α : Type} (xs : List α) (j : Nat) : cutG xs (some (j : Int)) none = xs.drop j := by
  unfold cutG
  rw [HT.sIx_nat xs.length 0 j, HT.sIx_none]
  by_cases h : j ≤ xs.length
  · rw [Nat.min_eq_left h, List.take_of_length_le (by rw [List.length_drop]; exact Nat.le_refl _)]
  · rw [Nat.min_eq_right (by omega), List.drop_length, List.drop_eq_nil_of_le (by omega), List.take_nil]
theorem cut1' {α : Type} (x : α) (r : List α) : cutG (x :: r) (some 1) none = r := cut_from (x :: r) 1
theorem cut2' {α : Type} (x y : α) (r : List α) : cutG (x :: y :: r) (some 2) none = r := cut_from (x :: y :: r) 2
theorem shape_word {w0 k0 : Str} {b : Option (Int × Int)} {ss : List Str} {r : List Dat} (hn : w0 ≠ "name") (hc : w0 ≠ "call") (hr : row w0 = some (k0, b, ss)) : shape (.tup (.str w0 :: r)) = (behind b ss.length r).map fun ts => (ss, ts, k0) := by
  unfold shape
  simp only
  rw [if_neg hn, if_neg hc, hr]
theorem shape_noword {w0 : Str} {r : List Dat} (hn : w0 ≠ "name") (hc : w0 ≠ "call") (hr : row w0 = none) : shape (.tup (.str w0 :: r)) = none := by
  unfold shape
  simp only
  rw [if_neg hn, if_neg hc, hr]
abbrev s_sorts_within : Stmt := topS 15
theorem sc_sorts_within : FnScope ["thing", "_", "bounds", "sorts"] ["thing"] (defScope s_sorts_within) := ⟨rfl, rfl, rfl, by decide +kernel, rfl, by decide +kernel, by decide +kernel⟩
-- calls ['has_word', 'is_sort', 'is_name', 'sorts_in_call', 'has_row'] consts ['TERM_WORDS']
def c_sorts_within : Con := con1 Fine fun d => sortsD (shape d)
theorem ok_sorts_within (B : Bt mg) (TWt : TW K w mg "TERM_WORDS" words) (F_has_word : Callee P w K mg base "has_word" k ["thing"] c_has_word) (F_is_name : Callee P w K mg base "is_name" k ["thing"] c_is_name) (F_is_sort : Callee P w K mg base "is_sort" k ["thing"] c_is_sort) (F_sorts_in_call : Callee P w K mg base "sorts_in_call" k ["thing"] c_sorts_in_call)
    (F_has_row : Callee P w K mg base "has_row" k ["thing", "bounds", "sorts"] c_has_row) (F : Fun K "sorts_within" "sorts_within" s_sorts_within f fd) : FnOk P w K mg base CX0 (k + 1) f fd ["thing"] (spD K c_sorts_within) := by
  obtain ⟨dW, tv, W_TERM_WORDS, T_TERM_WORDS, C_TERM_WORDS⟩ := TWt.ex
  refine fn_pure F sc_sorts_within (fun ds P X ⟨d, e, _⟩ => by rw [e]; rfl) fun cdv A outer s H S hS hr => ?_
  have nd := sc_sorts_within.nd
  refine ⟨_, (db_cons (ds_if (dt_not (dt_val (de_fn F_has_word hr (da_cons (de_var 0) da_nil) (by omega)))) (db_one (ds_ret de_non)) db_nil) (db_cons (ds_if (dt_eq hr.units (de_ix (de_var 0) de_int) de_str) (db_one (ds_ret (de_if (dt_w (dw_and (dt_eq hr.units (de_len B.len (da_cons (de_var 0) da_nil)) de_int) (dw_and (dt_val (de_fn F_is_name hr (da_cons (de_ix (de_var 0) de_int) da_nil) (by omega))) (dw_and1 (dt_val (de_fn F_is_sort hr (da_cons (de_ix (de_var 0) de_int) da_nil) (by omega))))))) (de_tup da_nil) de_non))) db_nil) (db_cons (ds_if (dt_eq hr.units (de_ix (de_var 0) de_int) de_str) (db_one (ds_ret (de_fn F_sorts_in_call hr (da_cons (de_var 0) da_nil) (by omega)))) db_nil) (db_cons (ds_if (dt_ninW W_TERM_WORDS T_TERM_WORDS C_TERM_WORDS (de_ix (de_var 0) de_int)) (db_one (ds_ret de_non)) db_nil) (db_cons (ds_asg (de_itemW W_TERM_WORDS T_TERM_WORDS C_TERM_WORDS (de_ix (de_var 0) de_int)) (dg_tup 3 rfl (dgs_cons (dg_name 1 nd) (dgs_cons (dg_name 2 nd) (dgs_cons (dg_name 3 nd) dgs_nil))))) (db_one (ds_ret (de_if (dt_val (de_fn F_has_row hr (da_cons (de_var 0) (da_cons (de_var 2) (da_cons (de_var 3) da_nil))) (by omega))) (de_var 3) de_non)))))))), ?_⟩
  rintro ds R X ⟨d, rfl, hf, h⟩
  replace h : R (sortsD (shape d)) := h
  simp only [rd, DL.start, List.map_cons, List.map_nil, List.length_cons, List.length_nil, List.cons_append, List.nil_append, List.getElem?_cons_zero, c_has_word, con1_C, isB_bl]
  refine ⟨trivial, ?_⟩
  by_cases hw : hasWord d = true
  · obtain ⟨w0, r, rfl⟩ : ∃ w0 r, d = .tup (.str w0 :: r) := by
      cases d with
      | tup xs =>
        cases xs with
        | nil => cases hw
        | cons x r => cases x <;> first | exact ⟨_, _, rfl⟩ | cases hw
      | _ => cases hw
    simp only [hw, Bool.not_true, Bool.false_eq_true, if_false, ixD_tup, at0, someD_some, eqD_str, isB_bl]
    by_cases hn : w0 = "name"
    · subst hn
      simp only [decide_true, if_true, lenD_tup, eqD_int, isB_bl]
      by_cases hl : r.length = 2
      · obtain ⟨n, c, rfl⟩ : ∃ n c, r = [n, c] := by
          rcases r with _ | ⟨n, _ | ⟨c, _ | ⟨d, r⟩⟩⟩ <;> first | exact ⟨_, _, rfl⟩ | (simp at hl; done)
        obtain ⟨_, fn, fc, _⟩ := hf
        rw [if_pos (by rfl)]
        simp only [at1, at2, someD_some, c_is_name, c_is_sort, con1_C, isB_bl]
        refine ⟨fn, ?_⟩
        have e : shape (.tup [.str "name", n, c]) = if isName n && isSort c then some ([], [], strOr c) else none := rfl
        rw [e] at h
        by_cases h1 : isName n = true
        · rw [if_pos h1]
          refine ⟨trivial, ?_⟩
          by_cases h2 : isSort c = true
          · rw [if_pos h2]
            rw [h1, h2] at h
            exact ⟨Nat.zero_le _, h⟩
          · rw [if_neg h2]
            rw [Bool.eq_false_iff.mpr h2, Bool.and_false] at h
            exact h
        · rw [if_neg h1]
          rw [Bool.eq_false_iff.mpr h1, Bool.false_and] at h
          exact h
      · rw [if_neg (by rw [decide_eq_false (by simp; omega)]; decide)]
        have e : shape (.tup (.str "name" :: r)) = none := by
          show (match r with | [n, s] => if isName n && isSort s then some ([], [], strOr s) else none | _ => none) = none
          split
          · exact absurd rfl hl
          · rfl
        rw [e] at h
        exact h
    · simp only [hn, decide_false, Bool.false_eq_true, if_false]
      by_cases hc : w0 = "call"
      · subst hc
        simp only [decide_true, if_true]
        refine ⟨("call", r), rfl, hf.2, ?_⟩
        exact h
      · simp only [hc, decide_false, Bool.false_eq_true, if_false, tabIn_str]
        cases hr0 : row w0 with
        | none =>
          have e2 : words w0 = none := by simp [words, hr0]
          rw [shape_noword hn hc hr0] at h
          simp only [e2, Option.isSome_none, Bool.not_false, if_true]
          exact h
        | some p =>
          obtain ⟨k0, b, ss⟩ := p
          have e2 : words w0 = some (.tup [.str k0, bndD b, .tup (ss.map Dat.str)]) := by simp [words, hr0, rowD]
          rw [shape_word hn hc hr0] at h
          simp only [e2, Option.isSome_some, Bool.not_true, Bool.false_eq_true, if_false, isS_str, someD_some, tupD_tup, consD_cons]
          refine ⟨rfl, trivial, ?_⟩
          refine ⟨(w0, r, b, ss), rfl, trivial, ?_⟩
          show isB (.bl (behind b ss.length r).isSome) _
          rw [isB_bl]
          cases hb : behind b ss.length r with
          | none =>
            rw [hb] at h
            exact h
          | some ts =>
            rw [hb] at h
            exact h
  · have e : shape d = none := by
      cases d with
      | tup xs =>
        cases xs with
        | nil => rfl
        | cons x r => cases x <;> first | rfl | exact absurd rfl hw
      | _ => rfl
    rw [e] at h
    simp only [Bool.eq_false_iff.mpr hw, Bool.not_false, if_true]
    exact h
abbrev s_inner_terms : Stmt := topS 16
theorem sc_inner_terms : FnScope ["term", "has_number"] ["term"] (defScope s_inner_terms) := ⟨rfl, rfl, rfl, by decide +kernel, rfl, by decide +kernel, by decide +kernel⟩
-- calls [] consts ['TERM_WORDS']
def innerOf (d : Dat) : List Dat := match shape d with
  | some (_, ts, _) => ts
  | none => []
def sortIs (d : Dat) : Str := match shape d with
  | some (_, _, k) => k
  | none => ""
def c_inner_terms : Con := con1 (fun d => (shape d).isSome = true) fun d => .tup (innerOf d)
theorem shape_cases {d : Dat} (h : (shape d).isSome = true) : (∃ n c, d = .tup [.str "name", n, .str c] ∧ isName n = true ∧ c ∈ sorts ∧ shape d = some ([], [], c)) ∨
    (∃ n ts c, d = .tup [.str "call", n, .tup ts, .str c] ∧ isName n = true ∧ c ∈ sorts ∧ 1 ≤ ts.length ∧ ts.length ≤ 3 ∧ shape d = some (List.replicate ts.length ("" : Str), ts, c)) ∨
    (∃ w r k b ss ts, d = .tup (.str w :: r) ∧ w ≠ "name" ∧ w ≠ "call" ∧ row w = some (k, b, ss) ∧ behind b ss.length r = some ts ∧ shape d = some (ss, ts, k)) := by
  have sort_of : ∀ c : Dat, isSort c = true → ∃ z, c = .str z ∧ z ∈ sorts := fun c hc => by
    cases c with
    | str z => exact ⟨z, rfl, of_decide_eq_true hc⟩
    | _ => cases hc
  unfold shape at h ⊢
  split at h
  · rename_i w r
    by_cases hn : w = "name"
    · subst hn
      rw [if_pos rfl] at h ⊢
      split at h
      · rename_i n c
        split at h
        · rename_i hb
          rw [Bool.and_eq_true] at hb
          obtain ⟨z, rfl, hz⟩ := sort_of c hb.2
          exact .inl ⟨n, z, rfl, hb.1, hz, by simp [hb.1, hb.2, strOr]⟩
        · cases h
      · cases h
    · rw [if_neg hn] at h ⊢
      by_cases hc : w = "call"
      · subst hc
        rw [if_pos rfl] at h ⊢
        split at h
        · rename_i n ts c
          split at h
          · rename_i hb
            have hb' := hb
            rw [Bool.and_eq_true, Bool.and_eq_true, Bool.and_eq_true] at hb
            obtain ⟨z, rfl, hz⟩ := sort_of c hb.1.1.2
            exact .inr (.inl ⟨n, ts, z, rfl, hb.1.1.1, hz, of_decide_eq_true hb.1.2, of_decide_eq_true hb.2, by simp only [hb', if_true, strOr]⟩)
          · cases h
        · cases h
      · rw [if_neg hc] at h ⊢
        cases hr : row w with
        | none => rw [hr] at h; cases h
        | some p =>
          obtain ⟨k, b, ss⟩ := p
          rw [hr] at h
          cases hb : behind b ss.length r with
          | none => simp [hb] at h
          | some ts => exact .inr (.inr ⟨w, r, k, b, ss, ts, rfl, hn, hc, hr, hb, by simp [hb]⟩)
  · cases h
theorem ok_inner_terms (B : Bt mg) (TWt : TW K w mg "TERM_WORDS" words) (F : Fun K "inner_terms" "inner_terms" s_inner_terms f fd) : FnOk P w K mg base CX0 (k + 1) f fd ["term"] (spD K c_inner_terms) := by
  obtain ⟨dW, tv, W_TERM_WORDS, T_TERM_WORDS, C_TERM_WORDS⟩ := TWt.ex
  refine fn_pure F sc_inner_terms (fun ds P X ⟨d, e, _⟩ => by rw [e]; rfl) fun cdv A outer s H S hS hr => ?_
  have nd := sc_inner_terms.nd
  refine ⟨_, (db_cons (ds_if (dt_eq hr.units (de_ix (de_var 0) de_int) de_str) (db_one (ds_ret (de_tup da_nil))) db_nil) (db_cons (ds_if (dt_eq hr.units (de_ix (de_var 0) de_int) de_str) (db_one (ds_ret (de_ix (de_var 0) de_int))) db_nil) (db_cons (ds_set 1 (de_gt (de_len B.len (da_cons (de_ix (de_itemW W_TERM_WORDS T_TERM_WORDS C_TERM_WORDS (de_ix (de_var 0) de_int)) de_int) da_nil)) de_int) nd) (db_one (ds_ret (de_if (dt_val (de_var 1)) (de_sl (de_var 0) (do_some de_int) do_none) (de_sl (de_var 0) (do_some de_int) do_none))))))), ?_⟩
  rintro ds R X ⟨d, rfl, hs, h⟩
  replace h : R (.tup (innerOf d)) := h
  have ei : ∀ ss ts k, shape d = some (ss, ts, k) → innerOf d = ts := fun ss ts k e => by unfold innerOf; rw [e]
  rcases shape_cases hs with ⟨n, c, rfl, hn, hc, e⟩ | ⟨n, ts, c, rfl, hn, hc, h1, h2, e⟩ | ⟨w0, r, k0, b, ss, ts, rfl, hn, hc, hr, hb, e⟩
  · rw [ei _ _ _ e] at h
    simp only [rd, DL.start, List.map_cons, List.map_nil, List.length_cons, List.length_nil, List.cons_append, List.nil_append, List.getElem?_cons_zero, ixD_tup, at0, someD_some, eqD_str, isB_bl, decide_true, if_true]
    exact ⟨Nat.zero_le _, h⟩
  · rw [ei _ _ _ e] at h
    have e0 : decide (("call" : Str) = "name") = false := by decide +kernel
    simp only [rd, DL.start, List.map_cons, List.map_nil, List.length_cons, List.length_nil, List.cons_append, List.nil_append, List.getElem?_cons_zero, ixD_tup, at0, at2, someD_some, eqD_str, isB_bl, e0, decide_true, if_true, Bool.false_eq_true, if_false]
    exact h
  · rw [ei _ _ _ e] at h
    have e2 : words w0 = some (.tup [.str k0, bndD b, .tup (ss.map Dat.str)]) := by simp [words, hr, rowD]
    simp only [rd, DL.start, List.map_cons, List.map_nil, List.length_cons, List.length_nil, List.cons_append, List.nil_append, List.getElem?_cons_zero, ixD_tup, at0, at1, someD_some, eqD_str, isB_bl, hn, hc, decide_false, Bool.false_eq_true, if_false, isS_str, e2]
    cases b with
    | none =>
      obtain ⟨rfl, _⟩ := behind_none hb
      simp [bndD, lenD_tup, int0_int, rd, isB_bl, isI_int, slD_tup]
      rw [cut1']
      exact h
    | some p =>
      obtain ⟨i, rfl, _⟩ := behind_some hb
      simp [bndD, lenD_tup, int0_int, rd, isB_bl, isI_int, slD_tup]
      rw [cut2']
      exact h
abbrev s_term_sort : Stmt := topS 17
theorem sc_term_sort : FnScope ["term"] ["term"] (defScope s_term_sort) := ⟨rfl, rfl, rfl, by decide +kernel, rfl, by decide +kernel, by decide +kernel⟩
-- calls [] consts ['TERM_WORDS']
def c_term_sort : Con := con1 (fun d => (shape d).isSome = true) fun d => .str (sortIs d)
theorem ok_term_sort (B : Bt mg) (TWt : TW K w mg "TERM_WORDS" words) (F : Fun K "term_sort" "term_sort" s_term_sort f fd) : FnOk P w K mg base CX0 (k + 1) f fd ["term"] (spD K c_term_sort) := by
  obtain ⟨dW, tv, W_TERM_WORDS, T_TERM_WORDS, C_TERM_WORDS⟩ := TWt.ex
  refine fn_pure F sc_term_sort (fun ds P X ⟨d, e, _⟩ => by rw [e]; rfl) fun cdv A outer s H S hS hr => ?_
  have nd := sc_term_sort.nd
  refine ⟨_, (db_one (ds_ret (de_if (dt_in (de_ix (de_var 0) de_int) (de_tup (da_cons de_str (da_cons de_str da_nil)))) (de_ix (de_var 0) (de_neg de_int)) (de_ix (de_itemW W_TERM_WORDS T_TERM_WORDS C_TERM_WORDS (de_ix (de_var 0) de_int)) de_int)))), ?_⟩
  rintro ds R X ⟨d, rfl, hs, h⟩
  replace h : R (.str (sortIs d)) := h
  have ei : ∀ ss ts k, shape d = some (ss, ts, k) → sortIs d = k := fun ss ts k e => by unfold sortIs; rw [e]
  have last3 : ∀ a b c : Dat, atI [a, b, c] (-1) = some c := fun a b c => rfl
  have last4 : ∀ a b c d : Dat, atI [a, b, c, d] (-1) = some d := fun a b c d => rfl
  have two_le : (0 + 1 + 1 : Nat) ≤ sizeLine := by decide
  rcases shape_cases hs with ⟨n, c, rfl, hn, hc, e⟩ | ⟨n, ts, c, rfl, hn, hc, h1, h2, e⟩ | ⟨w0, r, k0, b, ss, ts, rfl, hn, hc, hr, hb, e⟩
  · rw [ei _ _ _ e] at h
    have e0 : decide (("name" : Str) ∈ (["name", "call"] : List Str)) = true := by decide +kernel
    simp only [rd, DL.start, List.map_cons, List.map_nil, List.length_cons, List.length_nil, List.cons_append, List.nil_append, List.getElem?_cons_zero, ixD_tup, at0, someD_some, inD_tup2, isB_bl, e0, if_true, Bool.false_eq_true, if_false, negD, last3]
    exact ⟨two_le, h⟩
  · rw [ei _ _ _ e] at h
    have e0 : decide (("call" : Str) ∈ (["name", "call"] : List Str)) = true := by decide +kernel
    simp only [rd, DL.start, List.map_cons, List.map_nil, List.length_cons, List.length_nil, List.cons_append, List.nil_append, List.getElem?_cons_zero, ixD_tup, at0, someD_some, inD_tup2, isB_bl, e0, if_true, Bool.false_eq_true, if_false, negD, last4]
    exact ⟨two_le, h⟩
  · rw [ei _ _ _ e] at h
    have e0 : decide (w0 ∈ (["name", "call"] : List Str)) = false := decide_eq_false (by simp [hn, hc])
    have e2 : words w0 = some (.tup [.str k0, bndD b, .tup (ss.map Dat.str)]) := by simp [words, hr, rowD]
    simp only [rd, DL.start, List.map_cons, List.map_nil, List.length_cons, List.length_nil, List.cons_append, List.nil_append, List.getElem?_cons_zero, ixD_tup, at0, someD_some, inD_tup2, isB_bl, e0, if_true, Bool.false_eq_true, if_false, isS_str, e2]
    exact ⟨two_le, h⟩
end
end K01
namespace K01
open PySem PySem.Spec PyProof.Rows L2 DL
/-! ### sizes -/
def fitsS (s k : Str) : Bool := decide (s = "" ∨ s = k)
def sizeP (g : Dat → Option (Str × Nat)) : List Dat → List Str → Option Nat
  | [], [] => some 0
  | t :: ts, s :: ss => match g t with
    | some (k, n) => if fitsS s k = true then (sizeP g ts ss).map (n + ·) else none
    | none => none
  | _, _ => none
def kindOf : Nat → Dat → Option (Str × Nat)
  | 0, _ => none
  | n + 1, d => match shape d with
    | none => none
    | some (ss, ts, k) => (sizeP (kindOf n) ts ss).map fun m => (k, m + 1)
def kf (n : Nat) (d : Dat) : Option (Str × Nat) := match kindOf n d with
  | some (k, m) => if m ≤ 40 then some (k, m) else none
  | none => none
def natD (o : Option Nat) : Dat := match o with
  | some n => .int (n : Nat)
  | none => .non
def cap (deep : Int) : Nat := (min deep 6).toNat
def tsz (d : Dat) (s : Str) (deep room : Int) : Option Nat := match kindOf (cap deep) d with
  | some (k, n) => if fitsS s k = true ∧ (n : Int) ≤ min room 40 then some n else none
  | none => none
def psz (ts : List Dat) (ss : List Str) (deep room : Int) : Option Nat := match sizeP (kf (cap deep)) ts ss with
  | some m => if (m : Int) ≤ room then some m else none
  | none => none
theorem kindOf_pos : ∀ {n : Nat} {d : Dat} {k : Str} {m : Nat}, kindOf n d = some (k, m) → 1 ≤ m
  | 0, _, _, _, h => by cases h
  | n + 1, d, k, m, h => by
    unfold kindOf at h
    cases e : shape d with
    | none => rw [e] at h; cases h
    | some p =>
      obtain ⟨ss, ts, k'⟩ := p
      rw [e] at h
      cases e2 : sizeP (kindOf n) ts ss with
      | none => simp [e2] at h
      | some m' => simp [e2] at h; omega
/-- the parts within bound: all are -/
theorem sizeP_kf {n : Nat} : ∀ {ts : List Dat} {ss : List Str} {m : Nat}, m ≤ 40 → (sizeP (kindOf n) ts ss = some m ↔ sizeP (kf n) ts ss = some m)
  | [], [], m, _ => Iff.rfl
  | [], _ :: _, m, _ => Iff.rfl
  | _ :: _, [], m, _ => Iff.rfl
  | t :: ts, s :: ss, m, hm => by
    simp only [sizeP, kf]
    cases e : kindOf n t with
    | none => exact Iff.rfl
    | some p =>
      obtain ⟨k, q⟩ := p
      by_cases hf : fitsS s k = true
      · by_cases hq : q ≤ 40
        · simp only [hf, hq, if_true]
          constructor
          · intro h
            cases e2 : sizeP (kindOf n) ts ss with
            | none => simp [e2] at h
            | some m' =>
              simp [e2] at h
              rw [(sizeP_kf (by omega)).mp e2]
              simp [h]
          · intro h
            cases e2 : sizeP (kf n) ts ss with
            | none => simp [e2] at h
            | some m' =>
              simp [e2] at h
              rw [(sizeP_kf (by omega)).mpr e2]
              simp [h]
        · simp only [hf, hq, if_true, if_false]
          constructor
          · intro h
            cases e2 : sizeP (kindOf n) ts ss with
            | none => simp [e2] at h
            | some m' => simp [e2] at h; omega
          · intro h; cases h
      · by_cases hq : q ≤ 40
        · simp [hf, hq]
        · simp [hf, hq]
theorem shape_inner {d : Dat} {ss : List Str} {ts : List Dat} {k : Str} (h : shape d = some (ss, ts, k)) (hf : Fine d) : Fines ts ∧ ts.length = ss.length := by
  rcases shape_cases (d := d) (by rw [h]; rfl) with ⟨n, c, rfl, hn, hc, e⟩ | ⟨n, ts', c, rfl, hn, hc, h1, h2, e⟩ | ⟨w0, r, k0, b, ss', ts', rfl, hn, hc, hr, hb, e⟩
  · rw [e] at h; cases h; exact ⟨trivial, rfl⟩
  · rw [e] at h; cases h
    exact ⟨hf.2.2.1, by rw [List.length_replicate]⟩
  · rw [e] at h; cases h
    cases b with
    | none =>
      obtain ⟨rfl, hl⟩ := behind_none hb
      exact ⟨hf.2, hl⟩
    | some p =>
      obtain ⟨i, rfl, hl, _⟩ := behind_some hb
      exact ⟨hf.2.2, hl⟩
theorem tsz_psz {d : Dat} {so k : Str} {ss : List Str} {ts : List Dat} {deep room : Int} (h : shape d = some (ss, ts, k)) (hf : fitsS so k = true) (h1 : ¬ min deep 6 < 1) (h2 : ¬ min room 40 < 1) :
    tsz d so deep room = (psz ts ss (min deep 6 - 1) (min room 40 - 1)).map (· + 1) := by
  obtain ⟨D, hD⟩ : ∃ D : Nat, cap deep = D + 1 := ⟨cap deep - 1, by unfold cap; omega⟩
  have hD' : cap (min deep 6 - 1) = D := by unfold cap at hD ⊢; omega
  unfold tsz psz
  rw [hD, hD']
  unfold kindOf
  rw [h]
  simp only
  cases e : sizeP (kindOf D) ts ss with
  | some m =>
    simp only [Option.map_some]
    by_cases hm : ((m : Nat) : Int) ≤ min room 40 - 1
    · rw [(sizeP_kf (by omega)).mp e]
      simp only
      rw [if_pos hm, if_pos ⟨hf, by omega⟩]; rfl
    · rw [if_neg (fun z => hm (by omega))]
      cases e2 : sizeP (kf D) ts ss with
      | none => rfl
      | some m' =>
        simp only
        by_cases hm' : ((m' : Nat) : Int) ≤ min room 40 - 1
        · have q := (sizeP_kf (by omega)).mpr e2
          rw [e] at q; cases q
          exact absurd hm' hm
        · rw [if_neg hm']; rfl
  | none =>
    simp only [Option.map_none]
    cases e2 : sizeP (kf D) ts ss with
    | none => rfl
    | some m' =>
      simp only
      by_cases hm' : ((m' : Nat) : Int) ≤ min room 40 - 1
      · have q := (sizeP_kf (by omega)).mpr e2
        rw [e] at q; cases q
      · rw [if_neg hm']; rfl
theorem tsz_le {d : Dat} {s : Str} {deep room : Int} {m : Nat} (h : tsz d s deep room = some m) : ((m : Nat) : Int) ≤ room := by
  unfold tsz at h
  cases e : kindOf (cap deep) d with
  | none => rw [e] at h; cases h
  | some p =>
    obtain ⟨k, q⟩ := p
    rw [e] at h
    simp only at h
    by_cases hc : fitsS s k = true ∧ ((q : Nat) : Int) ≤ min room 40
    · rw [if_pos hc] at h
      cases h
      omega
    · rw [if_neg hc] at h; cases h
theorem psz_cons {t : Dat} {ts : List Dat} {s : Str} {ss : List Str} {deep room : Int} (hr : 0 ≤ room) : psz (t :: ts) (s :: ss) deep room = match tsz t s deep room with
    | none => none
    | some m => (psz ts ss deep (room - m)).map (m + ·) := by
  unfold psz tsz
  simp only [sizeP, kf]
  cases e : kindOf (cap deep) t with
  | none => rfl
  | some p =>
    obtain ⟨k, q⟩ := p
    simp only
    by_cases hf : fitsS s k = true
    · by_cases hq : q ≤ 40
      · simp only [hf, hq, if_true, true_and]
        cases e2 : sizeP (kf (cap deep)) ts ss with
        | none =>
          simp only [Option.map_none]
          split <;> rfl
        | some m =>
          simp only [Option.map_some]
          by_cases hm : ((q + m : Nat) : Int) ≤ room
          · rw [if_pos hm, if_pos (by omega)]
            simp only
            rw [if_pos (by omega)]; rfl
          · rw [if_neg hm]
            by_cases h2 : ((q : Nat) : Int) ≤ min room 40
            · rw [if_pos h2]
              simp only
              rw [if_neg (by omega)]; rfl
            · rw [if_neg h2]
      · simp only [hf, hq, if_true, if_false, true_and]
        rw [if_neg (by omega)]
    · by_cases hq : q ≤ 40
      · simp [hf, hq]
      · simp [hf, hq]
section
variable {P : Program} {w : World} {K : PySem.W.Frag} {mg : Str → Option Value} {base : Heap} {f : Addr} {fd : FuncData} {k : Nat}
abbrev s_term_size : Stmt := topS 18
theorem sc_term_size : FnScope ["thing", "sort", "deep", "room", "sorts", "size"] ["thing", "sort", "deep", "room"] (defScope s_term_size) := ⟨rfl, rfl, rfl, by decide +kernel, rfl, by decide +kernel, by decide +kernel⟩
-- calls ['sorts_within', 'term_sort', 'places_size', 'inner_terms'] consts ['TERM_DEEP', 'TERM_PARTS']
def c_term_size (n : Nat) : Con := conE (α := Dat × Str × Int × Int) (fun a => [a.1, .str a.2.1, .int a.2.2.1, .int a.2.2.2]) (fun a => Fine a.1 ∧ cap a.2.2.1 < n) fun a => natD (tsz a.1 a.2.1 a.2.2.1 a.2.2.2)
def c_places_size (n : Nat) : Con := conE (α := List Dat × List Str × Int × Int) (fun a => [.tup a.1, .tup (a.2.1.map Dat.str), .int a.2.2.1, .int a.2.2.2]) (fun a => Fines a.1 ∧ a.1.length = a.2.1.length ∧ 0 ≤ a.2.2.2 ∧ cap a.2.2.1 < n) fun a => natD (psz a.1 a.2.1 a.2.2.1 a.2.2.2)
theorem conE_use {α : Type} {args : α → List Dat} {pre : α → Prop} {out : α → Dat} {P : Dat → Prop} {X : Exc → Prop} (a : α) (h : pre a) (q : P (out a)) : (conE args pre out).C (args a) P X := ⟨a, rfl, h, q⟩
theorem ok_term_size {n : Nat} (B : Bt mg) (C_TERM_DEEP : CI mg "TERM_DEEP" 6) (C_TERM_PARTS : CI mg "TERM_PARTS" 40) (F_sorts_within : Callee P w K mg base "sorts_within" k ["thing"] c_sorts_within) (F_term_sort : Callee P w K mg base "term_sort" k ["term"] c_term_sort) (F_inner_terms : Callee P w K mg base "inner_terms" k ["term"] c_inner_terms)
    (F_places_size : Callee P w K mg base "places_size" k ["places", "sorts", "deep", "room"] (c_places_size n)) (F : Fun K "term_size" "term_size" s_term_size f fd) : FnOk P w K mg base CX0 (k + 1) f fd ["thing", "sort", "deep", "room"] (spD K (c_term_size (n + 1))) := by
  refine fn_pure F sc_term_size (fun ds P X ⟨d, e, _⟩ => by rw [e]; rfl) fun cdv A outer s H S hS hr => ?_
  have nd := sc_term_size.nd
  refine ⟨_, (db_cons (ds_set 2 (de_min2 rfl B.min (da_cons (de_var 2) (da_cons (de_ci C_TERM_DEEP) da_nil))) nd) (db_cons (ds_set 3 (de_min2 rfl B.min (da_cons (de_var 3) (da_cons (de_ci C_TERM_PARTS) da_nil))) nd) (db_cons (ds_ifc (dt_w (dw_or (dt_lt (de_var 2) de_int) (dw_or1 (dt_lt (de_var 3) de_int)))) (db_one (ds_ret de_non)) db_nil) (db_cons (ds_set 4 (de_fn F_sorts_within hr (da_cons (de_var 0) da_nil) (by omega)) nd) (db_cons (ds_ifc (dt_w (dw_or (dt_isN (de_var 4)) (dw_or1 (dt_nin (de_var 1) (de_tup (da_cons de_str (da_cons (de_fn F_term_sort hr (da_cons (de_var 0) da_nil) (by omega)) da_nil))))))) (db_one (ds_ret de_non)) db_nil) (db_cons (ds_set 5 (de_fn F_places_size hr (da_cons (de_fn F_inner_terms hr (da_cons (de_var 0) da_nil) (by omega)) (da_cons (de_var 4) (da_cons (de_sub (de_var 2) de_int) (da_cons (de_sub (de_var 3) de_int) da_nil)))) (by omega)) nd) (db_one (ds_ret (de_if (dt_isN (de_var 5)) de_non (de_add de_int (de_var 5))))))))))), ?_⟩
  rintro ds R X ⟨⟨d, so, deep, room⟩, rfl, ⟨hf, hn⟩, h⟩
  replace h : R (natD (tsz d so deep room)) := h
  replace hf : Fine d := hf
  replace hn : cap deep < n + 1 := hn
  have em : ∀ a b : Int, (if b < a then b else a) = min a b := fun a b => by
    by_cases hab : b < a
    · rw [if_pos hab]; omega
    · rw [if_neg hab]; omega
  have em2 : ∀ a b : Int, (if b < a then b else a) = min a b := em
  show ∃ Pc : Bool → Prop, (if decide ((if 6 < deep then 6 else deep) < 1) = true then Pc true else Pc (decide ((if 40 < room then 40 else room) < 1))) ∧ _
  refine ⟨(· = (decide (min deep 6 < 1) || decide (min room 40 < 1))), ?_, fun e => ?_, fun e => ?_⟩
  · rw [em deep 6, em room 40]
    by_cases a1 : min deep 6 < 1 <;> simp [a1]
  · have e1 : tsz d so deep room = none := by
      have e' : min deep 6 < 1 ∨ min room 40 < 1 := by simpa using e.symm
      unfold tsz
      rcases e' with e' | e'
      · have ec : cap deep = 0 := by unfold cap; omega
        rw [ec]; rfl
      · cases ek : kindOf (cap deep) d with
        | none => rfl
        | some p =>
          obtain ⟨k', m⟩ := p
          have hm := kindOf_pos ek
          simp only
          rw [if_neg (fun z => by omega)]
    rw [e1] at h
    exact h
  · have e' : ¬ min deep 6 < 1 ∧ ¬ min room 40 < 1 := by simpa using e.symm
    obtain ⟨nD, nR⟩ := e'
    obtain ⟨D, hD⟩ : ∃ D : Nat, cap deep = D + 1 := ⟨cap deep - 1, by unfold cap; omega⟩
    try dsimp only
    refine rd_here rfl ?_
    refine con1_C.mpr ⟨hf, ?_⟩
    try dsimp only
    cases es : shape d with
    | none =>
      have e1 : tsz d so deep room = none := by
        unfold tsz
        rw [hD]
        unfold kindOf
        rw [es]
      rw [e1] at h
      exact ⟨(· = true), rfl, fun _ => h, fun z => nomatch z⟩
    | some p =>
      obtain ⟨ss, ts, kk⟩ := p
      have hs : (shape d).isSome = true := by rw [es]; rfl
      have ek : sortIs d = kk := by unfold sortIs; rw [es]
      have ei : innerOf d = ts := by unfold innerOf; rw [es]
      refine ⟨(· = !fitsS so kk), ?_, fun e => ?_, fun e => ?_⟩
      · refine rd_here rfl ?_
        rw [if_neg (show ¬ isN (sortsD (some (ss, ts, kk))) = true from Bool.false_ne_true)]
        refine rd_here rfl (rd_here rfl ?_)
        refine con1_C.mpr ⟨hs, show 2 ≤ sizeLine by decide, ?_⟩
        rw [ek]
        show inD true (.str so) (.tup [.str "", .str kk]) _
        rw [inD_tup2]
        show (!decide (so ∈ [("" : Str), kk])) = !fitsS so kk
        unfold fitsS
        simp
      · have e1 : tsz d so deep room = none := by
          unfold tsz
          rw [hD]
          cases e2 : kindOf (D + 1) d with
          | none => rfl
          | some p =>
            obtain ⟨k', m⟩ := p
            have e3 : k' = kk := by
              unfold kindOf at e2
              rw [es] at e2
              cases e4 : sizeP (kindOf D) ts ss with
              | none => simp [e4] at e2
              | some m' => simp [e4] at e2; exact e2.1.symm
            subst e3
            have e5 : fitsS so k' = false := by simpa using e.symm
            simp only
            rw [if_neg (fun z => by rw [e5] at z; exact Bool.false_ne_true z.1)]
        rw [e1] at h
        exact h
      · have hfit : fitsS so kk = true := by simpa using e.symm
        refine rd_here rfl ?_
        refine con1_C.mpr ⟨hs, ?_⟩
        try dsimp only
        rw [ei]
        obtain ⟨hft, hlen⟩ := shape_inner es hf
        refine rd_here rfl (rd_here rfl ?_)
        rw [int0_int]
        refine rd_here rfl ?_
        rw [int0_int]
        refine conE_use (args := fun a : List Dat × List Str × Int × Int => [.tup a.1, .tup (a.2.1.map Dat.str), .int a.2.2.1, .int a.2.2.2]) (ts, ss, (if 6 < deep then 6 else deep) - 1, (if 40 < room then 40 else room) - 1) ⟨hft, hlen, ?_, ?_⟩ ?_
        · show 0 ≤ (if 40 < room then 40 else room) - 1
          rw [em room 40]; omega
        · show cap ((if 6 < deep then 6 else deep) - 1) < n
          rw [em deep 6]
          unfold cap at hn ⊢
          omega
        · have et := tsz_psz es hfit nD nR
          rw [em deep 6, em room 40]
          refine rd_here rfl ?_
          show if isN (natD (psz ts ss (min deep 6 - 1) (min room 40 - 1))) = true then _ else _
          cases ep : psz ts ss (min deep 6 - 1) (min room 40 - 1) with
          | none =>
            rw [ep] at et
            rw [et] at h
            exact h
          | some m =>
            rw [ep] at et
            rw [et] at h
            rw [if_neg (show ¬ isN (natD (some m)) = true from Bool.false_ne_true)]
            refine rd_here rfl ?_
            show R (.int (1 + ((m : Nat) : Int)))
            have e9 : (1 + ((m : Nat) : Int)) = ((m + 1 : Nat) : Int) := by omega
            rw [e9]
            exact h
abbrev s_places_size : Stmt := topS 19
theorem sc_places_size : FnScope ["places", "sorts", "deep", "room", "total", "place", "sort", "size"] ["places", "sorts", "deep", "room"] (defScope s_places_size) := ⟨rfl, rfl, rfl, by decide +kernel, rfl, by decide +kernel, by decide +kernel⟩
-- calls ['term_size'] consts []
theorem ok_places_size {n : Nat} (B : Bt mg) (F_term_size : Callee P w K mg base "term_size" k ["thing", "sort", "deep", "room"] (c_term_size n)) (F : Fun K "places_size" "places_size" s_places_size f fd) : FnOk P w K mg base CX0 (k + 1) f fd ["places", "sorts", "deep", "room"] (spD K (c_places_size n)) := by
  refine fn_pure F sc_places_size (fun ds P X ⟨d, e, _⟩ => by rw [e]; rfl) fun cdv A outer s H S hS hr => ?_
  have nd := sc_places_size.nd
  refine ⟨_, (db_cons (ds_set 4 de_int nd) (db_cons (ds_forI PassesOwn.never rfl (di_zip B.zip (da_cons (de_var 0) (da_cons (de_var 1) da_nil))) (dg_tup 2 rfl (dgs_cons (dg_name 5 nd) (dgs_cons (dg_name 6 nd) dgs_nil))) (db_cons (ds_set 7 (de_fn F_term_size hr (da_cons (de_var 5) (da_cons (de_var 6) (da_cons (de_var 2) (da_cons (de_sub (de_var 3) (de_var 4)) da_nil)))) (by omega)) nd) (db_cons (ds_ifc (dt_isN (de_var 7)) (db_one (ds_ret de_non)) db_nil) (db_one (ds_augI 4 (de_var 7) nd))))) (db_one (ds_ret (de_var 4))))), ?_⟩
  rintro ds R X ⟨⟨ts, ss, deep, room⟩, rfl, ⟨hf, hlen, hroom, hn⟩, h⟩
  replace h : R (natD (psz ts ss deep room)) := h
  replace hf : Fines ts := hf
  replace hlen : ts.length = ss.length := hlen
  replace hroom : 0 ≤ room := hroom
  replace hn : cap deep < n := hn
  -- what is left, the total so far
  refine ⟨fun items ρ => ∃ (ts' : List Dat) (ss' : List Str) (tot : Nat) (a b c : DL.Slot), items = zips ts' (ss'.map Dat.str) ∧ ρ = [.d (.tup ts), .d (.tup (ss.map Dat.str)), .d (.int deep), .d (.int room), .d (.int (tot : Nat)), a, b, c] ∧
    Fines ts' ∧ ts'.length = ss'.length ∧ ((tot : Nat) : Int) ≤ room ∧ R (natD ((psz ts' ss' deep (room - tot)).map (tot + ·))), ?_, ?_, ?_⟩
  · ((try dsimp only); refine rd_here rfl ?_; (try dsimp only))
    ((try dsimp only); refine rd_here rfl ?_; (try dsimp only))
    refine ⟨ts, ss, 0, .un, .un, .un, rfl, rfl, hf, hlen, by simpa using hroom, ?_⟩
    have e : (psz ts ss deep (room - ((0 : Nat) : Int))).map (0 + ·) = psz ts ss deep room := by
      rw [show room - ((0 : Nat) : Int) = room by omega]
      cases psz ts ss deep room <;> simp
    rw [e]; exact h
  · rintro ρ ⟨ts', ss', tot, a, b, c, e, rfl, hf', hl', ht, h'⟩
    ((try dsimp only); refine rd_here rfl ?_; (try dsimp only))
    have e0 : ts' = [] := by
      cases ts' with
      | nil => rfl
      | cons t ts' =>
        cases ss' with
        | nil => cases hl'
        | cons s ss' => cases e
    subst e0
    have e1 : ss' = [] := List.length_eq_zero_iff.mp hl'.symm
    subst e1
    have e2 : psz [] [] deep (room - tot) = some 0 := by
      unfold psz sizeP
      simp only
      rw [if_pos (by omega)]
    rw [e2] at h'
    exact h'
  · rintro d ds ρ ⟨ts', ss', tot, a, b, c, e, rfl, hf', hl', ht, h'⟩
    cases ts' with
    | nil => cases e
    | cons t ts' =>
      cases ss' with
      | nil => cases hl'
      | cons s ss' =>
        cases e
        refine ⟨rfl, ?_⟩
        simp only [consD_cons]
        refine ⟨trivial, ?_⟩
        ((try dsimp only); refine rd_here rfl ?_; (try dsimp only))
        ((try dsimp only); refine rd_here rfl ?_; (try dsimp only))
        ((try dsimp only); refine rd_here rfl ?_; (try dsimp only))
        ((try dsimp only); refine rd_here rfl ?_; (try dsimp only))
        ((try dsimp only); refine rd_here rfl ?_; (try dsimp only))
        rw [int0_int]
        have hr0 : 0 ≤ room - (tot : Nat) := by omega
        refine conE_use (args := fun a : Dat × Str × Int × Int => [a.1, .str a.2.1, .int a.2.2.1, .int a.2.2.2]) (t, s, deep, room - (tot : Nat)) ⟨hf'.1, hn⟩ ?_
        rw [psz_cons hr0] at h'
        refine ⟨(· = isN (natD (tsz t s deep (room - (tot : Nat))))), ?_, fun e => ?_, fun e => ?_⟩
        · ((try dsimp only); refine rd_here rfl ?_; (try dsimp only))
        · cases et : tsz t s deep (room - (tot : Nat)) with
          | none => rw [et] at h'; exact h'
          | some m => rw [et] at e; cases e
        · cases et : tsz t s deep (room - (tot : Nat)) with
          | none => rw [et] at e; cases e
          | some m =>
            rw [et] at h'
            simp only at h'
            have hm : ((m : Nat) : Int) ≤ room - tot := tsz_le et
            ((try dsimp only); refine rd_here rfl ?_; (try dsimp only))
            ((try dsimp only); refine rd_here rfl ?_; (try dsimp only))
            refine ⟨ts', ss', tot + m, _, _, _, rfl, rfl, hf'.2, by simpa using hl', by omega, ?_⟩
            have e9 : room - ((tot + m : Nat) : Int) = room - (tot : Nat) - (m : Nat) := by omega
            rw [e9]
            cases ep : psz ts' ss' deep (room - (tot : Nat) - (m : Nat)) with
            | none => rw [ep] at h'; exact h'
            | some q =>
              rw [ep] at h'
              have e10 : tot + m + q = tot + (m + q) := by omega
              show R (.int ((tot + m + q : Nat) : Int))
              rw [e10]
              exact h'
end
end K01
namespace K01
open PySem PySem.Spec PyProof.Rows L2 DL
/-- a def as it stands -/
structure At (K : PySem.W.Frag) (mg : Str → Option Value) (x : Str) (st : Stmt) (ps : List Str) (f : Addr) (fd : FuncData) : Prop where
  F : Fun K x x st f fd
  m : mg x = some (.ref f)
  b : Binds K fd ps []
/-- what can't be asked -/
theorem fn_no {P : Program} {w : World} {K : PySem.W.Frag} {mg : Str → Option Value} {base : Heap} {f : Addr} {fd : FuncData} {k : Nat} {ps : List Str} {C : Con} (h : ∀ ds P X, ¬ C.C ds P X) : FnOk P w K mg base CX0 k f fd ps (spD K C) :=
  ⟨fun vs H Q E ⟨_, _, _, _, hc⟩ => absurd hc (h _ _ _), fun A outer s H args us vs Q E _ _ _ _ ⟨_, _, _, _, hc⟩ => absurd hc (h _ _ _)⟩
section
variable {P : Program} {w : World} {K : PySem.W.Frag} {mg : Str → Option Value} {base : Heap} {f f2 : Addr} {fd fd2 : FuncData} {k : Nat}
theorem At.callee {x : Str} {st : Stmt} {ps : List Str} {C : Con} (h : At K mg x st ps f fd) (ok : FnOk P w K mg base CX0 k f fd ps (spD K C)) : Callee P w K mg base x k ps C := ⟨f, fd, ok, h.m, h.F.kp, h.b⟩
theorem Callee.mono {x : Str} {ps : List Str} {C : Con} {j : Nat} (h : Callee P w K mg base x j ps C) (hj : j ≤ k) : Callee P w K mg base x k ps C := by
  obtain ⟨f, fd, F, r⟩ := h.ex
  exact ⟨f, fd, F.mono hj, r⟩
theorem sizes_ok (B : Bt mg) (C_TERM_DEEP : CI mg "TERM_DEEP" 6) (C_TERM_PARTS : CI mg "TERM_PARTS" 40) (F_sorts_within : Callee P w K mg base "sorts_within" k ["thing"] c_sorts_within) (F_term_sort : Callee P w K mg base "term_sort" k ["term"] c_term_sort) (F_inner_terms : Callee P w K mg base "inner_terms" k ["term"] c_inner_terms)
    (Ft : At K mg "term_size" s_term_size ["thing", "sort", "deep", "room"] f fd) (Fp : At K mg "places_size" s_places_size ["places", "sorts", "deep", "room"] f2 fd2) :
    ∀ n : Nat, Callee P w K mg base "term_size" (k + 2 * n) ["thing", "sort", "deep", "room"] (c_term_size n) ∧ Callee P w K mg base "places_size" (k + 2 * n + 1) ["places", "sorts", "deep", "room"] (c_places_size n)
  | 0 => ⟨Ft.callee (fn_no fun _ _ _ ⟨_, _, h, _⟩ => absurd h.2 (Nat.not_lt_zero _)), Fp.callee (fn_no fun _ _ _ ⟨_, _, h, _⟩ => absurd h.2.2.2 (Nat.not_lt_zero _))⟩
  | n + 1 => by
    have ih := sizes_ok B C_TERM_DEEP C_TERM_PARTS F_sorts_within F_term_sort F_inner_terms Ft Fp n
    have t := Ft.callee (ok_term_size (k := k + 2 * n + 1) B C_TERM_DEEP C_TERM_PARTS (Callee.mono F_sorts_within (by omega)) (Callee.mono F_term_sort (by omega)) (Callee.mono F_inner_terms (by omega)) ih.2 Ft.F)
    exact ⟨t, Fp.callee (ok_places_size B t Fp.F)⟩
/-! ### is_term -/
def isTerm (d : Dat) : Bool := (tsz d "" 6 40).isSome
abbrev s_is_term : Stmt := topS 25
theorem sc_is_term : FnScope ["thing"] ["thing"] (defScope s_is_term) := ⟨rfl, rfl, rfl, by decide +kernel, rfl, by decide +kernel, by decide +kernel⟩
-- calls ['term_size'] consts ['TERM_PARTS', 'TERM_DEEP']
def c_is_term : Con := con1 Fine fun d => .bl (isTerm d)
theorem ok_is_term (C_TERM_DEEP : CI mg "TERM_DEEP" 6) (C_TERM_PARTS : CI mg "TERM_PARTS" 40) (F_term_size : Callee P w K mg base "term_size" k ["thing", "sort", "deep", "room"] (c_term_size 7)) (F : Fun K "is_term" "is_term" s_is_term f fd) : FnOk P w K mg base CX0 (k + 1) f fd ["thing"] (spD K c_is_term) := by
  refine fn_pure F sc_is_term (fun ds P X ⟨d, e, _⟩ => by rw [e]; rfl) fun cdv A outer s H S hS hr => ?_
  have nd := sc_is_term.nd
  refine ⟨_, (db_one (ds_ret (de_notN (de_fn F_term_size hr (da_cons (de_var 0) (da_cons de_str (da_cons (de_ci C_TERM_DEEP) (da_cons (de_ci C_TERM_PARTS) da_nil)))) (by omega))))), ?_⟩
  rintro ds R X ⟨d, rfl, hf, h⟩
  replace h : R (.bl (isTerm d)) := h
  ((try dsimp only); refine rd_here rfl ?_; (try dsimp only))
  refine conE_use (args := fun a : Dat × Str × Int × Int => [a.1, .str a.2.1, .int a.2.2.1, .int a.2.2.2]) (d, "", 6, 40) ⟨hf, show cap 6 < 7 by decide⟩ ?_
  have e : (!isN (natD (tsz d "" 6 40))) = isTerm d := by
    unfold isTerm
    cases tsz d "" 6 40 <;> rfl
  show R (.bl (!isN (natD (tsz d "" 6 40))))
  rw [e]; exact h
/-! ### parts_in_order -/
def partsL : Nat → Dat → List Dat
  | 0, _ => []
  | n + 1, d => d :: (innerOf d).flatMap (partsL n)
/-- a good term, at most n deep -/
def Good (n : Nat) (d : Dat) : Prop := ∃ k m, kindOf n d = some (k, m) ∧ m ≤ 40
theorem good_shape {n : Nat} {d : Dat} (h : Good n d) : (shape d).isSome = true := by
  obtain ⟨k, m, e, _⟩ := h
  cases n with
  | zero => cases e
  | succ n =>
    unfold kindOf at e
    cases es : shape d with
    | none => rw [es] at e; cases e
    | some p => rfl
theorem sizeP_all {n : Nat} : ∀ {ts : List Dat} {ss : List Str} {m : Nat}, sizeP (kindOf n) ts ss = some m → ∀ t ∈ ts, ∃ k q, kindOf n t = some (k, q) ∧ q ≤ m
  | [], _, _, _, t, ht => by cases ht
  | t :: ts, [], _, h, _, _ => by cases h
  | t :: ts, s :: ss, m, h, x, hx => by
    simp only [sizeP] at h
    cases e : kindOf n t with
    | none => rw [e] at h; cases h
    | some p =>
      obtain ⟨k, q⟩ := p
      rw [e] at h
      simp only at h
      by_cases hf : fitsS s k = true
      · rw [if_pos hf] at h
        cases e2 : sizeP (kindOf n) ts ss with
        | none => rw [e2] at h; cases h
        | some r =>
          rw [e2] at h
          cases h
          rcases List.mem_cons.mp hx with rfl | hx
          · exact ⟨k, q, e, by show q ≤ q + r; omega⟩
          · obtain ⟨k', q', e', hq⟩ := sizeP_all e2 x hx
            exact ⟨k', q', e', by show q' ≤ q + r; omega⟩
      · rw [if_neg hf] at h; cases h
theorem good_inner {n : Nat} {d : Dat} (h : Good (n + 1) d) : ∀ t ∈ innerOf d, Good n t := fun t ht => by
  obtain ⟨k, m, e, hm⟩ := h
  unfold kindOf at e
  cases es : shape d with
  | none => rw [es] at e; cases e
  | some p =>
    obtain ⟨ss, ts, kk⟩ := p
    rw [es] at e
    have ei : innerOf d = ts := by unfold innerOf; rw [es]
    rw [ei] at ht
    cases e2 : sizeP (kindOf n) ts ss with
    | none => simp [e2] at e
    | some r =>
      simp [e2] at e
      obtain ⟨k', q', e', hq⟩ := sizeP_all e2 t ht
      exact ⟨k', q', e', by omega⟩
theorem sizeP_sum {n : Nat} (g : Dat → Nat) (hg : ∀ t k q, kindOf n t = some (k, q) → g t ≤ q) : ∀ {ts : List Dat} {ss : List Str} {m : Nat}, sizeP (kindOf n) ts ss = some m → (ts.map g).sum ≤ m
  | [], [], m, h => by simp
  | [], _ :: _, _, h => by cases h
  | t :: ts, [], _, h => by cases h
  | t :: ts, s :: ss, m, h => by
    simp only [sizeP] at h
    cases e : kindOf n t with
    | none => rw [e] at h; cases h
    | some p =>
      obtain ⟨k, q⟩ := p
      rw [e] at h
      simp only at h
      by_cases hf : fitsS s k = true
      · rw [if_pos hf] at h
        cases e2 : sizeP (kindOf n) ts ss with
        | none => rw [e2] at h; cases h
        | some r =>
          rw [e2] at h
          cases h
          have a := hg t k q e
          have b := sizeP_sum g hg e2
          simp only [List.map_cons, List.sum_cons]
          omega
      · rw [if_neg hf] at h; cases h
theorem partsL_len : ∀ {n : Nat} {d : Dat} {k : Str} {m : Nat}, kindOf n d = some (k, m) → (partsL n d).length ≤ m
  | 0, _, _, _, h => by cases h
  | n + 1, d, k, m, h => by
    unfold kindOf at h
    cases es : shape d with
    | none => rw [es] at h; cases h
    | some p =>
      obtain ⟨ss, ts, kk⟩ := p
      rw [es] at h
      have ei : innerOf d = ts := by unfold innerOf; rw [es]
      cases e2 : sizeP (kindOf n) ts ss with
      | none => simp [e2] at h
      | some r =>
        simp [e2] at h
        have q := sizeP_sum (fun t => (partsL n t).length) (fun t k q e => partsL_len e) e2
        simp only [partsL, List.length_cons, ei, List.length_flatMap]
        omega
abbrev s_parts_in_order : Stmt := topS 20
theorem sc_parts_in_order : FnScope ["term", "parts", "inner"] ["term"] (defScope s_parts_in_order) := ⟨rfl, rfl, rfl, by decide +kernel, rfl, by decide +kernel, by decide +kernel⟩
-- calls ['inner_terms', 'parts_in_order'] consts []
def c_parts (n : Nat) : Con := con1 (fun d => Good n d) fun d => .lst (partsL n d)
theorem ok_parts {n : Nat} (B : Bt mg) (F_inner_terms : Callee P w K mg base "inner_terms" k ["term"] c_inner_terms) (F_parts_in_order : Callee P w K mg base "parts_in_order" k ["term"] (c_parts n)) (F : Fun K "parts_in_order" "parts_in_order" s_parts_in_order f fd) : FnOk P w K mg base CX0 (k + 1) f fd ["term"] (spD K (c_parts (n + 1))) := by
  refine fn_pure F sc_parts_in_order (fun ds P X ⟨d, e, _⟩ => by rw [e]; rfl) fun cdv A outer s H S hS hr => ?_
  have nd := sc_parts_in_order.nd
  refine ⟨_, (db_cons (ds_setOwn 1 (da_cons (de_var 0) da_nil) nd) (db_cons (ds_forI PassesOwn.never rfl (di_seq (de_fn F_inner_terms hr (da_cons (de_var 0) da_nil) (by omega))) (dg_name 2 nd) (db_one (ds_extend 1 (he := (de_fn F_parts_in_order hr (da_cons (de_var 2) da_nil) (by omega)))))) (db_one (ds_freeze (ds_ret (de_var 1)))))), ?_⟩
  rintro ds R X ⟨d, rfl, hs, h⟩
  replace h : R (.lst (d :: (innerOf d).flatMap (partsL n))) := h
  have hs' := hs
  obtain ⟨kk, m, ek, hm⟩ := hs
  have hlen : (d :: (innerOf d).flatMap (partsL n)).length ≤ m := partsL_len ek
  ((try dsimp only); refine rd_here rfl ?_; (try dsimp only))
  refine ⟨show 1 ≤ sizeLine by decide, ?_⟩
  try dsimp only
  refine ⟨fun items ρ => ∃ (pre : List Dat) (a : DL.Slot), (pre ++ items = innerOf d) ∧ ρ = [.d d, .own (d :: pre.flatMap (partsL n)), a], ?_, ?_, ?_⟩
  · ((try dsimp only); refine rd_here rfl ?_; (try dsimp only))
    refine con1_C.mpr ⟨good_shape hs', ?_⟩
    rw [seqOf_tup]
    exact ⟨[], .un, rfl, rfl⟩
  · rintro ρ ⟨pre, a, e, rfl⟩
    rw [List.append_nil] at e
    subst e
    exact h
  · rintro t ts ρ ⟨pre, a, e, rfl⟩
    have ht : t ∈ innerOf d := by rw [← e]; simp
    try dsimp only
    refine ownL_here rfl ?_
    ((try dsimp only); refine rd_here rfl ?_; (try dsimp only))
    refine con1_C.mpr ⟨good_inner hs' t ht, ?_⟩
    rw [lstD_lst]
    have e2 : ((pre ++ [t]).flatMap (partsL n)).length ≤ ((innerOf d).flatMap (partsL n)).length := by
      have e0 : innerOf d = (pre ++ [t]) ++ ts := by rw [← e]; simp
      have e1 : ((pre ++ [t]) ++ ts).flatMap (partsL n) = (pre ++ [t]).flatMap (partsL n) ++ ts.flatMap (partsL n) := List.flatMap_append
      rw [e0, e1, List.length_append]
      omega
    refine ⟨?_, pre ++ [t], .d t, by rw [← e]; simp, ?_⟩
    · have := line_big
      have e3 : ((pre ++ [t]).flatMap (partsL n)).length = (pre.flatMap (partsL n)).length + (partsL n t).length := by
        rw [List.flatMap_append, List.length_append]; simp
      rw [e3] at e2
      rw [List.length_cons] at hlen ⊢
      omega
    · show [Slot.d d, Slot.own ((d :: List.flatMap (partsL n) pre) ++ partsL n t), Slot.d t] = _
      rw [List.flatMap_append]
      simp
/-! ### texts -/
def intText (i : Int) : Str := Str.ofString (toString i)
def intD' (d : Dat) : Dat := match d with
  | .int i => .str (intText i)
  | _ => .non
theorem intText_len {i : Int} (h : i.natAbs < 10 ^ 10) : (intText i).length ≤ 11 := by
  unfold intText
  rw [PySem.ofString_length]
  exact int_text_length_le10 (by decide) h
theorem small_log {i : Int} (h : i.natAbs < 10 ^ 10) : i.natAbs.log2 < 1920 := by
  by_cases h0 : i.natAbs = 0
  · rw [h0]; decide
  · have : i.natAbs.log2 < 64 := (Nat.log2_lt h0).mpr (by omega)
    omega
theorem sum_le {α : Type} (g : α → Nat) (b : Nat) : ∀ {l : List α}, (∀ x ∈ l, g x ≤ b) → (l.map g).sum ≤ l.length * b
  | [], _ => by simp
  | x :: l, h => by
    have h1 := h x List.mem_cons_self
    have h2 := sum_le g b (l := l) fun y hy => h y (List.mem_cons_of_mem _ hy)
    simp only [List.map_cons, List.sum_cons, List.length_cons, Nat.succ_mul]
    omega
abbrev s_in_brackets : Stmt := topS 21
theorem sc_in_brackets : FnScope ["word", "numbers", "texts", "number"] ["word", "numbers", "texts"] (defScope s_in_brackets) := ⟨rfl, rfl, rfl, by decide +kernel, rfl, by decide +kernel, by decide +kernel⟩
-- calls [] consts []
/-- a word, numbers, texts -/
def brackets (w : Str) (ns : List Int) (ts : List Str) : Str := w ++ "(" ++ Txt.join "," (ns.map intText ++ ts) ++ ")"
def c_in_brackets : Con := conE (α := Str × List Int × List Str) (fun a => [.str a.1, .tup (a.2.1.map Dat.int), .lst (a.2.2.map Dat.str)]) (fun a => a.1.length ≤ 100 ∧ a.2.1.length ≤ 10 ∧ (∀ i ∈ a.2.1, i.natAbs < 10 ^ 10) ∧ a.2.2.length ≤ 10 ∧ ∀ t ∈ a.2.2, t.length ≤ 10000) fun a => .str (brackets a.1 a.2.1 a.2.2)
theorem ok_in_brackets (B : Bt mg) (F : Fun K "in_brackets" "in_brackets" s_in_brackets f fd) : FnOk P w K mg base CX0 (k + 1) f fd ["word", "numbers", "texts"] (spD K c_in_brackets) := by
  refine fn_pure F sc_in_brackets (fun ds P X ⟨d, e, _⟩ => by rw [e]; rfl) fun cdv A outer s H S hS hr => ?_
  have nd := sc_in_brackets.nd
  refine ⟨_, (db_one (ds_ret (de_add (de_add (de_add (de_var 0) de_str) (de_join de_str (de_add (de_lc 3 (x := "number") rfl nd (di_seq (de_var 1)) (blkOk_by (own := [("number", 3)]) (N := ["word", "numbers", "texts", "number"]) (sc := defScope s_in_brackets) (by decide +kernel)) (fun _ _ _ _ _ => pg_name (i := 3) nd rfl (Or.inl rfl)) (fun _ _ _ _ _ => dts_nil) (fun _ _ _ _ _ => (de_strI B.str (da_cons (de_var 3) da_nil)))) (de_var 2)))) de_str))), ?_⟩
  rintro ds R X ⟨⟨wd, ns, ts⟩, rfl, ⟨h1, h2, h3, h4, h5⟩, h⟩
  replace h : R (.str (brackets wd ns ts)) := h
  replace h1 : wd.length ≤ 100 := h1
  replace h2 : ns.length ≤ 10 := h2
  replace h3 : ∀ i ∈ ns, i.natAbs < 10 ^ 10 := h3
  replace h4 : ts.length ≤ 10 := h4
  replace h5 : ∀ t ∈ ts, t.length ≤ 10000 := h5
  have big := line_big
  ((try dsimp only); refine rd_here rfl ?_; (try dsimp only))
  rw [addD_str, isS_str]
  have l1 : ("(" : Str).length = 1 := by decide +kernel
  refine ⟨by rw [l1]; omega, ?_⟩
  ((try dsimp only); refine rd_here rfl ?_; (try dsimp only))
  rw [seqOf_tup]
  refine compF_map (f := intD') (fun d hd Q hQ => ?_) (by simp; omega) ?_
  · obtain ⟨i, hi, rfl⟩ := List.mem_map.mp hd
    ((try dsimp only); refine rd_here rfl ?_; (try dsimp only))
    rw [strD_int]
    exact ⟨small_log (h3 i hi), hQ⟩
  · ((try dsimp only); refine rd_here rfl ?_; (try dsimp only))
    have e : ([] ++ (ns.map Dat.int).map intD') = (ns.map intText).map Dat.str := by
      rw [List.nil_append, List.map_map, List.map_map]; rfl
    rw [e, addD_lst, ← List.map_append]
    refine ⟨by simp; omega, ?_⟩
    unfold joinD
    rw [seqOf_lst, strsOf_map, someD_some]
    have hall : ∀ t ∈ ns.map intText ++ ts, t.length ≤ 10000 := fun t ht => by
      rcases List.mem_append.mp ht with ht | ht
      · obtain ⟨i, hi, rfl⟩ := List.mem_map.mp ht
        have := intText_len (h3 i hi)
        omega
      · exact h5 t ht
    have hs := sum_le (fun t : Str => t.length) 10000 hall
    have hl : (ns.map intText ++ ts).length ≤ 20 := by simp; omega
    have l2 : ("," : Str).length = 1 := by decide +kernel
    have l3 : (")" : Str).length = 1 := by decide +kernel
    have hsum : ((ns.map intText ++ ts).map (·.length)).sum + (ns.map intText ++ ts).length * 1 ≤ 300000 := by
      have : (ns.map intText ++ ts).length * 10000 ≤ 20 * 10000 := Nat.mul_le_mul_right _ hl
      omega
    have hj : (Txt.join "," (ns.map intText ++ ts)).length ≤ 300000 := by
      have e5 : (Txt.join "," (ns.map intText ++ ts)).length = ((ns.map intText ++ ts).map (·.length)).sum + ((ns.map intText ++ ts).length - 1) * (("," : Str).length) := size_glued "," _
      rw [e5, l2]
      omega
    rw [l2]
    refine ⟨by omega, ?_⟩
    try dsimp only
    rw [addD_str]
    have l4 : (wd ++ "(" : Str).length = wd.length + 1 := by rw [PySem.Str.length_append, l1]
    have sz : sizeLine = 16777216 := rfl
    refine ⟨by rw [l4]; omega, ?_⟩
    rw [addD_str]
    refine ⟨by rw [PySem.Str.length_append, l4, l3]; omega, ?_⟩
    exact h
end
end K01
namespace K01
open PySem PySem.Spec PyProof.Rows L2 DL
def okRow (p : Str × Row) : Bool := decide (p.1.length ≤ 7) && decide (p.2.1 ∈ sorts) && decide (p.2.2.2.length ≤ 2) && p.2.2.2.all (fun s => decide (s ∈ sorts)) && (match p.2.2.1 with
  | none => !decide (p.1 ∈ (["number", "bits", "times"] : List Str))
  | some (lo, hi) => decide (-1000000 ≤ lo) && decide (hi ≤ 1000000) && decide (p.1 ∈ (["number", "bits", "times"] : List Str)) && (decide (p.1 = "times") || decide (p.2.2.2 = [])))
theorem okRows : table.all okRow = true := by decide +kernel
theorem row_facts {w k : Str} {b : Option (Int × Int)} {ss : List Str} (h : row w = some (k, b, ss)) : w.length ≤ 7 ∧ k ∈ sorts ∧ ss.length ≤ 2 ∧ (∀ s ∈ ss, s ∈ sorts) ∧ (b = none → w ∉ (["number", "bits", "times"] : List Str)) ∧ ∀ lo hi, b = some (lo, hi) → -1000000 ≤ lo ∧ hi ≤ 1000000 ∧ w ∈ (["number", "bits", "times"] : List Str) ∧ (w = "times" ∨ ss = []) := by
  have q := List.all_eq_true.mp okRows _ (row_mem h)
  simp only [okRow, Bool.and_eq_true] at q
  obtain ⟨⟨⟨⟨q1, q2⟩, q3⟩, q4⟩, q5⟩ := q
  refine ⟨of_decide_eq_true q1, of_decide_eq_true q2, of_decide_eq_true q3, fun s hs => of_decide_eq_true (List.all_eq_true.mp q4 s hs), fun e => ?_, fun lo hi e => ?_⟩
  · subst e
    simpa using q5
  · subst e
    simp only [Bool.and_eq_true, Bool.or_eq_true] at q5
    exact ⟨of_decide_eq_true q5.1.1.1, of_decide_eq_true q5.1.1.2, of_decide_eq_true q5.1.2, q5.2.imp of_decide_eq_true of_decide_eq_true⟩
theorem name_len {d : Dat} (h : isName d = true) : ∃ z, d = .str z ∧ z.length ≤ 6 := by
  cases d with
  | str z =>
    simp only [isName, Bool.and_eq_true] at h
    exact ⟨z, rfl, of_decide_eq_true h.1.2⟩
  | _ => cases h
theorem sort_len {z : Str} (h : z ∈ sorts) : z.length ≤ 5 := by
  simp only [sorts, List.mem_cons, List.not_mem_nil, or_false] at h
  rcases h with rfl | rfl | rfl | rfl | rfl <;> decide +kernel
theorem sizeP_sumc {n : Nat} (c : Nat) (g : Dat → Nat) (hg : ∀ t k q, kindOf n t = some (k, q) → g t ≤ c * q) : ∀ {ts : List Dat} {ss : List Str} {m : Nat}, sizeP (kindOf n) ts ss = some m → (ts.map g).sum ≤ c * m
  | [], [], m, h => by simp
  | [], _ :: _, _, h => by cases h
  | t :: ts, [], _, h => by cases h
  | t :: ts, s :: ss, m, h => by
    simp only [sizeP] at h
    cases e : kindOf n t with
    | none => rw [e] at h; cases h
    | some p =>
      obtain ⟨k, q⟩ := p
      rw [e] at h
      simp only at h
      by_cases hf : fitsS s k = true
      · rw [if_pos hf] at h
        cases e2 : sizeP (kindOf n) ts ss with
        | none => rw [e2] at h; cases h
        | some r =>
          rw [e2] at h
          cases h
          have a := hg t k q e
          have b := sizeP_sumc c g hg e2
          simp only [List.map_cons, List.sum_cons]
          rw [Nat.mul_add]
          omega
      · rw [if_neg hf] at h; cases h
def intOr (d : Dat) : Int := match d with
  | .int i => i
  | _ => 0
/-- the text of a term, at most n deep -/
def textOf : Nat → Dat → Str
  | 0, _ => ""
  | n + 1, d => match d with
    | .tup (.str w :: r) =>
      if w = "name" then strOr (r.getD 0 .non) ++ ":" ++ strOr (r.getD 1 .non)
      else if w = "number" then intText (intOr (r.getD 0 .non))
      else if w = "bits" then "#" ++ intText (intOr (r.getD 0 .non))
      else if w = "call" then brackets (strOr (r.getD 0 .non) ++ ":" ++ strOr (r.getD 2 .non)) [] ((innerOf d).map (textOf n))
      else brackets w (if w = "times" then [intOr (r.getD 0 .non)] else []) ((innerOf d).map (textOf n))
    | _ => ""
theorem brackets_len {wd : Str} {ns : List Int} {ts : List Str} (h3 : ∀ i ∈ ns, i.natAbs < 10 ^ 10) (hn : ns.length ≤ 1) (ht : ts.length ≤ 3) : (brackets wd ns ts).length ≤ wd.length + (ts.map (·.length)).sum + 17 := by
  unfold brackets
  have l1 : ("(" : Str).length = 1 := by decide +kernel
  have l2 : ("," : Str).length = 1 := by decide +kernel
  have l3 : (")" : Str).length = 1 := by decide +kernel
  have e5 : (Txt.join "," (ns.map intText ++ ts)).length = ((ns.map intText ++ ts).map (·.length)).sum + ((ns.map intText ++ ts).length - 1) * (("," : Str).length) := size_glued "," _
  rw [PySem.Str.length_append, PySem.Str.length_append, PySem.Str.length_append, e5, l1, l2, l3, List.map_append, List.sum_append, List.length_append, List.length_map]
  have a : ((ns.map intText).map (·.length)).sum ≤ 11 := by
    rcases ns with _ | ⟨i, _ | ⟨j, r⟩⟩
    · simp
    · have := intText_len (h3 i (by simp))
      simpa using this
    · simp at hn
  omega
theorem inner_len {d : Dat} (h : (shape d).isSome = true) : (innerOf d).length ≤ 3 := by
  unfold innerOf
  rcases shape_cases h with ⟨n, c, rfl, hn, hc, e⟩ | ⟨n, ts, c, rfl, hn, hc, h1, h2, e⟩ | ⟨w0, r, k0, b, ss, ts, rfl, hn, hc, hr, hb, e⟩
  · rw [e]; show ([] : List Dat).length ≤ 3; decide
  · rw [e]; exact h2
  · rw [e]
    obtain ⟨_, _, hs, _⟩ := row_facts hr
    cases b with
    | none => obtain ⟨rfl, hl⟩ := behind_none hb; show ts.length ≤ 3; omega
    | some p => obtain ⟨i, _, hl, _⟩ := behind_some hb; show ts.length ≤ 3; omega
theorem textOf_len : ∀ {n : Nat} {d : Dat} {k : Str} {m : Nat}, kindOf n d = some (k, m) → (textOf n d).length ≤ 30 * m
  | 0, _, _, _, h => by cases h
  | n + 1, d, k, m, h => by
    have hs : (shape d).isSome = true := by
      unfold kindOf at h
      cases es : shape d with
      | none => rw [es] at h; cases h
      | some p => rfl
    have hsum : ((innerOf d).map fun t => (textOf n t).length).sum + 30 ≤ 30 * m := by
      unfold kindOf at h
      cases es : shape d with
      | none => rw [es] at h; cases h
      | some p =>
        obtain ⟨ss, ts, kk⟩ := p
        rw [es] at h
        have ei : innerOf d = ts := by unfold innerOf; rw [es]
        rw [ei]
        cases e2 : sizeP (kindOf n) ts ss with
        | none => simp [e2] at h
        | some r =>
          simp [e2] at h
          have q := sizeP_sumc 30 (fun t => (textOf n t).length) (fun t k q e => textOf_len e) e2
          omega
    have hin := inner_len hs
    have l0 : (":" : Str).length = 1 := by decide +kernel
    have lh : ("#" : Str).length = 1 := by decide +kernel
    have hmap : (((innerOf d).map (textOf n)).map (·.length)).sum = ((innerOf d).map fun t => (textOf n t).length).sum := by rw [List.map_map]; rfl
    rcases shape_cases hs with ⟨nm, c, rfl, hn, hc, e⟩ | ⟨nm, ts, c, rfl, hn, hc, h1, h2, e⟩ | ⟨w0, r, k0, b, ss, ts, rfl, hn, hc, hr, hb, e⟩
    · obtain ⟨z, rfl, hz⟩ := name_len hn
      have := sort_len hc
      have e1 : textOf (n + 1) (.tup [.str "name", .str z, .str c]) = z ++ ":" ++ c := by
        unfold textOf
        exact if_pos rfl
      rw [e1, PySem.Str.length_append, PySem.Str.length_append, l0]
      omega
    · obtain ⟨z, rfl, hz⟩ := name_len hn
      have := sort_len hc
      have e1 : textOf (n + 1) (.tup [.str "call", .str z, .tup ts, .str c]) = brackets (z ++ ":" ++ c) [] ((innerOf (.tup [.str "call", .str z, .tup ts, .str c])).map (textOf n)) := by
        simp only [textOf]
        rw [if_neg (by decide +kernel), if_neg (by decide +kernel), if_neg (by decide +kernel), if_pos (by decide +kernel)]; rfl
      rw [e1]
      have q := brackets_len (wd := z ++ ":" ++ c) (ns := []) (ts := (innerOf (.tup [.str "call", .str z, .tup ts, .str c])).map (textOf n)) (by simp) (by simp) (by simpa using hin)
      rw [hmap, PySem.Str.length_append, PySem.Str.length_append, l0] at q
      omega
    · obtain ⟨hw, _, hs2, _, hb1, hb2⟩ := row_facts hr
      have hint : w0 ∈ (["number", "bits", "times"] : List Str) → ∃ i, r.getD 0 .non = .int i ∧ i.natAbs < 10 ^ 10 := fun hw0 => by
        cases b with
        | none => exact absurd hw0 (hb1 rfl)
        | some p =>
          obtain ⟨j, rfl, _, hlo, hhi⟩ := behind_some hb
          have hb3 := hb2 _ _ rfl
          exact ⟨j, rfl, by omega⟩
      simp only [textOf]
      rw [if_neg hn]
      by_cases h1 : w0 = "number"
      · obtain ⟨i, hi, hlt⟩ := hint (by rw [h1]; decide +kernel)
        have := intText_len hlt
        rw [if_pos h1, hi]
        show (intText i).length ≤ _
        omega
      · rw [if_neg h1]
        by_cases h2 : w0 = "bits"
        · obtain ⟨i, hi, hlt⟩ := hint (by rw [h2]; decide +kernel)
          have := intText_len hlt
          rw [if_pos h2, hi, PySem.Str.length_append, lh]
          show 1 + (intText i).length ≤ _
          omega
        · rw [if_neg h2, if_neg hc]
          by_cases h3 : w0 = "times"
          · obtain ⟨i, hi, hlt⟩ := hint (by rw [h3]; decide +kernel)
            rw [if_pos h3, hi]
            have q := brackets_len (wd := w0) (ns := [i]) (ts := (innerOf (.tup (.str w0 :: r))).map (textOf n)) (by simpa using hlt) (by simp) (by simpa using hin)
            rw [hmap] at q
            show (brackets w0 [i] _).length ≤ _
            omega
          · rw [if_neg h3]
            have q := brackets_len (wd := w0) (ns := []) (ts := (innerOf (.tup (.str w0 :: r))).map (textOf n)) (by simp) (by simp) (by simpa using hin)
            rw [hmap] at q
            omega
section
variable {P : Program} {w : World} {K : PySem.W.Frag} {mg : Str → Option Value} {base : Heap} {f f2 : Addr} {fd fd2 : FuncData} {k : Nat}
abbrev s_term_text : Stmt := topS 22
theorem sc_term_text : FnScope ["term", "word", "texts", "inner"] ["term"] (defScope s_term_text) := ⟨rfl, rfl, rfl, by decide +kernel, rfl, by decide +kernel, by decide +kernel⟩
-- calls ['inner_terms', 'term_text', 'in_brackets'] consts []
def c_text (n : Nat) : Con := con1 (fun d => Good n d) fun d => .str (textOf n d)
theorem ok_text {n : Nat} (B : Bt mg) (F_inner_terms : Callee P w K mg base "inner_terms" k ["term"] c_inner_terms) (F_in_brackets : Callee P w K mg base "in_brackets" k ["word", "numbers", "texts"] c_in_brackets) (F_term_text : Callee P w K mg base "term_text" k ["term"] (c_text n)) (F : Fun K "term_text" "term_text" s_term_text f fd) : FnOk P w K mg base CX0 (k + 1) f fd ["term"] (spD K (c_text (n + 1))) := by
  refine fn_pure F sc_term_text (fun ds P X ⟨d, e, _⟩ => by rw [e]; rfl) fun cdv A outer s H S hS hr => ?_
  have nd := sc_term_text.nd
  refine ⟨_, (db_cons (ds_set 1 (de_ix (de_var 0) de_int) nd) (db_cons (ds_ifc (dt_eq hr.units (de_var 1) de_str) (db_one (ds_ret (de_joined (dj_cons (de_fmt (de_ix (de_var 0) de_int)) (dj_cons de_str (dj_cons (de_fmt (de_ix (de_var 0) de_int)) dj_nil)))))) db_nil) (db_cons (ds_ifc (dt_eq hr.units (de_var 1) de_str) (db_one (ds_ret (de_strI B.str (da_cons (de_ix (de_var 0) de_int) da_nil)))) db_nil) (db_cons (ds_ifc (dt_eq hr.units (de_var 1) de_str) (db_one (ds_ret (de_add de_str (de_strI B.str (da_cons (de_ix (de_var 0) de_int) da_nil))))) db_nil) (db_cons (ds_setLc 2 3 (x := "inner") rfl nd (sw_true rfl rfl rfl (by decide +kernel)) (di_seq (de_fn F_inner_terms hr (da_cons (de_var 0) da_nil) (by omega))) (blkOk_by (own := [("inner", 3)]) (N := ["term", "word", "texts", "inner"]) (sc := defScope s_term_text) (by decide +kernel)) (fun _ _ _ _ _ => pg_name (i := 3) nd rfl (Or.inl rfl)) (fun _ _ _ _ _ => dts_nil) (fun _ _ _ _ _ => (de_fn F_term_text hr (da_cons (de_var 3) da_nil) (by omega)))) (db_cons (ds_ifc (dt_eq hr.units (de_var 1) de_str) (db_one (ds_ret (de_fn F_in_brackets hr (da_cons (de_joined (dj_cons (de_fmt (de_ix (de_var 0) de_int)) (dj_cons de_str (dj_cons (de_fmt (de_ix (de_var 0) de_int)) dj_nil)))) (da_cons (de_tup da_nil) (da_cons (de_var 2) da_nil))) (by omega)))) db_nil) (db_one (ds_ret (de_fn F_in_brackets hr (da_cons (de_var 1) (da_cons (de_if (dt_eq hr.units (de_var 1) de_str) (de_sl (de_var 0) (do_some de_int) (do_some de_int)) (de_tup da_nil)) (da_cons (de_var 2) da_nil))) (by omega)))))))))), ?_⟩
  rintro ds R X ⟨d, rfl, hg, h⟩
  replace h : R (.str (textOf (n + 1) d)) := h
  have hs := good_shape hg
  have big := line_big
  have l0 : (":" : Str).length = 1 := by decide +kernel
  have lh : ("#" : Str).length = 1 := by decide +kernel
  have emp : ∀ z : Str, Str.empty ++ z = z := fun z => by
    show (⟨#[] ++ z.cps⟩ : Str) = z
    rw [Array.empty_append]
  have hin := inner_len hs
  have hgi : ∀ t ∈ innerOf d, Good n t := good_inner hg
  have hlen : ∀ t ∈ (innerOf d).map (textOf n), t.length ≤ 10000 := fun t ht => by
    obtain ⟨x, hx, rfl⟩ := List.mem_map.mp ht
    obtain ⟨k', m', e', hm'⟩ := hgi x hx
    have := textOf_len e'
    omega
  -- the inner texts
  have inner : ∀ (ρ : List DL.Slot) (wd : Str) (P : List Dat → Prop), P (((innerOf d).map (textOf n)).map Dat.str) → compF (gNm 3) (fun _ P => P true) (fun ρ P => rd ρ 3 fun x => (c_text n).C [x] P fun _ => False) [.d d, .d (.str wd), .un, .un] (innerOf d) [] P := fun ρ wd P hP => by
    refine compF_map (f := fun t => .str (textOf n t)) (fun t ht Q hQ => ?_) (by simp; omega) ?_
    · ((try dsimp only); refine rd_here rfl ?_; (try dsimp only))
      exact con1_C.mpr ⟨hgi t ht, hQ⟩
    · rw [List.nil_append]
      rw [List.map_map] at hP
      exact hP
  ((try dsimp only); refine rd_here rfl ?_; (try dsimp only))
  rcases shape_cases hs with ⟨nm, c, rfl, hn, hc, e⟩ | ⟨nm, ts, c, rfl, hn, hc, h1, h2, e⟩ | ⟨w0, r, k0, b, ss, ts, rfl, hn, hc, hr, hb, e⟩
  · obtain ⟨z, rfl, hz⟩ := name_len hn
    have hc5 := sort_len hc
    have e1 : textOf (n + 1) (.tup [.str "name", .str z, .str c]) = z ++ ":" ++ c := by
      unfold textOf
      exact if_pos rfl
    rw [e1] at h
    rw [ixD_tup, at0, someD_some]
    try dsimp only
    refine ⟨(· = true), ?_, fun _ => ?_, fun e => nomatch e⟩
    · ((try dsimp only); refine rd_here rfl ?_; (try dsimp only))
      exact decide_eq_true rfl
    · ((try dsimp only); refine rd_here rfl ?_; (try dsimp only))
      rw [ixD_tup, at1, someD_some, fmtD_str, isS_str, isS_str, emp]
      refine ⟨by omega, by omega, by rw [PySem.Str.length_append, l0]; omega, ?_⟩
      ((try dsimp only); refine rd_here rfl ?_; (try dsimp only))
      rw [ixD_tup, at2, someD_some, fmtD_str, isS_str]
      refine ⟨by omega, by rw [PySem.Str.length_append, PySem.Str.length_append, l0]; omega, ?_⟩
      exact h
  · obtain ⟨z, rfl, hz⟩ := name_len hn
    have hc5 := sort_len hc
    have e1 : textOf (n + 1) (.tup [.str "call", .str z, .tup ts, .str c]) = brackets (z ++ ":" ++ c) [] ((innerOf (.tup [.str "call", .str z, .tup ts, .str c])).map (textOf n)) := by
      simp only [textOf]
      rw [if_neg (by decide +kernel), if_neg (by decide +kernel), if_neg (by decide +kernel), if_pos (by decide +kernel)]; rfl
    rw [e1] at h
    rw [ixD_tup, at0, someD_some]
    try dsimp only
    refine ⟨(· = false), ?_, (fun e => nomatch e), fun _ => ?_⟩
    · ((try dsimp only); refine rd_here rfl ?_; (try dsimp only))
      exact decide_eq_false (by decide +kernel)
    refine ⟨(· = false), ?_, (fun e => nomatch e), fun _ => ?_⟩
    · ((try dsimp only); refine rd_here rfl ?_; (try dsimp only))
      exact decide_eq_false (by decide +kernel)
    refine ⟨(· = false), ?_, (fun e => nomatch e), fun _ => ?_⟩
    · ((try dsimp only); refine rd_here rfl ?_; (try dsimp only))
      exact decide_eq_false (by decide +kernel)
    ((try dsimp only); refine rd_here rfl ?_; (try dsimp only))
    refine con1_C.mpr ⟨hs, ?_⟩
    rw [seqOf_tup]
    refine inner [] "call" _ ?_
    try dsimp only
    refine ⟨(· = true), ?_, fun _ => ?_, fun e => nomatch e⟩
    · ((try dsimp only); refine rd_here rfl ?_; (try dsimp only))
      exact decide_eq_true rfl
    ((try dsimp only); refine rd_here rfl ?_; (try dsimp only))
    rw [ixD_tup, at1, someD_some, fmtD_str, isS_str, isS_str, emp]
    refine ⟨by omega, by omega, by rw [PySem.Str.length_append, l0]; omega, ?_⟩
    ((try dsimp only); refine rd_here rfl ?_; (try dsimp only))
    rw [ixD_tup, at3, someD_some, fmtD_str, isS_str]
    refine ⟨by omega, by rw [PySem.Str.length_append, PySem.Str.length_append, l0]; omega, ?_⟩
    refine ⟨Nat.zero_le _, ?_⟩
    ((try dsimp only); refine rd_here rfl ?_; (try dsimp only))
    exact conE_use (args := fun a : Str × List Int × List Str => [.str a.1, .tup (a.2.1.map Dat.int), .lst (a.2.2.map Dat.str)]) (z ++ ":" ++ c, [], (innerOf (.tup [.str "call", .str z, .tup ts, .str c])).map (textOf n))
      ⟨by show (z ++ ":" ++ c : Str).length ≤ 100; rw [PySem.Str.length_append, PySem.Str.length_append, l0]; omega, by simp, by simp, by simp; omega, hlen⟩ h
  · obtain ⟨hw, _, hs2, _, hb1, hb2⟩ := row_facts hr
    have three : w0 ∈ (["number", "bits", "times"] : List Str) → ∃ i, r = .int i :: ts ∧ i.natAbs < 10 ^ 10 := fun hw0 => by
      cases b with
      | none => exact absurd hw0 (hb1 rfl)
      | some p =>
        obtain ⟨j, e2, _, hlo, hhi⟩ := behind_some hb
        have hb3 := hb2 _ _ rfl
        exact ⟨j, e2, by omega⟩
    rw [ixD_tup, at0, someD_some]
    try dsimp only
    refine ⟨(· = false), ?_, (fun e => nomatch e), fun _ => ?_⟩
    · ((try dsimp only); refine rd_here rfl ?_; (try dsimp only))
      exact decide_eq_false hn
    have e1 : textOf (n + 1) (.tup (.str w0 :: r)) = if w0 = "number" then intText (intOr (r.getD 0 .non)) else if w0 = "bits" then "#" ++ intText (intOr (r.getD 0 .non)) else brackets w0 (if w0 = "times" then [intOr (r.getD 0 .non)] else []) ((innerOf (.tup (.str w0 :: r))).map (textOf n)) := by
      simp only [textOf]
      rw [if_neg hn, if_neg hc]
    rw [e1] at h
    refine ⟨(· = decide (w0 = "number")), ?_, fun e => ?_, fun e => ?_⟩
    · ((try dsimp only); refine rd_here rfl ?_; (try dsimp only))
      exact rfl
    · have h1 := of_decide_eq_true (Eq.symm e)
      obtain ⟨i, rfl, hlt⟩ := three (by rw [h1]; decide +kernel)
      rw [if_pos h1] at h
      ((try dsimp only); refine rd_here rfl ?_; (try dsimp only))
      rw [ixD_tup, at1, someD_some, strD_int]
      exact ⟨small_log hlt, h⟩
    have h1 := of_decide_eq_false (Eq.symm e)
    rw [if_neg h1] at h
    refine ⟨(· = decide (w0 = "bits")), ?_, fun e => ?_, fun e => ?_⟩
    · ((try dsimp only); refine rd_here rfl ?_; (try dsimp only))
      exact rfl
    · have h2 := of_decide_eq_true (Eq.symm e)
      obtain ⟨i, rfl, hlt⟩ := three (by rw [h2]; decide +kernel)
      rw [if_pos h2] at h
      ((try dsimp only); refine rd_here rfl ?_; (try dsimp only))
      rw [ixD_tup, at1, someD_some, strD_int]
      refine ⟨small_log hlt, ?_⟩
      rw [addD_str]
      have q := intText_len hlt
      unfold intText at q
      refine ⟨by rw [lh]; omega, h⟩
    have h2 := of_decide_eq_false (Eq.symm e)
    rw [if_neg h2] at h
    ((try dsimp only); refine rd_here rfl ?_; (try dsimp only))
    refine con1_C.mpr ⟨hs, ?_⟩
    rw [seqOf_tup]
    refine inner [] w0 _ ?_
    try dsimp only
    refine ⟨(· = false), ?_, (fun e => nomatch e), fun _ => ?_⟩
    · ((try dsimp only); refine rd_here rfl ?_; (try dsimp only))
      exact decide_eq_false hc
    ((try dsimp only); refine rd_here rfl ?_; (try dsimp only))
    ((try dsimp only); refine rd_here rfl ?_; (try dsimp only))
    rw [eqD_str, isB_bl]
    have fin : ∀ ns : List Int, ns.length ≤ 10 → (∀ i ∈ ns, i.natAbs < 10 ^ 10) → R (.str (brackets w0 ns ((innerOf (.tup (.str w0 :: r))).map (textOf n)))) → c_in_brackets.C [.str w0, .tup (ns.map Dat.int), .lst (((innerOf (.tup (.str w0 :: r))).map (textOf n)).map Dat.str)] R fun _ => False := fun ns a1 a2 a3 => conE_use (args := fun a : Str × List Int × List Str => [.str a.1, .tup (a.2.1.map Dat.int), .lst (a.2.2.map Dat.str)]) (w0, ns, (innerOf (.tup (.str w0 :: r))).map (textOf n)) ⟨by show w0.length ≤ 100; omega, a1, a2, by simp; omega, hlen⟩ a3
    by_cases h3 : w0 = "times"
    · obtain ⟨i, rfl, hlt⟩ := three (by rw [h3]; decide +kernel)
      rw [if_pos h3] at h
      rw [if_pos (decide_eq_true h3)]
      ((try dsimp only); refine rd_here rfl ?_; (try dsimp only))
      rw [isI_int, isI_int, slD_tup]
      ((try dsimp only); refine rd_here rfl ?_; (try dsimp only))
      refine fin [i] (by simp) (fun j hj => ?_) h
      have : j = i := by simpa using hj
      omega
    · rw [if_neg h3] at h
      rw [if_neg (by simp [h3])]
      refine ⟨Nat.zero_le _, ?_⟩
      ((try dsimp only); refine rd_here rfl ?_; (try dsimp only))
      exact fin [] (by decide) (fun j hj => by cases hj) h
end
end K01
namespace K01
open PySem PySem.Spec PyProof.Rows L2 DL
/-! ### dicts with text keys -/
abbrev Tab := List (Key × Dat)
def strTab (l : Tab) : Prop := ∃ zs : List Str, l.map (·.1) = zs.map Sum.inr
def keysS (l : Tab) : List Str := (keyStrs (l.map (·.1))).getD []
theorem keyStrs_map : ∀ zs : List Str, keyStrs (zs.map Sum.inr) = some zs
  | [] => rfl
  | z :: zs => by rw [List.map_cons, keyStrs, keyStrs_map zs]; rfl
theorem keysS_eq {l : Tab} (h : strTab l) : l.map (·.1) = (keysS l).map Sum.inr ∧ keyStrs (l.map (·.1)) = some (keysS l) := by
  obtain ⟨zs, e⟩ := h
  have : keysS l = zs := by unfold keysS; rw [e, keyStrs_map]; rfl
  rw [this, e, keyStrs_map]
  exact ⟨rfl, rfl⟩
theorem putP_keys {l : Tab} {k : Key} {d : Dat} : (putP l k d).map (·.1) = if (l.any fun kv => decide (kv.1 = k)) = true then l.map (·.1) else l.map (·.1) ++ [k] := by
  unfold putP
  split
  · rw [List.map_map]
    refine List.map_congr_left fun kv _ => ?_
    simp only [Function.comp]
    split <;> rfl
  · rw [List.map_append]; rfl
theorem strTab.put {l : Tab} {z : Str} {d : Dat} (h : strTab l) : strTab (putP l (.inr z) d) := by
  obtain ⟨zs, e⟩ := h
  unfold strTab
  rw [putP_keys]
  split
  · exact ⟨zs, e⟩
  · exact ⟨zs ++ [z], by rw [e, List.map_append]; rfl⟩
theorem strTab.merge : ∀ {zs : List Str} {ys : List Dat} {l : Tab}, strTab l → strTab (mergeP l ((zs.map Sum.inr).zip ys))
  | [], ys, l, h => h
  | z :: zs, [], l, h => h
  | z :: zs, y :: ys, l, h => by
    show strTab (mergeP (putP l (.inr z) y) ((zs.map Sum.inr).zip ys))
    exact strTab.merge h.put
theorem putP_len {l : Tab} {k : Key} {d : Dat} : (putP l k d).length ≤ l.length + 1 := by
  unfold putP
  split <;> simp
theorem mergeP_len : ∀ {m l : Tab}, (mergeP l m).length ≤ l.length + m.length
  | [], l => by show l.length ≤ _; omega
  | x :: m, l => by
    have a := mergeP_len (m := m) (l := putP l x.1 x.2)
    have b := putP_len (l := l) (k := x.1) (d := x.2)
    show (mergeP (putP l x.1 x.2) m).length ≤ _
    rw [List.length_cons]
    omega
def lookS (l : Tab) (z : Str) : Option Dat := getK (l.map (·.1)) (l.map (·.2)) (.inr z)
theorem getK_mem : ∀ {l : Tab} {k : Key}, k ∈ l.map (·.1) → ∃ d, getK (l.map (·.1)) (l.map (·.2)) k = some d
  | [], k, h => by cases h
  | x :: l, k, h => by
    rw [List.map_cons, List.map_cons, getK]
    by_cases e : x.1 = k
    · exact ⟨_, if_pos e⟩
    · rw [if_neg e]
      rw [List.map_cons] at h
      rcases List.mem_cons.mp h with h | h
      · exact absurd h.symm e
      · exact getK_mem h
/-- what stands under the keys, by their order -/
def InOrder (l : Tab) (out : List Dat) : Prop := ∃ zs : List Str, zs.Perm (keysS l) ∧ sortedS zs = true ∧ out = zs.map fun z => (lookS l z).getD .non
def c_once : Con := ⟨fun ds P _ => ∃ (zs : List Str) (ys : List Dat), ds = [.lst (zs.map Dat.str), .lst ys] ∧ zs.length = ys.length ∧ zs.length < 64 ∧ ∀ out, InOrder (mergeP [] ((zs.map Sum.inr).zip ys)) out → P (.lst out),
  fun _ _ _ _ _ ⟨zs, ys, e, h1, h2, h3⟩ m _ => ⟨zs, ys, e, h1, h2, fun out ho => m _ (h3 out ho)⟩⟩
section
variable {P : Program} {w : World} {K : PySem.W.Frag} {mg : Str → Option Value} {base : Heap} {f f2 : Addr} {fd fd2 : FuncData} {k : Nat}
abbrev s_each_once : Stmt := topS 23
theorem sc_each_once : FnScope ["texts", "things", "table", "text"] ["texts", "things"] (defScope s_each_once) := ⟨rfl, rfl, rfl, by decide +kernel, rfl, by decide +kernel, by decide +kernel⟩
-- calls [] consts []
theorem ok_each_once (B : Bt mg) (F : Fun K "each_once" "each_once" s_each_once f fd) : FnOk P w K mg base CX0 (k + 1) f fd ["texts", "things"] (spD K c_once) := by
  refine fn_pure F sc_each_once (fun ds P X ⟨zs, ys, e, _⟩ => by rw [e]; rfl) fun cdv A outer s H S hS hr => ?_
  have nd := sc_each_once.nd
  refine ⟨_, (db_cons (ds_set 2 (de_dictzip rfl B.dict B.zip (da_cons (de_var 0) (da_cons (de_var 1) da_nil))) nd) (db_one (ds_ret (de_lc 3 (x := "text") rfl nd (di_seq (de_sortedD rfl B.sorted (da_cons (de_var 2) da_nil))) (blkOk_by (own := [("text", 3)]) (N := ["texts", "things", "table", "text"]) (sc := defScope s_each_once) (by decide +kernel)) (fun _ _ _ _ _ => pg_name (i := 3) nd rfl (Or.inl rfl)) (fun _ _ _ _ _ => dts_nil) (fun _ _ _ _ _ => (de_dget (hu_of hr) (de_var 2) (de_var 3))))))), ?_⟩
  rintro ds R X ⟨zs, ys, rfl, hl, h64, h⟩
  have st : strTab (mergeP [] ((zs.map Sum.inr).zip ys)) := strTab.merge ⟨[], rfl⟩
  have hlen : (mergeP [] ((zs.map Sum.inr).zip ys)).length ≤ zs.length := by
    have := mergeP_len (m := (zs.map (Sum.inr (α := Int))).zip ys) (l := [])
    simp at this
    omega
  have big := line_big
  generalize ht : mergeP [] ((zs.map Sum.inr).zip ys) = tab at h st hlen
  obtain ⟨ek, ek2⟩ := keysS_eq st
  have hkl : (keysS tab).length < 64 := by
    have := congrArg List.length ek
    simp at this
    omega
  ((try dsimp only); refine rd_here rfl ?_; (try dsimp only))
  ((try dsimp only); refine rd_here rfl ?_; (try dsimp only))
  have e1 : ∀ Q : Dat → Prop, Q (dicP tab) → dictzipD [Dat.lst (zs.map Dat.str), Dat.lst ys] Q := fun Q q => by
    show someD (strsOf (zs.map Dat.str)) _
    rw [strsOf_map, someD_some, ht]
    exact ⟨hl, q⟩
  refine e1 _ ?_
  ((try dsimp only); refine rd_here rfl ?_; (try dsimp only))
  have e2 : ∀ Q : Dat → Prop, (∀ ys : List Str, ys.Perm (keysS tab) → sortedS ys = true → Q (.lst (ys.map Dat.str))) → sortedD [dicP tab] Q := fun Q q => by
    show someD (keyStrs (tab.map (·.1))) _
    rw [ek2, someD_some]
    exact ⟨hkl, q⟩
  refine e2 _ fun out hp hs => ?_
  rw [seqOf_lst]
  have hol : out.length < 64 := by rw [hp.length_eq]; exact hkl
  refine compF_map (f := fun d => (lookS tab (strOr d)).getD .non) (fun d hd Q hQ => ?_) (by simp; omega) ?_
  · obtain ⟨z, hz, rfl⟩ := List.mem_map.mp hd
    ((try dsimp only); refine rd_here rfl ?_; (try dsimp only))
    ((try dsimp only); refine rd_here rfl ?_; (try dsimp only))
    have hm : (Sum.inr z : Key) ∈ tab.map (·.1) := by rw [ek]; exact List.mem_map.mpr ⟨z, hp.mem_iff.mp hz, rfl⟩
    obtain ⟨v, ev⟩ := getK_mem hm
    show someD (getK (tab.map (·.1)) (tab.map (·.2)) (.inr z)) Q
    rw [ev, someD_some]
    have : (lookS tab (strOr (.str z))).getD .non = v := by show (getK _ _ _).getD _ = v; rw [show strOr (.str z) = z from rfl, ev]; rfl
    rw [this] at hQ
    exact hQ
  · rw [List.nil_append, List.map_map]
    exact h _ ⟨out, hp, hs, rfl⟩
end
end K01
namespace K01
open PySem PySem.Spec PyProof.Rows L2 DL
/-! ### deeper than need be -/
theorem sizeP_mono {g g' : Dat → Option (Str × Nat)} (h : ∀ d x, g d = some x → g' d = some x) : ∀ {ts : List Dat} {ss : List Str} {m : Nat}, sizeP g ts ss = some m → sizeP g' ts ss = some m
  | [], [], m, e => e
  | [], _ :: _, _, e => by cases e
  | t :: ts, [], _, e => by cases e
  | t :: ts, s :: ss, m, e => by
    simp only [sizeP] at e ⊢
    cases e1 : g t with
    | none => rw [e1] at e; cases e
    | some p =>
      obtain ⟨k, q⟩ := p
      rw [e1] at e
      rw [h t _ e1]
      simp only at e ⊢
      by_cases hf : fitsS s k = true
      · rw [if_pos hf] at e ⊢
        cases e2 : sizeP g ts ss with
        | none => rw [e2] at e; cases e
        | some r => rw [e2] at e; rw [sizeP_mono h e2]; exact e
      · rw [if_neg hf] at e; cases e
theorem kindOf_mono : ∀ {n : Nat} {d : Dat} {x : Str × Nat}, kindOf n d = some x → kindOf (n + 1) d = some x
  | 0, _, _, h => by cases h
  | n + 1, d, x, h => by
    unfold kindOf at h ⊢
    cases es : shape d with
    | none => rw [es] at h; cases h
    | some p =>
      obtain ⟨ss, ts, k⟩ := p
      rw [es] at h
      simp only at h ⊢
      cases e2 : sizeP (kindOf n) ts ss with
      | none => rw [e2] at h; cases h
      | some r => rw [e2] at h; rw [sizeP_mono (fun d x => kindOf_mono) e2]; exact h
theorem Good.up {n : Nat} {d : Dat} (h : Good n d) : Good (n + 1) d := by
  obtain ⟨k, m, e, hm⟩ := h
  exact ⟨k, m, kindOf_mono e, hm⟩
theorem textOf_up : ∀ {n : Nat} {d : Dat}, Good n d → textOf (n + 1) d = textOf n d
  | 0, _, h => by obtain ⟨_, _, e, _⟩ := h; cases e
  | n + 1, d, h => by
    have e : (innerOf d).map (textOf (n + 1)) = (innerOf d).map (textOf n) := List.map_congr_left fun t ht => textOf_up (good_inner h t ht)
    cases d with
    | tup r =>
      cases r with
      | nil => rfl
      | cons x r =>
        cases x with
        | str w0 =>
          show (if w0 = "name" then _ else if w0 = "number" then _ else if w0 = "bits" then _ else if w0 = "call" then brackets _ [] ((innerOf _).map (textOf (n + 1))) else brackets w0 _ ((innerOf _).map (textOf (n + 1)))) = _
          rw [e]; rfl
        | _ => rfl
    | _ => rfl
theorem parts_good : ∀ {n : Nat} {d : Dat}, Good n d → ∀ p ∈ partsL n d, Good n p
  | 0, _, h, _, _ => by obtain ⟨_, _, e, _⟩ := h; cases e
  | n + 1, d, h, p, hp => by
    rcases List.mem_cons.mp (show p ∈ d :: (innerOf d).flatMap (partsL n) from hp) with rfl | hp
    · exact h
    · obtain ⟨t, ht, hp⟩ := List.mem_flatMap.mp hp
      exact (parts_good (good_inner h t ht) p hp).up
theorem isTerm_good {d : Dat} (h : isTerm d = true) : Good 6 d := by
  unfold isTerm tsz at h
  cases e : kindOf (cap 6) d with
  | none => rw [e] at h; cases h
  | some p =>
    obtain ⟨k, n⟩ := p
    rw [e] at h
    simp only at h
    split at h
    · rename_i hc
      exact ⟨k, n, e, by have := hc.2; omega⟩
    · cases h
theorem good_isTerm {d : Dat} (h : Good 6 d) : isTerm d = true := by
  obtain ⟨k, m, e, hm⟩ := h
  unfold isTerm tsz
  rw [show cap 6 = 6 from rfl, e]
  simp only
  rw [if_pos ⟨by simp [fitsS], by omega⟩]
  rfl
section
variable {P : Program} {w : World} {K : PySem.W.Frag} {mg : Str → Option Value} {base : Heap} {f f2 : Addr} {fd fd2 : FuncData} {k : Nat}
abbrev s_init : Stmt := inClass (topS 1) 0
theorem sc_init : FnScope ["self", "what"] ["self", "what"] (defScope s_init) := ⟨rfl, rfl, rfl, by decide +kernel, rfl, by decide +kernel, by decide +kernel⟩
theorem ok_init (hm : mg "ValueError" = none) (vV : PySem.W.findCls K (.type "ValueError") (.type "type") "__init__" = some (.val (.builtin "ValueError.__init__"))) (F : Fun K "__init__" "BadValue.__init__" s_init f fd) : FnOk P w K mg base CX0 (k + 1) f fd ["self", "what"] (spInit K "what") := by
  refine F.ok sc_init (fun vs H Q E ⟨a, C, y, e, _⟩ => by rw [e]; rfl) fun cdv A outer s H vs Q E hr h => ?_
  obtain ⟨a, C, y, rfl, T, no, ea, q⟩ := h
  refine ⟨_, pss_cons (ps_expr (pe_veinit (by rfl) hm vV (pa_cons (pe_var (i := 0) rfl (Or.inl rfl)) (pa_cons (pe_var (i := 1) rfl (Or.inl rfl)) pa_nil)))) (pss_one (ps_ost (pe_var (i := 0) rfl (Or.inl rfl)) (pe_var (i := 1) rfl (Or.inl rfl)))), ?_⟩
  refine ⟨.ref a, rfl, y, rfl, a, C, [y], rfl, show 1 ≤ 1000 by decide, T, ea, ?_⟩
  exact ⟨y, rfl, .ref a, rfl, a, C, rfl, T, no, .inl ⟨ea, fun dx n ne => q dx n ne⟩⟩
/-! ### terms asked -/
def badX (CB : Addr) (w : Str) : Exc := (CB, [("what", .str w)])
/-- told of a term, refused else -/
def conX (CB : Addr) (Q : Dat → (Dat → Prop) → Prop) (hm : ∀ d (P P' : Dat → Prop), Q d P → (∀ x, P x → P' x) → Q d P') : Con := ⟨fun ds P X => ∃ d, ds = [d] ∧ Fine d ∧ (isTerm d = true → Q d P) ∧ (isTerm d = false → X (badX CB "term")),
  fun _ P P' _ _ ⟨d, e, h, h1, h2⟩ m mx => ⟨d, e, h, fun z => hm d P P' (h1 z) m, fun z => mx _ (h2 z)⟩⟩
def c_check (CB : Addr) : Con := conX CB (fun _ P => P .non) fun _ _ _ h m => m _ h
def c_sort_of (CB : Addr) : Con := conX CB (fun d P => P (.str (sortIs d))) fun _ _ _ h m => m _ h
def c_inner_of (CB : Addr) : Con := conX CB (fun d P => P (.lst (innerOf d))) fun _ _ _ h m => m _ h
def tabOf (d : Dat) : Tab := mergeP [] ((((partsL 6 d).map (textOf 6)).map Sum.inr).zip (partsL 6 d))
def c_parts_of (CB : Addr) : Con := conX CB (fun d P => ∀ out, InOrder (tabOf d) out → P (.lst out)) fun _ _ _ h m out ho => m _ (h out ho)
abbrev s_check_term : Stmt := topS 26
theorem sc_check_term : FnScope ["thing"] ["thing"] (defScope s_check_term) := ⟨rfl, rfl, rfl, by decide +kernel, rfl, by decide +kernel, by decide +kernel⟩
-- calls ['is_term'] consts []
theorem ok_check {CB : Addr} {j : Nat} (hj : j + 1 ≤ k) (F_is_term : Callee P w K mg base "is_term" k ["thing"] c_is_term) (X_BadValue : OwnX P w K mg base "BadValue" CB "what" j) (F : Fun K "check_term" "check_term" s_check_term f fd) : FnOk P w K mg base (L2.CX P w) (k + 1) f fd ["thing"] (spD K (c_check CB)) := by
  refine fn_pureX F sc_check_term (fun ds P X ⟨d, e, _⟩ => by rw [e]; rfl) fun cdv A outer s H S hS E EX el hr => ?_
  have nd := sc_check_term.nd
  refine ⟨_, (db_one (ds_ifc (dt_not (dt_val (de_fn F_is_term hr (da_cons (de_var 0) da_nil) (by omega)))) (db_one (ds_raise X_BadValue hr de_str (by omega))) db_nil)), ?_⟩
  rintro ds R ⟨d, rfl, hf, h1, h2⟩
  refine ⟨(· = !isTerm d), ?_, fun e => ?_, fun e => ?_⟩
  · ((try dsimp only); refine rd_here rfl ?_; (try dsimp only))
    exact con1_C.mpr ⟨hf, rfl⟩
  · exact h2 (by simpa using e)
  · exact h1 (by simpa using e)
abbrev s_sort_of : Stmt := topS 27
theorem sc_sort_of : FnScope ["term"] ["term"] (defScope s_sort_of) := ⟨rfl, rfl, rfl, by decide +kernel, rfl, by decide +kernel, by decide +kernel⟩
-- calls ['check_term', 'term_sort'] consts []
theorem ok_sort_of {CB : Addr} (F_check_term : CalleeX P w K mg base "check_term" k ["thing"] (c_check CB)) (F_term_sort : Callee P w K mg base "term_sort" k ["term"] c_term_sort) (F : Fun K "sort_of" "sort_of" s_sort_of f fd) : FnOk P w K mg base (L2.CX P w) (k + 1) f fd ["term"] (spD K (c_sort_of CB)) := by
  refine fn_pureX F sc_sort_of (fun ds P X ⟨d, e, _⟩ => by rw [e]; rfl) fun cdv A outer s H S hS E EX el hr => ?_
  have nd := sc_sort_of.nd
  refine ⟨_, (db_cons (ds_expr (de_fnX F_check_term hr (da_cons (de_var 0) da_nil) (by omega))) (db_one (ds_ret (de_fn F_term_sort hr (da_cons (de_var 0) da_nil) (by omega))))), ?_⟩
  rintro ds R ⟨d, rfl, hf, h1, h2⟩
  ((try dsimp only); refine rd_here rfl ?_; (try dsimp only))
  refine ⟨d, rfl, hf, fun e => ?_, h2⟩
  ((try dsimp only); refine rd_here rfl ?_; (try dsimp only))
  exact con1_C.mpr ⟨good_shape (isTerm_good e), h1 e⟩
abbrev s_inner_of : Stmt := topS 29
theorem sc_inner_of : FnScope ["term"] ["term"] (defScope s_inner_of) := ⟨rfl, rfl, rfl, by decide +kernel, rfl, by decide +kernel, by decide +kernel⟩
-- calls ['check_term', 'inner_terms'] consts []
theorem ok_inner_of {CB : Addr} (B : Bt mg) (F_check_term : CalleeX P w K mg base "check_term" k ["thing"] (c_check CB)) (F_inner_terms : Callee P w K mg base "inner_terms" k ["term"] c_inner_terms) (F : Fun K "inner_of" "inner_of" s_inner_of f fd) : FnOk P w K mg base (L2.CX P w) (k + 1) f fd ["term"] (spD K (c_inner_of CB)) := by
  refine fn_pureX F sc_inner_of (fun ds P X ⟨d, e, _⟩ => by rw [e]; rfl) fun cdv A outer s H S hS E EX el hr => ?_
  have nd := sc_inner_of.nd
  refine ⟨_, (db_cons (ds_expr (de_fnX F_check_term hr (da_cons (de_var 0) da_nil) (by omega))) (db_one (ds_ret (de_list B.list (da_cons (de_fn F_inner_terms hr (da_cons (de_var 0) da_nil) (by omega)) da_nil))))), ?_⟩
  rintro ds R ⟨d, rfl, hf, h1, h2⟩
  ((try dsimp only); refine rd_here rfl ?_; (try dsimp only))
  refine ⟨d, rfl, hf, fun e => ?_, h2⟩
  ((try dsimp only); refine rd_here rfl ?_; (try dsimp only))
  refine con1_C.mpr ⟨good_shape (isTerm_good e), ?_⟩
  exact h1 e
abbrev s_parts_of : Stmt := topS 28
theorem sc_parts_of : FnScope ["term", "parts", "part"] ["term"] (defScope s_parts_of) := ⟨rfl, rfl, rfl, by decide +kernel, rfl, by decide +kernel, by decide +kernel⟩
-- calls ['check_term', 'parts_in_order', 'each_once', 'term_text'] consts []
theorem ok_parts_of {CB : Addr} (B : Bt mg) (F_check_term : CalleeX P w K mg base "check_term" k ["thing"] (c_check CB)) (F_parts_in_order : Callee P w K mg base "parts_in_order" k ["term"] (c_parts 6)) (F_term_text : Callee P w K mg base "term_text" k ["term"] (c_text 6)) (F_each_once : Callee P w K mg base "each_once" k ["texts", "things"] c_once) (F : Fun K "parts_of" "parts_of" s_parts_of f fd) : FnOk P w K mg base (L2.CX P w) (k + 1) f fd ["term"] (spD K (c_parts_of CB)) := by
  refine fn_pureX F sc_parts_of (fun ds P X ⟨d, e, _⟩ => by rw [e]; rfl) fun cdv A outer s H S hS E EX el hr => ?_
  have nd := sc_parts_of.nd
  refine ⟨_, (db_cons (ds_expr (de_fnX F_check_term hr (da_cons (de_var 0) da_nil) (by omega))) (db_cons (ds_set 1 (de_fn F_parts_in_order hr (da_cons (de_var 0) da_nil) (by omega)) nd) (db_one (ds_ret (de_fn F_each_once hr (da_cons (de_lc 2 (x := "part") rfl nd (di_seq (de_var 1)) (blkOk_by (own := [("part", 2)]) (N := ["term", "parts", "part"]) (sc := defScope s_parts_of) (by decide +kernel)) (fun _ _ _ _ _ => pg_name (i := 2) nd rfl (Or.inl rfl)) (fun _ _ _ _ _ => dts_nil) (fun _ _ _ _ _ => (de_fn F_term_text hr (da_cons (de_var 2) da_nil) (by omega)))) (da_cons (de_var 1) da_nil)) (by omega)))))), ?_⟩
  rintro ds R ⟨d, rfl, hf, h1, h2⟩
  ((try dsimp only); refine rd_here rfl ?_; (try dsimp only))
  refine ⟨d, rfl, hf, fun e => ?_, h2⟩
  have hg := isTerm_good e
  have hp := parts_good hg
  obtain ⟨kk, m, ek, hm⟩ := id hg
  have hl := partsL_len ek
  have big := line_big
  ((try dsimp only); refine rd_here rfl ?_; (try dsimp only))
  refine con1_C.mpr ⟨hg, ?_⟩
  ((try dsimp only); refine rd_here rfl ?_; (try dsimp only))
  rw [seqOf_lst]
  refine compF_map (f := fun t => .str (textOf 6 t)) (fun t ht Q hQ => ?_) (by simp; omega) ?_
  · ((try dsimp only); refine rd_here rfl ?_; (try dsimp only))
    exact con1_C.mpr ⟨hp t ht, hQ⟩
  · rw [List.nil_append]
    ((try dsimp only); refine rd_here rfl ?_; (try dsimp only))
    refine ⟨(partsL 6 d).map (textOf 6), partsL 6 d, by rw [List.map_map]; rfl, by simp, by simp; omega, fun out ho => h1 e out ho⟩
end
end K01
namespace K01
open PySem PySem.Spec PyProof.Rows L2 DL
section
variable {P : Program} {w : World} {K : PySem.W.Frag} {mg : Str → Option Value} {base : Heap} {f f2 : Addr} {fd fd2 : FuncData} {k : Nat}
/-! ### text_of, asked of a term -/
abbrev s_text_of : Stmt := topS 43
theorem sc_text_of : FnScope ["thing"] ["thing"] (defScope s_text_of) := ⟨rfl, rfl, rfl, by decide +kernel, rfl, by decide +kernel, by decide +kernel⟩
-- calls ['is_term', 'term_text'] consts []
def c_text_of : Con := con1 (fun d => Fine d ∧ isTerm d = true) fun d => .str (textOf 6 d)
theorem ok_text_of (F_is_term : Callee P w K mg base "is_term" k ["thing"] c_is_term) (F_term_text : Callee P w K mg base "term_text" k ["term"] (c_text 6)) (F : Fun K "text_of" "text_of" s_text_of f fd) : FnOk P w K mg base CX0 (k + 1) f fd ["thing"] (spD K c_text_of) := by
  refine fn_pure F sc_text_of (fun ds P X ⟨d, e, _⟩ => by rw [e]; rfl) fun cdv A outer s H S hS hr => ?_
  have nd := sc_text_of.nd
  refine ⟨_, (db_cons (ds_ifc (dt_val (de_fn F_is_term hr (da_cons (de_var 0) da_nil) (by omega))) (db_one (ds_ret (de_fn F_term_text hr (da_cons (de_var 0) da_nil) (by omega)))) db_nil) (db_cons ds_never (db_one ds_never))), ?_⟩
  rintro ds R X ⟨d, rfl, ⟨hf, ht⟩, h⟩
  refine ⟨(· = true), ?_, fun _ => ?_, (fun e => nomatch e)⟩
  · ((try dsimp only); refine rd_here rfl ?_; (try dsimp only))
    exact con1_C.mpr ⟨hf, ht⟩
  · ((try dsimp only); refine rd_here rfl ?_; (try dsimp only))
    exact con1_C.mpr ⟨isTerm_good ht, h⟩
/-! ### what the asker's own looks tell -/
abbrev s__law_kind : Stmt := topS 50
theorem sc__law_kind : FnScope ["k"] ["k"] (defScope s__law_kind) := ⟨rfl, rfl, rfl, by decide +kernel, rfl, by decide +kernel, by decide +kernel⟩
-- calls [] consts []
def kinds5 : List Str := ["thing", "num", "tree", "set", "bits"]
def c_law_kind : Con := conE (α := Nat) (fun a => [.int (a : Nat)]) (fun _ => True) fun a => .str (kinds5.getD (a % 5) "thing")
theorem ok_law_kind (F : Fun K "_law_kind" "_law_kind" s__law_kind f fd) : FnOk P w K mg base CX0 (k + 1) f fd ["k"] (spD K c_law_kind) := by
  refine fn_pure F sc__law_kind (fun ds P X ⟨d, e, _⟩ => by rw [e]; rfl) fun cdv A outer s H S hS hr => ?_
  have nd := sc__law_kind.nd
  refine ⟨_, (db_one (ds_ret (de_ix (de_lst (da_cons de_str (da_cons de_str (da_cons de_str (da_cons de_str (da_cons de_str da_nil)))))) (de_mod (de_var 0) de_int)))), ?_⟩
  rintro ds R X ⟨a, rfl, _, h⟩
  refine ⟨show 5 ≤ sizeLine by decide, ?_⟩
  ((try dsimp only); refine rd_here rfl ?_; (try dsimp only))
  refine ⟨show (0 : Int) < 5 by decide, ?_⟩
  show ixD _ (.int ((a : Int) % 5)) R
  have h5 : a % 5 < 5 := Nat.mod_lt _ (by decide)
  have e : ((a : Int) % 5) = ((a % 5 : Nat) : Int) := by omega
  rw [e]
  replace h : R (.str (kinds5.getD (a % 5) "thing")) := h
  match hm : a % 5, h5 with
  | 0, _ => rw [hm] at h; exact h
  | 1, _ => rw [hm] at h; exact h
  | 2, _ => rw [hm] at h; exact h
  | 3, _ => rw [hm] at h; exact h
  | 4, _ => rw [hm] at h; exact h
abbrev s__law_inner : Stmt := topS 57
theorem sc__law_inner : FnScope ["it"] ["it"] (defScope s__law_inner) := ⟨rfl, rfl, rfl, by decide +kernel, rfl, by decide +kernel, by decide +kernel⟩
-- calls [] consts []
def c_law_inner : Con := con1 (fun d => (shape d).isSome = true) fun d => .lst (innerOf d)
theorem ok_law_inner (B : Bt mg) (F : Fun K "_law_inner" "_law_inner" s__law_inner f fd) : FnOk P w K mg base CX0 (k + 1) f fd ["it"] (spD K c_law_inner) := by
  refine fn_pure F sc__law_inner (fun ds P X ⟨d, e, _⟩ => by rw [e]; rfl) fun cdv A outer s H S hS hr => ?_
  have nd := sc__law_inner.nd
  refine ⟨_, (db_cons (ds_ifc (dt_in (de_ix (de_var 0) de_int) (de_lst (da_cons de_str (da_cons de_str (da_cons de_str da_nil))))) (db_one (ds_ret (de_lst da_nil))) db_nil) (db_cons (ds_ifc (dt_eq hr.units (de_ix (de_var 0) de_int) de_str) (db_one (ds_ret (de_list B.list (da_cons (de_ix (de_var 0) de_int) da_nil)))) db_nil) (db_one (ds_ret (de_if (dt_eq hr.units (de_ix (de_var 0) de_int) de_str) (de_list B.list (da_cons (de_sl (de_var 0) (do_some de_int) do_none) da_nil)) (de_list B.list (da_cons (de_sl (de_var 0) (do_some de_int) do_none) da_nil))))))), ?_⟩
  rintro ds R X ⟨d, rfl, hs, h⟩
  replace h : R (.lst (innerOf d)) := h
  have big := line_big
  rcases shape_cases hs with ⟨nm, c, rfl, hn, hc, e⟩ | ⟨nm, ts, c, rfl, hn, hc, h1, h2, e⟩ | ⟨w0, r, k0, b, ss, ts, rfl, hn, hc, hr, hb, e⟩
  · have ei : innerOf (.tup [.str "name", nm, .str c]) = [] := by unfold innerOf; rw [e]
    rw [ei] at h
    refine ⟨(· = true), ?_, fun _ => ?_, (fun e => nomatch e)⟩
    · ((try dsimp only); refine rd_here rfl ?_; (try dsimp only))
      rw [ixD_tup, at0, someD_some]
      refine ⟨show 3 ≤ sizeLine by decide, ?_⟩
      exact (by decide +kernel : decide ((("name" : Str)) ∈ (["name", "number", "bits"] : List Str)) = true)
    · exact ⟨Nat.zero_le _, h⟩
  · have ei : innerOf (.tup [.str "call", nm, .tup ts, .str c]) = ts := by unfold innerOf; rw [e]
    rw [ei] at h
    refine ⟨(· = false), ?_, (fun e => nomatch e), fun _ => ?_⟩
    · ((try dsimp only); refine rd_here rfl ?_; (try dsimp only))
      rw [ixD_tup, at0, someD_some]
      refine ⟨show 3 ≤ sizeLine by decide, ?_⟩
      exact (by decide +kernel : decide ((("call" : Str)) ∈ (["name", "number", "bits"] : List Str)) = false)
    refine ⟨(· = true), ?_, fun _ => ?_, (fun e => nomatch e)⟩
    · ((try dsimp only); refine rd_here rfl ?_; (try dsimp only))
      rw [ixD_tup, at0, someD_some]
      exact decide_eq_true rfl
    · ((try dsimp only); refine rd_here rfl ?_; (try dsimp only))
      rw [ixD_tup, at2, someD_some]
      exact h
  · have ei : innerOf (.tup (.str w0 :: r)) = ts := by unfold innerOf; rw [e]
    rw [ei] at h
    obtain ⟨hw, _, hs2, _, hb1, hb2⟩ := row_facts hr
    refine ⟨(· = decide (w0 ∈ (["name", "number", "bits"] : List Str))), ?_, fun e => ?_, fun e => ?_⟩
    · ((try dsimp only); refine rd_here rfl ?_; (try dsimp only))
      rw [ixD_tup, at0, someD_some]
      refine ⟨show 3 ≤ sizeLine by decide, ?_⟩
      exact rfl
    · refine ⟨Nat.zero_le _, ?_⟩
      have hw0 := of_decide_eq_true (Eq.symm e)
      have : ts = [] := by
        cases b with
        | none =>
          refine absurd ?_ (hb1 rfl)
          simp only [List.mem_cons, List.not_mem_nil, or_false] at hw0 ⊢
          rcases hw0 with z | z | z
          · exact absurd z hn
          · exact .inl z
          · exact .inr (.inl z)
        | some p =>
          obtain ⟨j, e2, hl, hlo, hhi⟩ := behind_some hb
          have hb3 := hb2 _ _ rfl
          rcases hb3.2.2.2 with z | z
          · rw [z] at hw0; exact absurd hw0 (by decide +kernel)
          · rw [z] at hl; exact List.length_eq_zero_iff.mp hl
      rw [this] at h
      exact h
    · refine ⟨(· = false), ?_, (fun e => nomatch e), fun _ => ?_⟩
      · ((try dsimp only); refine rd_here rfl ?_; (try dsimp only))
        rw [ixD_tup, at0, someD_some]
        exact decide_eq_false hc
      ((try dsimp only); refine rd_here rfl ?_; (try dsimp only))
      rw [ixD_tup, at0, someD_some, eqD_str, isB_bl]
      have hnn := of_decide_eq_false (Eq.symm e)
      cases b with
      | none =>
        obtain ⟨rfl, hl⟩ := behind_none hb
        rw [if_neg (by
          have := hb1 rfl
          simp only [List.mem_cons, List.not_mem_nil, or_false, not_or] at this
          simp [this.2.2])]
        ((try dsimp only); refine rd_here rfl ?_; (try dsimp only))
        rw [isI_int, slD_tup, cut1']
        exact h
      | some p =>
        obtain ⟨j, e2, hl, hlo, hhi⟩ := behind_some hb
        have hb3 := hb2 _ _ rfl
        have ht : w0 = "times" := by
          have q := hb3.2.2.1
          simp only [List.mem_cons, List.not_mem_nil, or_false, not_or] at q hnn
          rcases q with z | z | z
          · exact absurd z hnn.2.1
          · exact absurd z hnn.2.2
          · exact z
        rw [if_pos (decide_eq_true ht)]
        ((try dsimp only); refine rd_here rfl ?_; (try dsimp only))
        subst e2
        rw [isI_int, slD_tup, cut2']
        exact h
end
end K01
namespace K01
open PySem PySem.Spec PyProof.Rows L2 DL
section
variable {P : Program} {w : World} {K : PySem.W.Frag} {mg : Str → Option Value} {base : Heap} {f f2 : Addr} {fd fd2 : FuncData} {k : Nat}
abbrev s__law_text : Stmt := topS 56
theorem sc__law_text : FnScope ["it", "word", "part"] ["it"] (defScope s__law_text) := ⟨rfl, rfl, rfl, by decide +kernel, rfl, by decide +kernel, by decide +kernel⟩
-- calls ['_law_text'] consts []
theorem ok_law_text {n : Nat} (B : Bt mg) (F__law_text : Callee P w K mg base "_law_text" k ["it"] (c_text n)) (F : Fun K "_law_text" "_law_text" s__law_text f fd) : FnOk P w K mg base CX0 (k + 1) f fd ["it"] (spD K (c_text (n + 1))) := by
  refine fn_pure F sc__law_text (fun ds P X ⟨d, e, _⟩ => by rw [e]; rfl) fun cdv A outer s H S hS hr => ?_
  have nd := sc__law_text.nd
  refine ⟨_, (db_cons (ds_set 1 (de_ix (de_var 0) de_int) nd) (db_cons (ds_ifc (dt_eq hr.units (de_var 1) de_str) (db_one (ds_ret (de_strI B.str (da_cons (de_ix (de_var 0) de_int) da_nil)))) db_nil) (db_cons (ds_ifc (dt_eq hr.units (de_var 1) de_str) (db_one (ds_ret (de_add de_str (de_strI B.str (da_cons (de_ix (de_var 0) de_int) da_nil))))) db_nil) (db_cons (ds_ifc (dt_eq hr.units (de_var 1) de_str) (db_one (ds_ret (de_add (de_add (de_ix (de_var 0) de_int) de_str) (de_ix (de_var 0) de_int)))) db_nil) (db_cons (ds_ifc (dt_eq hr.units (de_var 1) de_str) (db_one (ds_ret (de_add (de_add (de_add (de_add (de_add (de_ix (de_var 0) de_int) de_str) (de_ix (de_var 0) de_int)) de_str) (de_join de_str (de_lc 2 (x := "part") rfl nd (di_seq (de_ix (de_var 0) de_int)) (blkOk_by (own := [("part", 2)]) (N := ["it", "word", "part"]) (sc := defScope s__law_text) (by decide +kernel)) (fun _ _ _ _ _ => pg_name (i := 2) nd rfl (Or.inl rfl)) (fun _ _ _ _ _ => dts_nil) (fun _ _ _ _ _ => (de_fn F__law_text hr (da_cons (de_var 2) da_nil) (by omega)))))) de_str))) db_nil) (db_cons (ds_ifc (dt_eq hr.units (de_var 1) de_str) (db_one (ds_ret (de_add (de_add (de_add (de_add de_str (de_strI B.str (da_cons (de_ix (de_var 0) de_int) da_nil))) de_str) (de_fn F__law_text hr (da_cons (de_ix (de_var 0) de_int) da_nil) (by omega))) de_str))) db_nil) (db_one (ds_ret (de_add (de_add (de_add (de_var 1) de_str) (de_join de_str (de_lc 2 (x := "part") rfl nd (di_seq (de_sl (de_var 0) (do_some de_int) do_none)) (blkOk_by (own := [("part", 2)]) (N := ["it", "word", "part"]) (sc := defScope s__law_text) (by decide +kernel)) (fun _ _ _ _ _ => pg_name (i := 2) nd rfl (Or.inl rfl)) (fun _ _ _ _ _ => dts_nil) (fun _ _ _ _ _ => (de_fn F__law_text hr (da_cons (de_var 2) da_nil) (by omega)))))) de_str))))))))), ?_⟩
  rintro ds R X ⟨d, rfl, hg, h⟩
  replace h : R (.str (textOf (n + 1) d)) := h
  have hs := good_shape hg
  have big : 16777216 = sizeLine := rfl
  have l0 : (":" : Str).length = 1 := by decide +kernel
  have lh : ("#" : Str).length = 1 := by decide +kernel
  have lo : ("(" : Str).length = 1 := by decide +kernel
  have lc : (")" : Str).length = 1 := by decide +kernel
  have lk : ("," : Str).length = 1 := by decide +kernel
  have lt : ("times(" : Str).length = 6 := by decide +kernel
  have hin := inner_len hs
  have hgi : ∀ t ∈ innerOf d, Good n t := good_inner hg
  have hlen : ∀ t ∈ (innerOf d).map (textOf n), t.length ≤ 10000 := fun t ht => by
    obtain ⟨x, hx, rfl⟩ := List.mem_map.mp ht
    obtain ⟨k', m', e', hm'⟩ := hgi x hx
    have := textOf_len e'
    omega
  have hsum : ((((innerOf d).map (textOf n)).map (·.length)).sum) ≤ 30000 := by
    have := sum_le (fun t : Str => t.length) 10000 hlen
    have h2 : ((innerOf d).map (textOf n)).length ≤ 3 := by simpa using hin
    omega
  have hjl : (Txt.join "," ((innerOf d).map (textOf n))).length ≤ 30002 := by
    have e5 : (Txt.join "," ((innerOf d).map (textOf n))).length = (((innerOf d).map (textOf n)).map (·.length)).sum + (((innerOf d).map (textOf n)).length - 1) * (("," : Str).length) := size_glued "," _
    have h2 : ((innerOf d).map (textOf n)).length ≤ 3 := by simpa using hin
    rw [lk] at e5
    omega
  have join : ∀ Q : Dat → Prop, Q (.str (Txt.join "," ((innerOf d).map (textOf n)))) → joinD "," (.lst (((innerOf d).map (textOf n)).map Dat.str)) Q := fun Q q => by
    show someD (strsOf (((innerOf d).map (textOf n)).map Dat.str)) _
    rw [strsOf_map, someD_some]
    refine ⟨?_, q⟩
    have h2 : ((innerOf d).map (textOf n)).length ≤ 3 := by simpa using hin
    rw [lk]
    omega
  -- the inner texts
  have inner : ∀ (σ : List DL.Slot) (P : List Dat → Prop), σ.length = 3 → P (((innerOf d).map (textOf n)).map Dat.str) → compF (gNm 2) (fun _ P => P true) (fun ρ P => rd ρ 2 fun x => (c_text n).C [x] P fun _ => False) σ (innerOf d) [] P := fun σ P hσ hP => by
    refine compF_map (f := fun t => .str (textOf n t)) (fun t ht Q hQ => ?_) (by simp; omega) ?_
    · match σ, hσ with
      | [a, b, c], _ =>
        ((try dsimp only); refine rd_here rfl ?_; (try dsimp only))
        exact con1_C.mpr ⟨hgi t ht, hQ⟩
    · rw [List.nil_append]
      rw [List.map_map] at hP
      exact hP
  ((try dsimp only); refine rd_here rfl ?_; (try dsimp only))
  rcases shape_cases hs with ⟨nm, c, rfl, hn, hc, e⟩ | ⟨nm, ts, c, rfl, hn, hc, h1, h2, e⟩ | ⟨w0, r, k0, b, ss, ts, rfl, hn, hc, hr, hb, e⟩
  · obtain ⟨z, rfl, hz⟩ := name_len hn
    have hc5 := sort_len hc
    have e1 : textOf (n + 1) (.tup [.str "name", .str z, .str c]) = z ++ ":" ++ c := by
      unfold textOf
      exact if_pos rfl
    rw [e1] at h
    rw [ixD_tup, at0, someD_some]
    try dsimp only
    refine ⟨(· = false), ?_, (fun e => nomatch e), fun _ => ?_⟩
    · ((try dsimp only); refine rd_here rfl ?_; (try dsimp only))
      exact decide_eq_false (by decide +kernel)
    refine ⟨(· = false), ?_, (fun e => nomatch e), fun _ => ?_⟩
    · ((try dsimp only); refine rd_here rfl ?_; (try dsimp only))
      exact decide_eq_false (by decide +kernel)
    refine ⟨(· = true), ?_, fun _ => ?_, (fun e => nomatch e)⟩
    · ((try dsimp only); refine rd_here rfl ?_; (try dsimp only))
      exact decide_eq_true rfl
    ((try dsimp only); refine rd_here rfl ?_; (try dsimp only))
    rw [ixD_tup, at1, someD_some, addD_str]
    refine ⟨by omega, ?_⟩
    ((try dsimp only); refine rd_here rfl ?_; (try dsimp only))
    rw [ixD_tup, at2, someD_some, addD_str]
    exact ⟨by rw [PySem.Str.length_append]; omega, h⟩
  · obtain ⟨z, rfl, hz⟩ := name_len hn
    have hc5 := sort_len hc
    have ei : innerOf (.tup [.str "call", .str z, .tup ts, .str c]) = ts := by unfold innerOf; rw [e]
    have e1 : textOf (n + 1) (.tup [.str "call", .str z, .tup ts, .str c]) = z ++ ":" ++ c ++ "(" ++ Txt.join "," (ts.map (textOf n)) ++ ")" := by
      simp only [textOf]
      rw [if_neg (by decide +kernel), if_neg (by decide +kernel), if_neg (by decide +kernel), if_pos (by decide +kernel), ei]; rfl
    rw [e1] at h
    rw [ei] at join inner hjl
    rw [ixD_tup, at0, someD_some]
    try dsimp only
    refine ⟨(· = false), ?_, (fun e => nomatch e), fun _ => ?_⟩
    · ((try dsimp only); refine rd_here rfl ?_; (try dsimp only))
      exact decide_eq_false (by decide +kernel)
    refine ⟨(· = false), ?_, (fun e => nomatch e), fun _ => ?_⟩
    · ((try dsimp only); refine rd_here rfl ?_; (try dsimp only))
      exact decide_eq_false (by decide +kernel)
    refine ⟨(· = false), ?_, (fun e => nomatch e), fun _ => ?_⟩
    · ((try dsimp only); refine rd_here rfl ?_; (try dsimp only))
      exact decide_eq_false (by decide +kernel)
    refine ⟨(· = true), ?_, fun _ => ?_, (fun e => nomatch e)⟩
    · ((try dsimp only); refine rd_here rfl ?_; (try dsimp only))
      exact decide_eq_true rfl
    ((try dsimp only); refine rd_here rfl ?_; (try dsimp only))
    rw [ixD_tup, at1, someD_some, addD_str]
    refine ⟨by omega, ?_⟩
    ((try dsimp only); refine rd_here rfl ?_; (try dsimp only))
    rw [ixD_tup, at3, someD_some, addD_str]
    refine ⟨by rw [PySem.Str.length_append]; omega, ?_⟩
    rw [addD_str]
    refine ⟨by rw [PySem.Str.length_append, PySem.Str.length_append]; omega, ?_⟩
    rw [isS_str]
    ((try dsimp only); refine rd_here rfl ?_; (try dsimp only))
    rw [ixD_tup, at2, someD_some, seqOf_tup]
    refine inner _ _ rfl (join _ ?_)
    rw [addD_str]
    refine ⟨by rw [PySem.Str.length_append, PySem.Str.length_append, PySem.Str.length_append]; omega, ?_⟩
    rw [addD_str]
    exact ⟨by rw [PySem.Str.length_append, PySem.Str.length_append, PySem.Str.length_append, PySem.Str.length_append]; omega, h⟩
  · obtain ⟨hw, _, hs2, _, hb1, hb2⟩ := row_facts hr
    have ei : innerOf (.tup (.str w0 :: r)) = ts := by unfold innerOf; rw [e]
    rw [ei] at join inner hjl hin hgi hlen
    have three : w0 ∈ (["number", "bits", "times"] : List Str) → ∃ i, r = .int i :: ts ∧ i.natAbs < 10 ^ 10 := fun hw0 => by
      cases b with
      | none => exact absurd hw0 (hb1 rfl)
      | some p =>
        obtain ⟨j, e2, _, hlo, hhi⟩ := behind_some hb
        have hb3 := hb2 _ _ rfl
        exact ⟨j, e2, by omega⟩
    have e1 : textOf (n + 1) (.tup (.str w0 :: r)) = if w0 = "number" then intText (intOr (r.getD 0 .non)) else if w0 = "bits" then "#" ++ intText (intOr (r.getD 0 .non)) else brackets w0 (if w0 = "times" then [intOr (r.getD 0 .non)] else []) (ts.map (textOf n)) := by
      simp only [textOf]
      rw [if_neg hn, if_neg hc, ei]
    rw [e1] at h
    rw [ixD_tup, at0, someD_some]
    try dsimp only
    refine ⟨(· = decide (w0 = "number")), ?_, fun e => ?_, fun e => ?_⟩
    · ((try dsimp only); refine rd_here rfl ?_; (try dsimp only))
      exact rfl
    · have h1 := of_decide_eq_true (Eq.symm e)
      obtain ⟨i, rfl, hlt⟩ := three (by rw [h1]; decide +kernel)
      rw [if_pos h1] at h
      ((try dsimp only); refine rd_here rfl ?_; (try dsimp only))
      rw [ixD_tup, at1, someD_some, strD_int]
      exact ⟨small_log hlt, h⟩
    have h1 := of_decide_eq_false (Eq.symm e)
    rw [if_neg h1] at h
    refine ⟨(· = decide (w0 = "bits")), ?_, fun e => ?_, fun e => ?_⟩
    · ((try dsimp only); refine rd_here rfl ?_; (try dsimp only))
      exact rfl
    · have h2 := of_decide_eq_true (Eq.symm e)
      obtain ⟨i, rfl, hlt⟩ := three (by rw [h2]; decide +kernel)
      rw [if_pos h2] at h
      ((try dsimp only); refine rd_here rfl ?_; (try dsimp only))
      rw [ixD_tup, at1, someD_some, strD_int]
      refine ⟨small_log hlt, ?_⟩
      rw [addD_str]
      have q := intText_len hlt
      unfold intText at q
      exact ⟨by omega, h⟩
    have h2 := of_decide_eq_false (Eq.symm e)
    rw [if_neg h2] at h
    refine ⟨(· = false), ?_, (fun e => nomatch e), fun _ => ?_⟩
    · ((try dsimp only); refine rd_here rfl ?_; (try dsimp only))
      exact decide_eq_false hn
    refine ⟨(· = false), ?_, (fun e => nomatch e), fun _ => ?_⟩
    · ((try dsimp only); refine rd_here rfl ?_; (try dsimp only))
      exact decide_eq_false hc
    refine ⟨(· = decide (w0 = "times")), ?_, fun e => ?_, fun e => ?_⟩
    · ((try dsimp only); refine rd_here rfl ?_; (try dsimp only))
      exact rfl
    · have h3 := of_decide_eq_true (Eq.symm e)
      subst h3
      obtain ⟨i, rfl, hlt⟩ := three (by decide +kernel)
      have hss : ss.length = 1 := by
        have q : row "times" = some ((("num" : Str)), some (-1000000, 1000000), [("num" : Str)]) := by decide +kernel
        rw [q] at hr
        cases hr
        rfl
      obtain ⟨t, rfl⟩ : ∃ t, ts = [t] := by
        cases b with
        | none => exact absurd (by decide +kernel) (hb1 rfl)
        | some p =>
          obtain ⟨j, _, hl, _⟩ := behind_some hb
          rw [hss] at hl
          exact List.length_eq_one_iff.mp hl
      rw [if_pos rfl] at h
      have ht := hlen (textOf n t) (by simp)
      have q := intText_len hlt
      unfold intText at q
      have eb : brackets "times" [i] [textOf n t] = "times(" ++ toString i ++ "," ++ textOf n t ++ ")" := by
        unfold brackets
        have e3 : ("times" : Str) ++ "(" = "times(" := by decide +kernel
        have e4 : Txt.join "," ([i].map intText ++ [textOf n t]) = intText i ++ "," ++ textOf n t := by
          rfl
        rw [e3, e4]
        unfold intText
        simp only [PySem.Str.append_assoc]
      replace h : R (.str (brackets "times" [i] [textOf n t])) := h
      rw [eb] at h
      ((try dsimp only); refine rd_here rfl ?_; (try dsimp only))
      rw [ixD_tup, at1, someD_some, strD_int]
      refine ⟨small_log hlt, ?_⟩
      rw [addD_str]
      refine ⟨by omega, ?_⟩
      rw [addD_str]
      refine ⟨by rw [PySem.Str.length_append]; omega, ?_⟩
      ((try dsimp only); refine rd_here rfl ?_; (try dsimp only))
      rw [ixD_tup, at2, someD_some]
      refine con1_C.mpr ⟨hgi t (by simp), ?_⟩
      rw [addD_str]
      refine ⟨by rw [PySem.Str.length_append, PySem.Str.length_append]; omega, ?_⟩
      rw [addD_str]
      exact ⟨by rw [PySem.Str.length_append, PySem.Str.length_append, PySem.Str.length_append]; omega, h⟩
    · have h3 := of_decide_eq_false (Eq.symm e)
      rw [if_neg h3] at h
      have hr2 : r = ts := by
        cases b with
        | none => exact (behind_none hb).1.symm
        | some p =>
          obtain ⟨_, _, hb3, _⟩ := hb2 _ _ rfl
          simp only [List.mem_cons, List.not_mem_nil, or_false] at hb3
          rcases hb3 with z | z | z
          · exact absurd z h1
          · exact absurd z h2
          · exact absurd z h3
      subst hr2
      ((try dsimp only); refine rd_here rfl ?_; (try dsimp only))
      rw [addD_str]
      refine ⟨by omega, ?_⟩
      rw [isS_str]
      ((try dsimp only); refine rd_here rfl ?_; (try dsimp only))
      rw [isI_int, slD_tup, cut1', seqOf_tup]
      refine inner _ _ rfl (join _ ?_)
      rw [addD_str]
      refine ⟨by rw [PySem.Str.length_append]; omega, ?_⟩
      rw [addD_str]
      exact ⟨by rw [PySem.Str.length_append, PySem.Str.length_append]; omega, h⟩
end
end K01
namespace K01
open PySem PySem.Spec PyProof.Rows L2 DL
/-- what may be compared -/
def Lay (d : Dat) : Prop := (toP d).canLay0 = true
def LawOk (d : Dat) : Prop := Fine d ∧ ((∃ ks vs, d = .dic ks vs) ∨ Lay d)
theorem lay_all : ∀ {ds : List Dat}, PyData.canLayAll0 (toPs ds) = true ↔ ∀ d ∈ ds, Lay d
  | [] => ⟨fun _ x hx => (List.not_mem_nil hx).elim, fun _ => rfl⟩
  | d :: ds => by
    rw [toPs, PyData.canLayAll0, Bool.and_eq_true, lay_all]
    constructor
    · rintro ⟨h1, h2⟩ x hx
      rcases List.mem_cons.mp hx with rfl | hx
      · exact h1
      · exact h2 x hx
    · intro h
      exact ⟨h d List.mem_cons_self, fun x hx => h x (List.mem_cons_of_mem _ hx)⟩
theorem lay_tup {ds : List Dat} : Lay (.tup ds) ↔ ∀ d ∈ ds, Lay d := by
  unfold Lay
  rw [toP, PyData.canLay0]
  exact lay_all
theorem lay_lst {ds : List Dat} : Lay (.lst ds) ↔ ∀ d ∈ ds, Lay d := by
  unfold Lay
  rw [toP, PyData.canLay0]
  exact lay_all
theorem lay_sign {z : Str} (h : Lay (.str z)) : ∀ d ∈ DL.signs z, Lay d := fun d hd => by
  obtain ⟨c, hc, rfl⟩ := List.mem_map.mp hd
  have h' : z.cps.all (· < 0x110000) = true := h
  have q := Array.all_eq_true_iff_forall_mem.mp h' c (Array.mem_toList_iff.mp hc)
  show (#[c] : Array Nat).all (· < 0x110000) = true
  simpa using q
theorem compF_filter {j : Nat} {Ft : FT} {Fe : FE} {ρ : List DL.Slot} {p : Dat → Bool} {f : Dat → Dat} : ∀ {items acc : List Dat} {P : List Dat → Prop}, (∀ d ∈ items, ∀ R : Bool → Prop, R (p d) → Ft (ρ.set j (.d d)) R) → (∀ d ∈ items, p d = true → ∀ R : Dat → Prop, R (f d) → Fe (ρ.set j (.d d)) R) → acc.length + items.length ≤ sizeLine → P (acc ++ (items.filter p).map f) →
    compF (gNm j) Ft Fe ρ items acc P
  | [], acc, P, _, _, _, h => by simpa [compF] using h
  | d :: ds, acc, P, ht, he, hl, h => by
    unfold compF
    refine ht d List.mem_cons_self _ ?_
    by_cases hp : p d = true
    · rw [if_pos hp]
      refine he d List.mem_cons_self hp _ ⟨by simp at hl; omega, ?_⟩
      refine compF_filter (fun x hx => ht x (List.mem_cons_of_mem _ hx)) (fun x hx => he x (List.mem_cons_of_mem _ hx)) (by simp at hl ⊢; omega) ?_
      rw [List.filter_cons, if_pos hp] at h
      simpa using h
    · rw [if_neg hp]
      refine compF_filter (fun x hx => ht x (List.mem_cons_of_mem _ hx)) (fun x hx => he x (List.mem_cons_of_mem _ hx)) (by simp at hl ⊢; omega) ?_
      rw [List.filter_cons, if_neg hp] at h
      exact h
def alpha : Str := "abcdefghijklmnopqrstuvwxyz"
theorem alpha_small (c : Nat) : decide (c ∈ alpha.cps.toList) = small c := by
  have e : alpha.cps.toList = (List.range 26).map (· + 97) := by decide +kernel
  rw [e]
  unfold small
  by_cases h : 97 ≤ c ∧ c ≤ 122
  · have : c ∈ (List.range 26).map (· + 97) := List.mem_map.mpr ⟨c - 97, List.mem_range.mpr (by omega), by omega⟩
    rw [decide_eq_true this]
    simp [h.1, h.2]
  · have : ¬ c ∈ (List.range 26).map (· + 97) := fun z => by
      obtain ⟨x, hx, rfl⟩ := List.mem_map.mp z
      have := List.mem_range.mp hx
      omega
    rw [decide_eq_false this]
    by_cases h1 : 97 ≤ c <;> simp <;> omega
/-- a sign, no letter -/
def noSmall (d : Dat) : Bool := match d with
  | .str z => !small (z.cps.getD 0 0)
  | _ => false
section
variable {P : Program} {w : World} {K : PySem.W.Frag} {mg : Str → Option Value} {base : Heap} {f f2 : Addr} {fd fd2 : FuncData} {k : Nat}
abbrev s__law_is_name : Stmt := topS 62
theorem sc__law_is_name : FnScope ["odd", "small", "sign"] ["odd"] (defScope s__law_is_name) := ⟨rfl, rfl, rfl, by decide +kernel, rfl, by decide +kernel, by decide +kernel⟩
-- calls [] consts []
def c_law_is_name : Con := con1 LawOk fun d => .bl (isName d)
theorem ok_law_is_name (B : Bt mg) (F : Fun K "_law_is_name" "_law_is_name" s__law_is_name f fd) : FnOk P w K mg base CX0 (k + 1) f fd ["odd"] (spD K c_law_is_name) := by
  refine fn_pure F sc__law_is_name (fun ds P X ⟨d, e, _⟩ => by rw [e]; rfl) fun cdv A outer s H S hS hr => ?_
  have nd := sc__law_is_name.nd
  refine ⟨_, (db_cons (ds_set 1 de_str nd) (db_one (ds_ret (de_and (de_isi (TT := "str") (he := (de_var 0)) (hm := B.isinstance) (hmT := B.str) (hv := by decide +kernel) (hn := by decide) (hd := by decide)) (de_and (de_chain_le de_int (de_len B.len (da_cons (de_var 0) da_nil)) de_int) (de_one (de_eqM hr.units (de_lc 2 (x := "sign") rfl nd (di_str (de_var 0)) (blkOk_by (own := [("sign", 2)]) (N := ["odd", "small", "sign"]) (sc := defScope s__law_is_name) (by decide +kernel)) (fun _ _ _ _ _ => pg_name (i := 2) nd rfl (Or.inl rfl)) (fun _ _ _ _ _ => (dts_one (dt_ninSign (de_var 2) (de_var 1)))) (fun _ _ _ _ _ => (de_var 2))) (de_lst da_nil)))))))), ?_⟩
  rintro ds R X ⟨d, rfl, hf, h⟩
  replace h : R (.bl (isName d)) := h
  have big := line_big
  ((try dsimp only); refine rd_here rfl ?_; (try dsimp only))
  rw [isB_bl, isi_str]
  cases d with
  | str z =>
    have hl := fine_line hf.1
    rw [if_pos (show isStr (.str z) = true from rfl)]
    ((try dsimp only); refine rd_here rfl ?_; (try dsimp only))
    rw [lenD_str]
    refine ⟨hl, ?_⟩
    rw [leD_int, isB_bl]
    by_cases h1 : 1 ≤ z.length
    · rw [if_pos (decide_eq_true (by omega)), leD_int, isB_bl]
      by_cases h2 : z.length ≤ 6
      · rw [if_pos (decide_eq_true (by omega))]
        ((try dsimp only); refine rd_here rfl ?_; (try dsimp only))
        rw [isS_str]
        have hsz : ([] : List Dat).length + (DL.signs z).length ≤ sizeLine := by
          have : (DL.signs z).length = z.cps.size := by simp [DL.signs]
          have h3 : z.cps.size = z.length := rfl
          simp
          omega
        have hlay : Lay (.str z) := by
          rcases hf.2 with ⟨_, _, e⟩ | e
          · cases e
          · exact e
        refine compF_filter (p := noSmall) (f := id) (fun d hd R hR => ?_) (fun d hd _ R hR => ?_) hsz ?_
        · obtain ⟨c, hc, rfl⟩ := List.mem_map.mp hd
          ((try dsimp only); refine rd_here rfl ?_; (try dsimp only))
          ((try dsimp only); refine rd_here rfl ?_; (try dsimp only))
          refine ⟨rfl, ?_⟩
          have e : (!decide (c ∈ alpha.cps.toList)) = !small c := by rw [alpha_small]
          show R (!decide (c ∈ alpha.cps.toList))
          rw [e]
          exact hR
        · ((try dsimp only); refine rd_here rfl ?_; (try dsimp only))
          exact hR
        · rw [List.nil_append, List.map_id]
          refine ⟨Nat.zero_le _, lay_lst.mpr fun x hx => lay_sign hlay x ((List.mem_filter.mp hx).1), by rfl, Nat.le_trans (Nat.min_le_right _ _) (by decide), ?_⟩
          have e : isName (.str z) = PyData.eqv (toP (.lst ((DL.signs z).filter noSmall))) (toP (.lst [])) := by
            have e1 : isName (.str z) = z.cps.toList.all small := by
              simp only [isName]
              rw [decide_eq_true h1, decide_eq_true h2]; rfl
            rw [e1]
            have e2 : (DL.signs z).filter noSmall = (z.cps.toList.filter fun c => !small c).map fun c => .str ⟨#[c]⟩ := by
              rw [DL.signs, List.filter_map]; rfl
            rw [e2]
            cases hx : z.cps.toList.filter fun c => !small c with
            | nil =>
              show _ = true
              rw [List.all_eq_true]
              intro c hc
              refine Decidable.byContradiction fun hn => ?_
              have : c ∈ z.cps.toList.filter fun c => !small c := List.mem_filter.mpr ⟨hc, by simpa using hn⟩
              rw [hx] at this
              cases this
            | cons c r =>
              show _ = false
              have : c ∈ z.cps.toList.filter fun c => !small c := by rw [hx]; exact List.mem_cons_self
              obtain ⟨hc, hn⟩ := List.mem_filter.mp this
              rw [List.all_eq_false]
              exact ⟨c, hc, by simpa using hn⟩
          rw [← e]
          exact h
      · rw [if_neg (by simp; omega)]
        have e : isName (.str z) = false := by simp [isName]; omega
        rw [e] at h
        exact h
    · rw [if_neg (by simp; omega), isB_bl, if_neg (by decide)]
      have e : isName (.str z) = false := by simp [isName]; omega
      rw [e] at h
      exact h
  | _ => exact h
end
end K01
namespace K01
open PySem PySem.Spec PyProof.Rows L2 DL
theorem lawOk_in {ds : List Dat} (h : LawOk (.tup ds)) : ∀ d ∈ ds, LawOk d := fun d hd => by
  obtain ⟨h1, h2⟩ := h
  have h3 : Lay (.tup ds) := by
    rcases h2 with ⟨_, _, e⟩ | e
    · cases e
    · exact e
  refine ⟨?_, .inr (lay_tup.mp h3 d hd)⟩
  have h1' : Fines ds := h1
  clear h1 h2 h3
  induction ds with
  | nil => cases hd
  | cons x r ih =>
    rcases List.mem_cons.mp hd with rfl | hd
    · exact h1'.1
    · exact ih hd h1'.2
def fitsI (d : Dat) (lo hi : Int) : Bool := match d with
  | .int i => decide (lo ≤ i) && decide (i ≤ hi)
  | _ => false
def c_law_fits : Con := conE (α := Dat × Int × Int) (fun a => [a.1, .int a.2.1, .int a.2.2]) (fun _ => True) fun a => .bl (fitsI a.1 a.2.1 a.2.2)
theorem fits_use {d : Dat} {lo hi : Int} {P : Dat → Prop} {X : Exc → Prop} (h : P (.bl (fitsI d lo hi))) : c_law_fits.C [d, .int lo, .int hi] P X := conE_use (args := fun a : Dat × Int × Int => [a.1, .int a.2.1, .int a.2.2]) (d, lo, hi) trivial h
def kindS (d : Dat) : Dat := match shape d with
  | some (_, _, k) => .str k
  | none => .non
def c_law_leaf : Con := con1 (fun d => ∃ w0 r, d = .tup (.str w0 :: r) ∧ w0 ∈ (["name", "number", "bits"] : List Str) ∧ LawOk d) kindS
def goodN (r : List Dat) : Bool := match r with
  | [n, s] => isName n && isStr s
  | _ => false
theorem kindS_leaf {w0 k0 : Str} {lo hi : Int} {r : List Dat} (hn : w0 ≠ "name") (hc : w0 ≠ "call") (hr : row w0 = some (k0, some (lo, hi), [])) : kindS (.tup (.str w0 :: r)) = match r with
    | [x] => if fitsI x lo hi = true then .str k0 else .non
    | _ => .non := by
  unfold kindS
  rw [shape_word hn hc hr]
  match r with
  | [] => rfl
  | [x] =>
    cases x with
    | int i =>
      show (match ((if ([] : List Dat).length = 0 ∧ lo ≤ i ∧ i ≤ hi then some [] else none).map fun ts => (([] : List Str), (ts : List Dat), k0)) with
        | some (_, _, k) => Dat.str k
        | none => .non) = if (decide (lo ≤ i) && decide (i ≤ hi)) = true then .str k0 else .non
      by_cases h1 : lo ≤ i <;> by_cases h2 : i ≤ hi <;> simp [h1, h2]
    | _ => rfl
  | x :: y :: r' =>
    cases x with
    | int i =>
      show (match ((if (y :: r').length = 0 ∧ lo ≤ i ∧ i ≤ hi then some (y :: r') else none).map fun ts => (([] : List Str), (ts : List Dat), k0)) with
        | some (_, _, k) => Dat.str k
        | none => .non) = .non
      rw [if_neg (by simp)]
      rfl
    | _ => rfl
theorem million : ((10 : Int) ^ (6 : Int).toNat) = 1000000 := by decide
section
variable {P : Program} {w : World} {K : PySem.W.Frag} {mg : Str → Option Value} {base : Heap} {f f2 : Addr} {fd fd2 : FuncData} {k : Nat}
abbrev s__law_fits : Stmt := topS 63
theorem sc__law_fits : FnScope ["odd", "low", "high"] ["odd", "low", "high"] (defScope s__law_fits) := ⟨rfl, rfl, rfl, by decide +kernel, rfl, by decide +kernel, by decide +kernel⟩
-- calls [] consts []
theorem ok_law_fits (B : Bt mg) (F : Fun K "_law_fits" "_law_fits" s__law_fits f fd) : FnOk P w K mg base CX0 (k + 1) f fd ["odd", "low", "high"] (spD K c_law_fits) := by
  refine fn_pure F sc__law_fits (fun ds P X ⟨d, e, _⟩ => by rw [e]; rfl) fun cdv A outer s H S hS hr => ?_
  have nd := sc__law_fits.nd
  refine ⟨_, (db_one (ds_ret (de_and (de_isi (TT := "int") (he := (de_var 0)) (hm := B.isinstance) (hmT := B.int) (hv := by decide +kernel) (hn := by decide) (hd := by decide)) (de_and (de_not (de_isi (TT := "bool") (he := (de_var 0)) (hm := B.isinstance) (hmT := B.bool) (hv := by decide +kernel) (hn := by decide) (hd := by decide))) (de_one (de_chain_le (de_var 1) (de_var 0) (de_var 2))))))), ?_⟩
  rintro ds R X ⟨⟨d, lo, hi⟩, rfl, _, h⟩
  replace h : R (.bl (fitsI d lo hi)) := h
  ((try dsimp only); refine rd_here rfl ?_; (try dsimp only))
  rw [isB_bl, isi_int]
  cases d with
  | int i =>
    rw [if_pos (show isInt (.int i) = true from rfl)]
    ((try dsimp only); refine rd_here rfl ?_; (try dsimp only))
    rw [isB_bl, isB_bl, isi_bool, if_pos (show (!isBl (.int i)) = true from rfl)]
    ((try dsimp only); refine rd_here rfl ?_; (try dsimp only))
    ((try dsimp only); refine rd_here rfl ?_; (try dsimp only))
    rw [leD_int, isB_bl]
    cases e : decide (lo ≤ i) with
    | true =>
      rw [if_pos rfl]
      ((try dsimp only); refine rd_here rfl ?_; (try dsimp only))
      rw [leD_int]
      simp only [fitsI, e, Bool.true_and] at h
      exact h
    | false =>
      rw [if_neg (by decide)]
      simp only [fitsI, e, Bool.false_and] at h
      exact h
  | bl b =>
    rw [if_pos (show isInt (.bl b) = true from rfl)]
    ((try dsimp only); refine rd_here rfl ?_; (try dsimp only))
    exact h
  | _ => exact h
abbrev s__law_leaf_kind : Stmt := topS 65
theorem sc__law_leaf_kind : FnScope ["odd", "good"] ["odd"] (defScope s__law_leaf_kind) := ⟨rfl, rfl, rfl, by decide +kernel, rfl, by decide +kernel, by decide +kernel⟩
-- calls ['_law_is_name', '_law_fits'] consts []
theorem ok_law_leaf (B : Bt mg) (F__law_is_name : Callee P w K mg base "_law_is_name" k ["odd"] c_law_is_name) (F__law_fits : Callee P w K mg base "_law_fits" k ["odd", "low", "high"] c_law_fits) (F : Fun K "_law_leaf_kind" "_law_leaf_kind" s__law_leaf_kind f fd) : FnOk P w K mg base CX0 (k + 1) f fd ["odd"] (spD K c_law_leaf) := by
  refine fn_pure F sc__law_leaf_kind (fun ds P X ⟨d, e, _⟩ => by rw [e]; rfl) fun cdv A outer s H S hS hr => ?_
  have nd := sc__law_leaf_kind.nd
  refine ⟨_, (db_cons (ds_ifc (dt_eq hr.units (de_ix (de_var 0) de_int) de_str) (db_cons (ds_setc 1 (de_and (de_eq hr.units (de_len B.len (da_cons (de_var 0) da_nil)) de_int) (de_and (de_fn F__law_is_name hr (da_cons (de_ix (de_var 0) de_int) da_nil) (by omega)) (de_one (de_isi (TT := "str") (he := (de_ix (de_var 0) de_int)) (hm := B.isinstance) (hmT := B.str) (hv := by decide +kernel) (hn := by decide) (hd := by decide))))) nd) (db_one (ds_ret (de_if (dt_w (dw_and (dt_val (de_var 1)) (dw_and1 (dt_in (de_ix (de_var 0) de_int) (de_lst (da_cons de_str (da_cons de_str (da_cons de_str (da_cons de_str (da_cons de_str da_nil)))))))))) (de_ix (de_var 0) de_int) de_non)))) db_nil) (db_cons (ds_ifc (dt_eq hr.units (de_ix (de_var 0) de_int) de_str) (db_one (ds_ret (de_if (dt_w (dw_and (dt_eq hr.units (de_len B.len (da_cons (de_var 0) da_nil)) de_int) (dw_and1 (dt_val (de_fn F__law_fits hr (da_cons (de_ix (de_var 0) de_int) (da_cons (de_sub de_int (de_pow de_int de_int)) (da_cons (de_pow de_int de_int) da_nil))) (by omega)))))) de_str de_non))) db_nil) (db_one (ds_ret (de_if (dt_w (dw_and (dt_eq hr.units (de_len B.len (da_cons (de_var 0) da_nil)) de_int) (dw_and1 (dt_val (de_fn F__law_fits hr (da_cons (de_ix (de_var 0) de_int) (da_cons de_int (da_cons de_int da_nil))) (by omega)))))) de_str de_non))))), ?_⟩
  rintro ds R X ⟨_, rfl, ⟨w0, r, rfl, hw, hok⟩, h⟩
  have hin := lawOk_in hok
  have big := line_big
  simp only [List.mem_cons, List.not_mem_nil, or_false] at hw
  refine ⟨(· = decide (w0 = "name")), ?_, fun e => ?_, fun e => ?_⟩
  · ((try dsimp only); refine rd_here rfl ?_; (try dsimp only))
    rw [ixD_tup, at0, someD_some]
    exact rfl
  · obtain rfl := of_decide_eq_true (Eq.symm e)
    refine ⟨(· = .bl (goodN r)), ?_, ?_⟩
    · ((try dsimp only); refine rd_here rfl ?_; (try dsimp only))
      rw [lenD_tup, eqD_int, isB_bl]
      match r, hin with
      | [], _ => rw [if_neg (by simp)]; exact rfl
      | [a], _ => rw [if_neg (by simp)]; exact rfl
      | [n, s], hin =>
        rw [if_pos (by simp)]
        ((try dsimp only); refine rd_here rfl ?_; (try dsimp only))
        rw [ixD_tup, at1, someD_some]
        refine con1_C.mpr ⟨hin n (by simp), ?_⟩
        rw [isB_bl]
        cases en : isName n with
        | true =>
          rw [if_pos rfl]
          ((try dsimp only); refine rd_here rfl ?_; (try dsimp only))
          rw [ixD_tup, at2, someD_some, isi_str]
          show Dat.bl (isStr s) = .bl (isName n && isStr s)
          rw [en]; rfl
        | false =>
          rw [if_neg (by decide)]
          show Dat.bl false = .bl (isName n && isStr s)
          rw [en]; rfl
      | a :: b :: c :: r', _ =>
        rw [if_neg (by simp; omega)]
        exact rfl
    · rintro _ rfl
      ((try dsimp only); refine rd_here rfl ?_; (try dsimp only))
      rw [isB_bl]
      match r, hin with
      | [], _ => exact h
      | [a], _ => exact h
      | [n, s], hin =>
        show if (isName n && isStr s) = true then _ else _
        have e1 : kindS (.tup [.str "name", n, s]) = match (if (isName n && isSort s) = true then some (([] : List Str), ([] : List Dat), strOr s) else none) with
          | some (_, _, k) => .str k
          | none => .non := rfl
        rw [e1] at h
        cases en : isName n && isStr s with
        | true =>
          rw [if_pos rfl]
          ((try dsimp only); refine rd_here rfl ?_; (try dsimp only))
          rw [ixD_tup, at2, someD_some]
          refine ⟨show 5 ≤ sizeLine by decide, ?_⟩
          simp only [Bool.and_eq_true] at en
          cases s with
          | str z =>
            have e2 : isSort (.str z) = decide (z ∈ sorts) := rfl
            rw [en.1, e2] at h
            show if decide (z ∈ sorts) = true then _ else _
            cases ez : decide (z ∈ sorts) with
            | true =>
              rw [if_pos rfl]
              ((try dsimp only); refine rd_here rfl ?_; (try dsimp only))
              rw [ixD_tup, at2, someD_some]
              rw [ez] at h
              exact h
            | false =>
              rw [if_neg (by decide)]
              rw [ez] at h
              exact h
          | _ => exact absurd en.2 Bool.false_ne_true
        | false =>
          rw [if_neg (by decide)]
          have : (isName n && isSort s) = false := by
            cases s with
            | str z =>
              have : isName n = false := by simpa [isStr] using en
              rw [this]; rfl
            | _ => simp [isSort]
          rw [this] at h
          exact h
      | a :: b :: c :: r', _ => exact h
  · have hnn := of_decide_eq_false (Eq.symm e)
    refine ⟨(· = decide (w0 = "number")), ?_, fun e => ?_, fun e => ?_⟩
    · ((try dsimp only); refine rd_here rfl ?_; (try dsimp only))
      rw [ixD_tup, at0, someD_some]
      exact rfl
    · obtain rfl := of_decide_eq_true (Eq.symm e)
      rw [kindS_leaf hnn (by decide +kernel) (show row "number" = some ((("num" : Str)), some (-1000000, 1000000), ([] : List Str)) by decide +kernel)] at h
      ((try dsimp only); refine rd_here rfl ?_; (try dsimp only))
      rw [lenD_tup, eqD_int, isB_bl]
      match r, hin with
      | [], _ => rw [if_neg (by simp)]; exact h
      | [x], hin =>
        rw [if_pos (by simp)]
        ((try dsimp only); refine rd_here rfl ?_; (try dsimp only))
        rw [ixD_tup, at1, someD_some]
        refine ⟨⟨by decide, by decide, by decide⟩, ⟨by decide, by decide, by decide⟩, ?_⟩
        refine fits_use ?_
        rw [isB_bl]
        show if fitsI x (0 - 10 ^ (6 : Int).toNat) (10 ^ (6 : Int).toNat) = true then _ else _
        rw [million, show (0 - 1000000 : Int) = -1000000 by decide]
        replace h : R (if fitsI x (-1000000) 1000000 = true then .str "num" else .non) := h
        by_cases hx : fitsI x (-1000000) 1000000 = true
        · rw [if_pos hx] at h ⊢; exact h
        · rw [if_neg hx] at h ⊢; exact h
      | x :: y :: r', _ => rw [if_neg (by simp; omega)]; exact h
    · have hnm := of_decide_eq_false (Eq.symm e)
      have hb : w0 = "bits" := by
        rcases hw with z | z | z
        · exact absurd z hnn
        · exact absurd z hnm
        · exact z
      subst hb
      rw [kindS_leaf hnn (by decide +kernel) (show row "bits" = some ((("bits" : Str)), some (0, 15), ([] : List Str)) by decide +kernel)] at h
      ((try dsimp only); refine rd_here rfl ?_; (try dsimp only))
      rw [lenD_tup, eqD_int, isB_bl]
      match r, hin with
      | [], _ => rw [if_neg (by simp)]; exact h
      | [x], hin =>
        rw [if_pos (by simp)]
        ((try dsimp only); refine rd_here rfl ?_; (try dsimp only))
        rw [ixD_tup, at1, someD_some]
        refine fits_use ?_
        rw [isB_bl]
        replace h : R (if fitsI x 0 15 = true then .str "bits" else .non) := h
        show if fitsI x 0 15 = true then _ else _
        by_cases hx : fitsI x 0 15 = true
        · rw [if_pos hx] at h ⊢; exact h
        · rw [if_neg hx] at h ⊢; exact h
      | x :: y :: r', _ => rw [if_neg (by simp; omega)]; exact h
end
end K01
namespace K01
open PySem PySem.Spec PyProof.Rows L2 DL
def kD (k : Str) (ss : List Str) : Dat := .tup [.str k, .lst (ss.map Dat.str)]
def kRow (w k : Str) (ss : List Str) : Key × Dat := (.inr w, kD k ss)
/-- the asker's own table -/
def kTab : Tab := [kRow "plus" "num" ["num", "num"], kRow "times" "num" ["num"], kRow "tip" "tree" ["num"], kRow "none" "set" [], kRow "node" "tree" ["tree", "tree"], kRow "one" "set" ["num"], kRow "bnot" "bits" ["bits"],
  kRow "union" "set" ["set", "set"], kRow "both" "set" ["set", "set"], kRow "without" "set" ["set", "set"], kRow "band" "bits" ["bits", "bits"], kRow "bor" "bits" ["bits", "bits"], kRow "badd" "bits" ["bits", "bits"]]
def c_law_kinds : Con := ⟨fun ds P _ => ds = [] ∧ P (dicP kTab), fun _ _ _ _ _ h m _ => ⟨h.1, m _ h.2⟩⟩
def kT1 : Tab := [kRow "plus" "num" ["num", "num"], kRow "times" "num" ["num"], kRow "tip" "tree" ["num"]]
def kT2 : Tab := kT1 ++ [kRow "none" "set" []]
def kM : Tab := [kRow "node" "tree" ["tree", "tree"], kRow "one" "set" ["num"], kRow "bnot" "bits" ["bits"]]
def kT3 : Tab := kT2 ++ kM
def kPut (w k : Str) (ss : List Str) (l : Tab) : Tab := putP l (.inr w) (kD k ss)
theorem put_new {l : Tab} {w : Str} {d : Dat} (h : (l.any fun kv => decide (kv.1 = Sum.inr w)) = false) : putP l (.inr w) d = l ++ [(.inr w, d)] := by
  unfold putP
  rw [h]
  exact if_neg (by decide)
theorem merge_cons {l m : Tab} {w : Str} {d : Dat} (h : (l.any fun kv => decide (kv.1 = Sum.inr w)) = false) : mergeP l ((.inr w, d) :: m) = mergeP (l ++ [(.inr w, d)]) m := by
  rw [← put_new h]; rfl
theorem kT1_eq : mergeP [] kT1 = kT1 := by
  unfold kT1 kRow
  rw [merge_cons (by decide +kernel), merge_cons (by decide +kernel), merge_cons (by decide +kernel)]
  rfl
theorem kM_eq : mergeP [] kM = kM := by
  unfold kM kRow
  rw [merge_cons (by decide +kernel), merge_cons (by decide +kernel), merge_cons (by decide +kernel)]
  rfl
theorem kT3_eq : mergeP kT2 kM = kT3 := by
  unfold kM kRow
  rw [merge_cons (by decide +kernel), merge_cons (by decide +kernel), merge_cons (by decide +kernel)]
  rfl
theorem kT2_eq : putP kT1 (.inr "none") (kD "set" []) = kT2 := put_new (by decide +kernel)
def kLoop (k : Str) (l : Tab) (ws : List Str) : Tab := l ++ ws.map fun w => kRow w k [k, k]
/-- a loop that puts in words of one row -/
theorem kLoop_put {k w : Str} {l : Tab} {ws : List Str} (h : (l.any fun kv => decide (kv.1 = Sum.inr w)) = false) (h2 : w ∉ ws) : putP (kLoop k l ws) (.inr w) (kD k [k, k]) = kLoop k l (ws ++ [w]) := by
  unfold kLoop
  rw [put_new, List.map_append, List.append_assoc]
  · rfl
  · rw [List.any_append, h, Bool.false_or, List.any_map, List.any_eq_false]
    intro x hx
    show ¬ decide ((Sum.inr x : Key) = Sum.inr w) = true
    intro e
    have : x = w := by
      have := of_decide_eq_true e
      injection this
    exact h2 (this ▸ hx)
def w3a : List Str := ["union", "both", "without"]
def w3b : List Str := ["band", "bor", "badd"]
def kT4 : Tab := kLoop "set" kT3 w3a
theorem kTab_eq : kLoop "bits" kT4 w3b = kTab := rfl
theorem apart_a : ∀ x ∈ w3a, (kT3.any fun kv => decide (kv.1 = Sum.inr x)) = false := by decide +kernel
theorem apart_b : ∀ x ∈ w3b, (kT4.any fun kv => decide (kv.1 = Sum.inr x)) = false := by decide +kernel
theorem nodup_a : w3a.Nodup := by decide +kernel
theorem nodup_b : w3b.Nodup := by decide +kernel
theorem kLoop_len {k : Str} {l : Tab} {ws : List Str} : (kLoop k l ws).length = l.length + ws.length := by
  unfold kLoop
  rw [List.length_append, List.length_map]
section
variable {P : Program} {w : World} {K : PySem.W.Frag} {mg : Str → Option Value} {base : Heap} {f f2 : Addr} {fd fd2 : FuncData} {k : Nat}
abbrev s__law_kinds : Stmt := topS 64
theorem sc__law_kinds : FnScope ["found", "word"] [] (defScope s__law_kinds) := ⟨rfl, rfl, rfl, by decide +kernel, rfl, by decide +kernel, by decide +kernel⟩
-- calls [] consts []
theorem ok_law_kinds (F : Fun K "_law_kinds" "_law_kinds" s__law_kinds f fd) : FnOk P w K mg base CX0 (k + 1) f fd [] (spD K c_law_kinds) := by
  refine fn_pure F sc__law_kinds (fun ds P X ⟨e, _⟩ => by rw [e]; rfl) fun cdv A outer s H S hS hr => ?_
  have nd := sc__law_kinds.nd
  refine ⟨_, (db_cons (ds_setDisp 0 (dps_cons de_str (de_tup (da_cons de_str (da_cons (de_lst (da_cons de_str (da_cons de_str da_nil))) da_nil))) (dps_cons de_str (de_tup (da_cons de_str (da_cons (de_lst (da_cons de_str da_nil)) da_nil))) (dps_cons de_str (de_tup (da_cons de_str (da_cons (de_lst (da_cons de_str da_nil)) da_nil))) dps_nil))) nd) (db_cons (ds_dput 0 (hu_of hr) de_str (de_tup (da_cons de_str (da_cons (de_lst da_nil) da_nil)))) (db_cons (ds_dupd 0 (he := (de_disp (dps_cons de_str (de_tup (da_cons de_str (da_cons (de_lst (da_cons de_str (da_cons de_str da_nil))) da_nil))) (dps_cons de_str (de_tup (da_cons de_str (da_cons (de_lst (da_cons de_str da_nil)) da_nil))) (dps_cons de_str (de_tup (da_cons de_str (da_cons (de_lst (da_cons de_str da_nil)) da_nil))) dps_nil)))))) (db_cons (ds_forI PassesOwn.never rfl (di_seq (de_lst (da_cons de_str (da_cons de_str (da_cons de_str da_nil))))) (dg_name 1 nd) (db_one (ds_dput 0 (hu_of hr) (de_var 1) (de_tup (da_cons de_str (da_cons (de_lst (da_cons de_str (da_cons de_str da_nil))) da_nil)))))) (db_cons (ds_forI PassesOwn.never rfl (di_seq (de_lst (da_cons de_str (da_cons de_str (da_cons de_str da_nil))))) (dg_name 1 nd) (db_one (ds_dput 0 (hu_of hr) (de_var 1) (de_tup (da_cons de_str (da_cons (de_lst (da_cons de_str (da_cons de_str da_nil))) da_nil)))))) (db_one (ds_freeze (ds_ret (de_var 0))))))))), ?_⟩
  rintro ds R X ⟨rfl, h⟩
  have s2 : 2 ≤ sizeLine := by decide
  have s1 : 1 ≤ sizeLine := by decide
  have s0 : 0 ≤ sizeLine := by decide
  have s3 : 3 ≤ sizeLine := by decide
  have big := line_big
  refine ⟨s2, s2, s1, s2, s1, s2, by decide, ?_⟩
  refine ⟨s0, s2, ?_⟩
  show owndL ([.ownd ((mergeP [] kT1).map (·.1)) ((mergeP [] kT1).map (·.2)), .un] : List DL.Slot) 0 _
  rw [kT1_eq]
  refine owndL_here rfl ?_
  refine ⟨show 3 < sizeLine by decide, ?_⟩
  dsimp only
  refine owndL_here (l := kT2) ?_ ?_
  · rw [← kT2_eq]; rfl
  refine ⟨s2, s2, s1, s2, s1, s2, by decide, kM, ?_, by decide, ?_⟩
  · show dicP (mergeP [] kM) = dicP kM
    rw [kM_eq]
  rw [kT3_eq]
  refine ⟨fun items ρ => ∃ (done left : List Str) (a : DL.Slot), items = left.map Dat.str ∧ done ++ left = w3a ∧ ρ = [.ownd ((kLoop "set" kT3 done).map (·.1)) ((kLoop "set" kT3 done).map (·.2)), a], ?_, ?_, ?_⟩
  · refine ⟨s3, ?_⟩
    exact ⟨[], w3a, _, rfl, rfl, by unfold kLoop; rw [List.map_nil, List.append_nil]; try rfl⟩
  · rintro ρ ⟨done, left, a, e1, e2, rfl⟩
    have hl : left = [] := by
      cases left with
      | nil => rfl
      | cons x r => cases e1
    subst hl
    rw [List.append_nil] at e2
    subst e2
    rw [show kLoop "set" kT3 w3a = kT4 from rfl]
    refine ⟨fun items ρ => ∃ (done left : List Str) (a : DL.Slot), items = left.map Dat.str ∧ done ++ left = w3b ∧ ρ = [.ownd ((kLoop "bits" kT4 done).map (·.1)) ((kLoop "bits" kT4 done).map (·.2)), a], ?_, ?_, ?_⟩
    · refine ⟨s3, ?_⟩
      exact ⟨[], w3b, _, rfl, rfl, by unfold kLoop; rw [List.map_nil, List.append_nil]; try rfl⟩
    · rintro ρ ⟨done, left, a, e1, e2, rfl⟩
      have hl : left = [] := by
        cases left with
        | nil => rfl
        | cons x r => cases e1
      subst hl
      rw [List.append_nil] at e2
      subst e2
      show rd ([.d (.dic ((kLoop "bits" kT4 w3b).map (·.1)) ((kLoop "bits" kT4 w3b).map (·.2))), a.freeze] : List DL.Slot) 0 _
      rw [kTab_eq]
      ((try dsimp only); refine rd_here rfl ?_; (try dsimp only))
      exact h
    · rintro d ds ρ ⟨done, left, a, e1, e2, rfl⟩
      cases left with
      | nil => cases e1
      | cons w0 left =>
        cases e1
        have hm : w0 ∈ w3b := by rw [← e2]; simp
        have hnd : w0 ∉ done := fun z => by
          have q := nodup_b
          rw [← e2, List.nodup_append] at q
          exact q.2.2 w0 z w0 (by simp) rfl
        have hlen : done.length ≤ 3 := by
          have q := congrArg List.length e2
          rw [List.length_append] at q
          have : (w3b).length = 3 := rfl
          omega
        refine ⟨s2, s2, owndL_here (l := kLoop "bits" kT4 done) rfl ?_⟩
        ((try dsimp only); refine rd_here rfl ?_; (try dsimp only))
        rw [isS_str]
        refine ⟨?_, done ++ [w0], left, .d (.str w0), rfl, by rw [← e2]; simp, ?_⟩
        · rw [kLoop_len]
          have : (kT4).length ≤ 20 := by decide
          omega
        · rw [← kLoop_put (apart_b w0 hm) hnd]
          rfl
  · rintro d ds ρ ⟨done, left, a, e1, e2, rfl⟩
    cases left with
    | nil => cases e1
    | cons w0 left =>
      cases e1
      have hm : w0 ∈ w3a := by rw [← e2]; simp
      have hnd : w0 ∉ done := fun z => by
        have q := nodup_a
        rw [← e2, List.nodup_append] at q
        exact q.2.2 w0 z w0 (by simp) rfl
      have hlen : done.length ≤ 3 := by
        have q := congrArg List.length e2
        rw [List.length_append] at q
        have : (w3a).length = 3 := rfl
        omega
      refine ⟨s2, s2, owndL_here (l := kLoop "set" kT3 done) rfl ?_⟩
      ((try dsimp only); refine rd_here rfl ?_; (try dsimp only))
      rw [isS_str]
      refine ⟨?_, done ++ [w0], left, .d (.str w0), rfl, by rw [← e2]; simp, ?_⟩
      · rw [kLoop_len]
        have : (kT3).length ≤ 20 := by decide
        omega
      · rw [← kLoop_put (apart_a w0 hm) hnd]
        rfl
end
end K01
namespace K01
open PySem PySem.Spec PyProof.Rows L2 DL
def kindD : Option (Str × Nat) → Dat
  | some (k, m) => .tup [.str k, .int (m : Nat)]
  | none => .non
def c_law_tk (n : Nat) : Con := conE (α := Dat) (fun d => [d, .int (n : Nat)]) LawOk fun d => kindD (kindOf n d)
theorem tk_use {n : Nat} {d : Dat} {i : Int} {P : Dat → Prop} {X : Exc → Prop} (hi : i = (n : Nat)) (hd : LawOk d) (h : P (kindD (kindOf n d))) : (c_law_tk n).C [d, .int i] P X := by
  subst hi
  exact conE_use (args := fun d : Dat => [d, .int (n : Nat)]) d hd h
theorem not_t {b : Bool} (h : true = !b) : b = false := by
  cases b
  · rfl
  · cases h
theorem not_f {b : Bool} (h : false = !b) : b = true := by
  cases b
  · cases h
  · rfl
theorem inD_lst {neg : Bool} {x : Str} {zs : List Str} {P : Dat → Prop} : inD neg (.str x) (.lst (zs.map Dat.str)) P = P (.bl (if neg then !decide (x ∈ zs) else decide (x ∈ zs))) := by
  show inOf neg x (zs.map Dat.str) P = _
  unfold inOf
  rw [strsOf_map]
def accK (n : Nat) : Nat → List Dat → Option Nat
  | a, [] => some a
  | a, t :: ts => match kindOf n t with
    | none => none
    | some (_, m) => accK n (a + m) ts
theorem accK_eq {n : Nat} : ∀ {ts : List Dat} {a : Nat}, accK n a ts = (sizeP (kindOf n) ts (List.replicate ts.length "")).map (a + ·)
  | [], a => rfl
  | t :: ts, a => by
    rw [List.length_cons, List.replicate_succ]
    simp only [accK, sizeP]
    cases e : kindOf n t with
    | none => rfl
    | some p =>
      obtain ⟨k, m⟩ := p
      simp only
      rw [if_pos (by simp [fitsS]), accK_eq]
      cases sizeP (kindOf n) ts (List.replicate ts.length "") with
      | none => rfl
      | some q => simp [Nat.add_assoc]
def callOk (r : List Dat) : Bool := match r with
  | [n, t, s] => isName n && (isStr s && isTup t)
  | _ => false
def c_law_call (n : Nat) : Con := conE (α := List Dat) (fun r => [.tup (.str "call" :: r), .int ((n + 1 : Nat) : Int)]) (fun r => LawOk (.tup (.str "call" :: r))) fun r => kindD (kindOf (n + 1) (.tup (.str "call" :: r)))
section
variable {P : Program} {w : World} {K : PySem.W.Frag} {mg : Str → Option Value} {base : Heap} {f f2 : Addr} {fd fd2 : FuncData} {k : Nat}
abbrev s__law_call_kind : Stmt := topS 66
theorem sc__law_call_kind : FnScope ["odd", "deep", "size", "part", "found"] ["odd", "deep"] (defScope s__law_call_kind) := ⟨rfl, rfl, rfl, by decide +kernel, rfl, by decide +kernel, by decide +kernel⟩
-- calls ['_law_is_name', '_law_term_kind'] consts []
theorem ok_law_call_kind {n : Nat} (B : Bt mg) (F__law_is_name : Callee P w K mg base "_law_is_name" k ["odd"] c_law_is_name) (F__law_term_kind : Callee P w K mg base "_law_term_kind" k ["odd", "deep"] (c_law_tk n)) (F : Fun K "_law_call_kind" "_law_call_kind" s__law_call_kind f fd) : FnOk P w K mg base CX0 (k + 1) f fd ["odd", "deep"] (spD K (c_law_call n)) := by
  refine fn_pure F sc__law_call_kind (fun ds P X ⟨d, e, _⟩ => by rw [e]; rfl) fun cdv A outer s H S hS hr => ?_
  have nd := sc__law_call_kind.nd
  refine ⟨_, (db_cons (ds_ifc (dt_w (dw_or (dt_ne hr.units (de_len B.len (da_cons (de_var 0) da_nil)) de_int) (dw_or (dt_not (dt_val (de_fn F__law_is_name hr (da_cons (de_ix (de_var 0) de_int) da_nil) (by omega)))) (dw_or (dt_not (dt_val (de_isi (TT := "str") (he := (de_ix (de_var 0) de_int)) (hm := B.isinstance) (hmT := B.str) (hv := by decide +kernel) (hn := by decide) (hd := by decide)))) (dw_or1 (dt_not (dt_val (de_isi (TT := "tuple") (he := (de_ix (de_var 0) de_int)) (hm := B.isinstance) (hmT := B.tuple) (hv := by decide +kernel) (hn := by decide) (hd := by decide))))))))) (db_one (ds_ret de_non)) db_nil) (db_cons (ds_ifc (dt_w (dw_or (dt_nin (de_ix (de_var 0) de_int) (de_lst (da_cons de_str (da_cons de_str (da_cons de_str (da_cons de_str (da_cons de_str da_nil))))))) (dw_or1 (dt_not (dt_chain_le de_int (de_len B.len (da_cons (de_ix (de_var 0) de_int) da_nil)) de_int))))) (db_one (ds_ret de_non)) db_nil) (db_cons (ds_set 2 de_int nd) (db_cons (ds_forI PassesOwn.never rfl (di_seq (de_ix (de_var 0) de_int)) (dg_name 3 nd) (db_cons (ds_set 4 (de_fn F__law_term_kind hr (da_cons (de_var 3) (da_cons (de_sub (de_var 1) de_int) da_nil)) (by omega)) nd) (db_cons (ds_ifc (dt_isN (de_var 4)) (db_one (ds_ret de_non)) db_nil) (db_one (ds_set 2 (de_add (de_var 2) (de_ix (de_var 4) de_int)) nd))))) (db_one (ds_ret (de_tup (da_cons (de_ix (de_var 0) de_int) (da_cons (de_var 2) da_nil))))))))), ?_⟩
  rintro ds R X ⟨r, rfl, hok, h⟩
  replace h : R (kindD (kindOf (n + 1) (.tup (.str "call" :: r)))) := h
  replace hok : LawOk (.tup (.str "call" :: r)) := hok
  have hin := lawOk_in hok
  have big := line_big
  refine ⟨(· = !callOk r), ?_, fun e => ?_, fun e => ?_⟩
  · ((try dsimp only); refine rd_here rfl ?_; (try dsimp only))
    rw [lenD_tup, neD_int, isB_bl]
    match r, hin with
    | [], _ => rw [if_pos (by simp)]; exact rfl
    | [a], _ => rw [if_pos (by simp)]; exact rfl
    | [a, b], _ => rw [if_pos (by simp)]; exact rfl
    | [nm, t, s], hin =>
      rw [if_neg (by simp)]
      ((try dsimp only); refine rd_here rfl ?_; (try dsimp only))
      rw [ixD_tup, at1, someD_some]
      refine con1_C.mpr ⟨hin nm (by simp), ?_⟩
      rw [isB_bl]
      show if (!isName nm) = true then true = !(isName nm && (isStr s && isTup t)) else _
      cases en : isName nm with
      | false => rfl
      | true =>
        rw [if_neg (by decide)]
        ((try dsimp only); refine rd_here rfl ?_; (try dsimp only))
        rw [ixD_tup, at3, someD_some, isB_bl, isi_str]
        cases es : isStr s with
        | false =>
          rw [if_pos (by rfl)]
          show true = !(isName nm && (isStr s && isTup t))
          rw [es, en]; rfl
        | true =>
          rw [if_neg (by decide)]
          ((try dsimp only); refine rd_here rfl ?_; (try dsimp only))
          rw [ixD_tup, at2, someD_some, isB_bl, isi_tuple]
          show (!isTup t) = !(isName nm && (isStr s && isTup t))
          rw [es, en]; rfl
    | a :: b :: c :: d :: r', _ => rw [if_pos (by simp; omega)]; exact rfl
  · -- not so: None
    have hc : callOk r = false := not_t e
    have es : shape (.tup (.str "call" :: r)) = none := by
      match r with
      | [] => rfl
      | [a] => rfl
      | [a, b] => cases b <;> rfl
      | [nm, .tup ts, s] =>
        have hc' : (isName nm && isStr s) = false := by simpa [callOk, isTup] using hc
        show (if (isName nm && isSort s && decide (1 ≤ ts.length) && decide (ts.length ≤ 3)) = true then _ else none) = none
        rw [if_neg]
        intro z
        simp only [Bool.and_eq_true] at z
        have : isStr s = true := by
          cases s with
          | str z => rfl
          | _ => exact absurd z.1.1.2 Bool.false_ne_true
        rw [z.1.1.1, this] at hc'
        cases hc'
      | [nm, .non, s] => rfl
      | [nm, .bl _, s] => rfl
      | [nm, .int _, s] => rfl
      | [nm, .str _, s] => rfl
      | [nm, .lst _, s] => rfl
      | [nm, .dic _ _, s] => rfl
      | a :: b :: c :: d :: r' => cases b <;> rfl
    have ek : kindOf (n + 1) (.tup (.str "call" :: r)) = none := by
      unfold kindOf
      rw [es]
    rw [ek] at h
    exact h
  · have hc : callOk r = true := not_f e
    obtain ⟨nm, ts, z, rfl, hnm⟩ : ∃ nm ts z, r = [nm, .tup ts, .str z] ∧ isName nm = true := by
      match r with
      | [] => cases hc
      | [a] => cases hc
      | [a, b] => cases hc
      | [nm, t, s] =>
        have hc' : (isName nm && (isStr s && isTup t)) = true := hc
        simp only [Bool.and_eq_true] at hc'
        cases t with
        | tup ts =>
          cases s with
          | str z => exact ⟨nm, ts, z, rfl, hc'.1⟩
          | _ => exact absurd hc'.2.1 Bool.false_ne_true
        | _ => exact absurd hc'.2.2 Bool.false_ne_true
      | a :: b :: c :: d :: r' => cases hc
    have hts : ∀ d ∈ ts, LawOk d := lawOk_in (hin (.tup ts) (by simp))
    have esh : shape (.tup [.str "call", nm, .tup ts, .str z]) = if (decide (z ∈ sorts) && decide (1 ≤ ts.length) && decide (ts.length ≤ 3)) = true then some (List.replicate ts.length ("" : Str), ts, z) else none := by
      show (if (isName nm && isSort (.str z) && decide (1 ≤ ts.length) && decide (ts.length ≤ 3)) = true then _ else none) = _
      rw [hnm, show isSort (.str z) = decide (z ∈ sorts) from rfl, Bool.true_and]
      rfl
    refine ⟨(· = !(decide (z ∈ sorts) && decide (1 ≤ ts.length) && decide (ts.length ≤ 3))), ?_, fun e => ?_, fun e => ?_⟩
    · ((try dsimp only); refine rd_here rfl ?_; (try dsimp only))
      rw [ixD_tup, at3, someD_some]
      refine ⟨show 5 ≤ sizeLine by decide, ?_⟩
      show inD true (.str z) (.lst (sorts.map Dat.str)) _
      rw [inD_lst, isB_bl]
      show if (!decide (z ∈ sorts)) = true then _ else _
      cases e1 : decide (z ∈ sorts) with
      | false => rfl
      | true =>
        rw [if_neg (by decide)]
        ((try dsimp only); refine rd_here rfl ?_; (try dsimp only))
        rw [ixD_tup, at2, someD_some, lenD_tup, leD_int, isB_bl]
        have c1 : decide ((1 : Int) ≤ (ts.length : Nat)) = decide (1 ≤ ts.length) := decide_eq_decide.mpr (by omega)
        have c2 : decide (((ts.length : Nat) : Int) ≤ 3) = decide (ts.length ≤ 3) := decide_eq_decide.mpr (by omega)
        rw [c1]
        cases e2 : decide (1 ≤ ts.length) with
        | false => rfl
        | true =>
          rw [if_pos rfl, leD_int, isB_bl, c2]
          rfl
    · have e' : (decide (z ∈ sorts) && decide (1 ≤ ts.length) && decide (ts.length ≤ 3)) = false := not_t e
      rw [e'] at esh
      have ek : kindOf (n + 1) (.tup [.str "call", nm, .tup ts, .str z]) = none := by
        unfold kindOf
        rw [esh]
        rfl
      rw [ek] at h
      exact h
    · have e' : (decide (z ∈ sorts) && decide (1 ≤ ts.length) && decide (ts.length ≤ 3)) = true := not_f e
      rw [e', if_pos rfl] at esh
      have ek : kindOf (n + 1) (.tup [.str "call", nm, .tup ts, .str z]) = (accK n 1 ts).map fun m => (z, m) := by
        unfold kindOf
        rw [esh, accK_eq]
        show (sizeP (kindOf n) ts (List.replicate ts.length ("" : Str))).map (fun m => (z, m + 1)) = _
        cases hx : sizeP (kindOf n) ts (List.replicate ts.length ("" : Str)) with
        | none => rfl
        | some m => simp [Nat.add_comm]
      rw [ek] at h
      have hinv : ∀ rest : List Dat, (∀ d ∈ rest, d ∈ ts) → True := fun _ _ => trivial
      try dsimp only
      refine ⟨fun items ρ => ∃ (s : Nat) (a b : DL.Slot), (∀ d ∈ items, LawOk d) ∧ accK n s items = accK n 1 ts ∧ ρ = [.d (.tup [.str "call", nm, .tup ts, .str z]), .d (.int ((n + 1 : Nat) : Int)), .d (.int (s : Nat)), a, b], ?_, ?_, ?_⟩
      · ((try dsimp only); refine rd_here rfl ?_; (try dsimp only))
        rw [ixD_tup, at2, someD_some, seqOf_tup]
        exact ⟨1, _, _, hts, rfl, rfl⟩
      · rintro ρ ⟨s, a, b, _, e1, rfl⟩
        rw [← e1] at h
        ((try dsimp only); refine rd_here rfl ?_; (try dsimp only))
        rw [ixD_tup, at3, someD_some]
        ((try dsimp only); refine rd_here rfl ?_; (try dsimp only))
        exact ⟨show 2 ≤ sizeLine by decide, h⟩
      · rintro d ds ρ ⟨s, a, b, ho, e1, rfl⟩
        ((try dsimp only); refine rd_here rfl ?_; (try dsimp only))
        ((try dsimp only); refine rd_here rfl ?_; (try dsimp only))
        rw [int0_int]
        refine tk_use (by omega) (ho d List.mem_cons_self) ?_
        cases e2 : kindOf n d with
        | none =>
          refine ⟨(· = true), ?_, fun _ => ?_, (fun e => nomatch e)⟩
          · ((try dsimp only); refine rd_here rfl ?_; (try dsimp only))
            exact rfl
          · rw [accK, e2] at e1
            rw [← e1] at h
            exact h
        | some p =>
          obtain ⟨kk, m⟩ := p
          refine ⟨(· = false), ?_, (fun e => nomatch e), fun _ => ?_⟩
          · ((try dsimp only); refine rd_here rfl ?_; (try dsimp only))
            exact rfl
          · ((try dsimp only); refine rd_here rfl ?_; (try dsimp only))
            ((try dsimp only); refine rd_here rfl ?_; (try dsimp only))
            show ixD (.tup [.str kk, .int (m : Nat)]) (.int 1) _
            rw [ixD_tup, at1, someD_some, addD_int]
            refine ⟨s + m, .d d, .d (kindD (some (kk, m))), fun x hx => ho x (List.mem_cons_of_mem _ hx), ?_, ?_⟩
            · rw [accK, e2] at e1
              exact e1
            · rw [show ((s : Nat) : Int) + ((m : Nat) : Int) = ((s + m : Nat) : Int) by omega]
              rfl
end
end K01
namespace K01
open PySem PySem.Spec PyProof.Rows L2 DL
/-- what the asker's table tells of a word -/
def rowK (w : Str) : Dat := match row w with
  | some (k, _, ss) => kD k ss
  | none => .non
def leaf3 : List Str := ["name", "number", "bits"]
theorem getK_not : ∀ {l : Tab} {k : Key}, (l.any fun kv => decide (kv.1 = k)) = false → getK (l.map (·.1)) (l.map (·.2)) k = none
  | [], _, _ => rfl
  | x :: l, k, h => by
    rw [List.any_cons, Bool.or_eq_false_iff] at h
    rw [List.map_cons, List.map_cons, getK, if_neg (of_decide_eq_false h.1)]
    exact getK_not h.2
def kWords : List Str := ["plus", "times", "tip", "none", "node", "one", "bnot", "union", "both", "without", "band", "bor", "badd"]
theorem kTab_keys : kTab.map (·.1) = kWords.map Sum.inr := rfl
theorem table_keys {w : Str} (h1 : w ∉ leaf3) (h2 : w ∉ kWords) : row w = none := by
  unfold row
  have : (table.find? fun p => decide (p.1 = w)) = none := by
    rw [List.find?_eq_none]
    intro p hp e
    have e' := of_decide_eq_true e
    have q : ∀ p ∈ table, p.1 ∈ leaf3 ∨ p.1 ∈ kWords := by decide +kernel
    rcases q p hp with z | z
    · exact h1 (e' ▸ z)
    · exact h2 (e' ▸ z)
  rw [this]; rfl
theorem rowK_eq {w : Str} (h : w ∉ leaf3) : ((getK (kTab.map (·.1)) (kTab.map (·.2)) (.inr w)).getD .non) = rowK w := by
  by_cases hw : w ∈ kWords
  · simp only [kWords, List.mem_cons, List.not_mem_nil, or_false] at hw
    rcases hw with rfl | rfl | rfl | rfl | rfl | rfl | rfl | rfl | rfl | rfl | rfl | rfl | rfl <;> rfl
  · unfold rowK
    rw [table_keys h hw, getK_not]
    · rfl
    · rw [List.any_eq_false]
      intro kv hkv e
      have e' := of_decide_eq_true e
      have : kv.1 ∈ kTab.map (·.1) := List.mem_map.mpr ⟨kv, hkv, rfl⟩
      rw [kTab_keys, e'] at this
      obtain ⟨x, hx, ex⟩ := List.mem_map.mp this
      cases ex
      exact hw hx
def wordD (d : Dat) : Bool := match d with
  | .tup (.str _ :: _) => true
  | _ => false
theorem noword_shape {d : Dat} (h : wordD d = false) : shape d = none := by
  cases d with
  | tup r =>
    cases r with
    | nil => rfl
    | cons x r =>
      cases x with
      | str w => cases h
      | _ => rfl
  | _ => rfl
theorem noshape_kind {n : Nat} {d : Dat} (h : shape d = none) : kindOf n d = none := by
  cases n with
  | zero => rfl
  | succ n => unfold kindOf; rw [h]
theorem wordD_eq {d : Dat} (h : wordD d = true) : ∃ w r, d = .tup (.str w :: r) := by
  cases d with
  | tup r =>
    cases r with
    | nil => cases h
    | cons x r =>
      cases x with
      | str w => exact ⟨w, r, rfl⟩
      | _ => cases h
  | _ => cases h
def accZ (n : Nat) : Nat → List (Dat × Str) → Option Nat
  | a, [] => some a
  | a, p :: ps => match kindOf n p.1 with
    | some (k, m) => if k = p.2 then accZ n (a + m) ps else none
    | none => none
theorem accZ_eq {n : Nat} : ∀ {ts : List Dat} {ss : List Str} {a : Nat}, ts.length = ss.length → (∀ s ∈ ss, s ≠ "") → accZ n a (ts.zip ss) = (sizeP (kindOf n) ts ss).map (a + ·)
  | [], [], a, _, _ => rfl
  | [], _ :: _, _, h, _ => by cases h
  | _ :: _, [], _, h, _ => by cases h
  | t :: ts, s :: ss, a, h, hs => by
    rw [List.zip_cons_cons]
    simp only [accZ, sizeP]
    cases e : kindOf n t with
    | none => rfl
    | some p =>
      obtain ⟨k, m⟩ := p
      simp only
      have hne : s ≠ "" := hs s List.mem_cons_self
      by_cases hk : k = s
      · rw [if_pos hk, if_pos (by simp [fitsS, hk]), accZ_eq (by simpa using h) (fun x hx => hs x (List.mem_cons_of_mem _ hx))]
        cases sizeP (kindOf n) ts ss with
        | none => rfl
        | some q => simp [Nat.add_assoc]
      · rw [if_neg hk, if_neg (by simp only [fitsS, decide_eq_true_eq]; rintro (z | z); exact hne z; exact hk z.symm)]
        rfl
def pairD (p : Dat × Str) : Dat := .tup [p.1, .str p.2]
theorem zips_zip : ∀ {ts : List Dat} {ss : List Str}, zips ts (ss.map Dat.str) = (ts.zip ss).map pairD
  | [], ss => by cases ss <;> simp [zips]
  | _ :: _, [] => by simp [zips]
  | t :: ts, s :: ss => by
    rw [List.map_cons, List.zip_cons_cons, List.map_cons, zips, zips_zip]
    rfl
def innerL (w : Str) (r : List Dat) : List Dat := if w = "times" then r.drop 1 else r
def okN (w : Str) (r : List Dat) : Bool := if w = "times" then fitsI (r.getD 0 .non) (-1000000) 1000000 else true
theorem shape_inner2 {w0 k0 : Str} {b : Option (Int × Int)} {ss : List Str} {r : List Dat} (hl : w0 ∉ leaf3) (hc : w0 ≠ "call") (hr : row w0 = some (k0, b, ss)) : shape (.tup (.str w0 :: r)) = if (innerL w0 r).length = ss.length ∧ okN w0 r = true then some (ss, innerL w0 r, k0) else none := by
  simp only [leaf3, List.mem_cons, List.not_mem_nil, or_false, not_or] at hl
  rw [shape_word hl.1 hc hr]
  obtain ⟨_, _, _, _, hb1, hb2⟩ := row_facts hr
  cases b with
  | none =>
    have ht : w0 ≠ "times" := fun z => hb1 rfl (by rw [z]; decide +kernel)
    unfold innerL okN
    rw [if_neg ht, if_neg ht]
    show (if r.length = ss.length then some r else none).map (fun ts => (ss, ts, k0)) = _
    by_cases h : r.length = ss.length
    · rw [if_pos h, if_pos ⟨h, rfl⟩]; rfl
    · rw [if_neg h, if_neg (fun z => h z.1)]; rfl
  | some p =>
    have ht : w0 = "times" := by
      obtain ⟨_, _, q, _⟩ := hb2 p.1 p.2 rfl
      simp only [List.mem_cons, List.not_mem_nil, or_false] at q
      rcases q with z | z | z
      · exact absurd z hl.2.1
      · exact absurd z hl.2.2
      · exact z
    subst ht
    have q : row "times" = some ((("num" : Str)), some (-1000000, 1000000), [("num" : Str)]) := by decide +kernel
    rw [q] at hr
    cases hr
    unfold innerL okN
    rw [if_pos rfl, if_pos rfl]
    cases r with
    | nil => rfl
    | cons x r' =>
      cases x with
      | int i =>
        show (if r'.length = 1 ∧ (-1000000 : Int) ≤ i ∧ i ≤ 1000000 then some r' else none).map (fun ts => (_, ts, _)) = if r'.length = 1 ∧ (decide ((-1000000 : Int) ≤ i) && decide (i ≤ 1000000)) = true then _ else none
        by_cases h1 : r'.length = 1 <;> by_cases h2 : (-1000000 : Int) ≤ i <;> by_cases h3 : i ≤ 1000000 <;> simp [h1, h2, h3]
      | _ =>
        rw [if_neg (fun z => Bool.false_ne_true z.2)]
        rfl
theorem leaf_kind {n : Nat} {w0 : Str} {r : List Dat} (hl : w0 ∈ leaf3) : kindOf (n + 1) (.tup (.str w0 :: r)) = (match shape (.tup (.str w0 :: r)) with
    | some (_, _, k) => some (k, 1)
    | none => none) := by
  cases hs : shape (.tup (.str w0 :: r)) with
  | none => exact noshape_kind hs
  | some p =>
    rcases shape_cases (d := .tup (.str w0 :: r)) (by rw [hs]; rfl) with ⟨nm, c, e0, hn, hc, e⟩ | ⟨nm, ts, c, e0, hn, hc, h1, h2, e⟩ | ⟨w1, r1, k0, b, ss, ts, e0, hn, hc, hr, hb, e⟩
    · unfold kindOf
      rw [e]
      rw [e] at hs
      cases hs
      rfl
    · cases e0
      exact absurd hl (by decide +kernel)
    · cases e0
      have hss : ss = [] := by
        obtain ⟨_, _, _, _, hb1, hb2⟩ := row_facts hr
        cases b with
        | none =>
          refine absurd ?_ (hb1 rfl)
          simp only [leaf3, List.mem_cons, List.not_mem_nil, or_false] at hl ⊢
          rcases hl with z | z | z
          · exact absurd z hn
          · exact .inl z
          · exact .inr (.inl z)
        | some q =>
          rcases (hb2 q.1 q.2 rfl).2.2.2 with z | z
          · rw [z] at hl; exact absurd hl (by decide +kernel)
          · exact z
      subst hss
      have hts : ts = [] := by
        cases b with
        | none => obtain ⟨rfl, q⟩ := behind_none hb; exact List.length_eq_zero_iff.mp q
        | some q => obtain ⟨_, _, q, _⟩ := behind_some hb; exact List.length_eq_zero_iff.mp q
      subst hts
      unfold kindOf
      rw [e]
      rw [e] at hs
      cases hs
      rfl
end K01
namespace K01
open PySem PySem.Spec PyProof.Rows L2 DL
section
variable {P : Program} {w : World} {K : PySem.W.Frag} {mg : Str → Option Value} {base : Heap} {f f2 : Addr} {fd fd2 : FuncData} {k : Nat}
abbrev s__law_term_kind : Stmt := topS 67
theorem sc__law_term_kind : FnScope ["odd", "deep", "kind", "row", "inner", "size", "part", "found"] ["odd", "deep"] (defScope s__law_term_kind) := ⟨rfl, rfl, rfl, by decide +kernel, rfl, by decide +kernel, by decide +kernel⟩
-- calls ['_law_leaf_kind', '_law_call_kind', '_law_kinds', '_law_fits', '_law_term_kind'] consts []
theorem ok_law_term_kind {n : Nat} (B : Bt mg) (F__law_leaf_kind : Callee P w K mg base "_law_leaf_kind" k ["odd"] c_law_leaf) (F__law_call_kind : Callee P w K mg base "_law_call_kind" k ["odd", "deep"] (c_law_call n)) (F__law_kinds : Callee P w K mg base "_law_kinds" k [] c_law_kinds)
    (F__law_fits : Callee P w K mg base "_law_fits" k ["odd", "low", "high"] c_law_fits) (F__law_term_kind : Callee P w K mg base "_law_term_kind" k ["odd", "deep"] (c_law_tk n)) (F : Fun K "_law_term_kind" "_law_term_kind" s__law_term_kind f fd) : FnOk P w K mg base CX0 (k + 1) f fd ["odd", "deep"] (spD K (c_law_tk (n + 1))) := by
  refine fn_pure F sc__law_term_kind (fun ds P X ⟨d, e, _⟩ => by rw [e]; rfl) fun cdv A outer s H S hS hr => ?_
  have nd := sc__law_term_kind.nd
  refine ⟨_, (db_cons (ds_ifc (dt_w (dw_or (dt_lt (de_var 1) de_int) (dw_or (dt_not (dt_val (de_isi (TT := "tuple") (he := (de_var 0)) (hm := B.isinstance) (hmT := B.tuple) (hv := by decide +kernel) (hn := by decide) (hd := by decide)))) (dw_or (dt_eqM hr.units (de_var 0) (de_tup da_nil)) (dw_or1 (dt_not (dt_val (de_isi (TT := "str") (he := (de_ix (de_var 0) de_int)) (hm := B.isinstance) (hmT := B.str) (hv := by decide +kernel) (hn := by decide) (hd := by decide))))))))) (db_one (ds_ret de_non)) db_nil) (db_cons (ds_ifc (dt_in (de_ix (de_var 0) de_int) (de_lst (da_cons de_str (da_cons de_str (da_cons de_str da_nil))))) (db_cons (ds_set 2 (de_fn F__law_leaf_kind hr (da_cons (de_var 0) da_nil) (by omega)) nd) (db_one (ds_ret (de_if (dt_isN (de_var 2)) de_non (de_tup (da_cons (de_var 2) (da_cons de_int da_nil))))))) db_nil) (db_cons (ds_ifc (dt_eq hr.units (de_ix (de_var 0) de_int) de_str) (db_one (ds_ret (de_fn F__law_call_kind hr (da_cons (de_var 0) (da_cons (de_var 1) da_nil)) (by omega)))) db_nil) (db_cons (ds_setc 3 (de_get1 (hu_of hr) (de_fn0 F__law_kinds hr (by omega)) (de_ix (de_var 0) de_int)) nd) (db_cons (ds_setc 4 (de_if (dt_eq hr.units (de_ix (de_var 0) de_int) de_str) (de_sl (de_var 0) (do_some de_int) do_none) (de_sl (de_var 0) (do_some de_int) do_none)) nd) (db_cons (ds_ifc (dt_w (dw_or (dt_isN (de_var 3)) (dw_or1 (dt_ne hr.units (de_len B.len (da_cons (de_var 4) da_nil)) (de_len B.len (da_cons (de_ix (de_var 3) de_int) da_nil)))))) (db_one (ds_ret de_non)) db_nil) (db_cons (ds_ifc (dt_w (dw_and (dt_eq hr.units (de_ix (de_var 0) de_int) de_str) (dw_and1 (dt_not (dt_val (de_fn F__law_fits hr (da_cons (de_ix (de_var 0) de_int) (da_cons (de_sub de_int (de_pow de_int de_int)) (da_cons (de_pow de_int de_int) da_nil))) (by omega))))))) (db_one (ds_ret de_non)) db_nil) (db_cons (ds_set 5 de_int nd) (db_cons (ds_forI PassesOwn.never rfl (di_zipTL B.zip (da_cons (de_var 4) (da_cons (de_ix (de_var 3) de_int) da_nil))) (dg_tup 2 rfl (dgs_cons (dg_name 6 nd) (dgs_cons (dg_name 2 nd) dgs_nil))) (db_cons (ds_set 7 (de_fn F__law_term_kind hr (da_cons (de_var 6) (da_cons (de_sub (de_var 1) de_int) da_nil)) (by omega)) nd) (db_cons (ds_ifc (dt_w (dw_or (dt_isN (de_var 7)) (dw_or1 (dt_ne hr.units (de_ix (de_var 7) de_int) (de_var 2))))) (db_one (ds_ret de_non)) db_nil) (db_one (ds_set 5 (de_add (de_var 5) (de_ix (de_var 7) de_int)) nd))))) (db_one (ds_ret (de_tup (da_cons (de_ix (de_var 3) de_int) (da_cons (de_var 5) da_nil)))))))))))))), ?_⟩
  rintro ds R X ⟨d, rfl, hok, h⟩
  replace h : R (kindD (kindOf (n + 1) d)) := h
  replace hok : LawOk d := hok
  have big := line_big
  refine ⟨(· = !wordD d), ?_, fun e => ?_, fun e => ?_⟩
  · ((try dsimp only); refine rd_here rfl ?_; (try dsimp only))
    rw [int0_int, isB_bl, if_neg (by simp; omega)]
    ((try dsimp only); refine rd_here rfl ?_; (try dsimp only))
    rw [isB_bl, isi_tuple]
    cases d with
    | tup r =>
      have hlay : Lay (.tup r) := by
        rcases hok.2 with ⟨_, _, e⟩ | e
        · cases e
        · exact e
      rw [if_neg (by simp [isTup])]
      ((try dsimp only); refine rd_here rfl ?_; (try dsimp only))
      refine ⟨Nat.zero_le _, eqM_nil hlay ?_⟩
      rw [isB_bl]
      cases r with
      | nil => rfl
      | cons x r =>
        rw [if_neg (by simp)]
        ((try dsimp only); refine rd_here rfl ?_; (try dsimp only))
        rw [ixD_tup, at0, someD_some, isB_bl, isi_str]
        cases x <;> rfl
    | _ => rfl
  · rw [noshape_kind (noword_shape (not_t e))] at h
    exact h
  obtain ⟨w0, r, rfl⟩ := wordD_eq (not_f e)
  have hin := lawOk_in hok
  refine ⟨(· = decide (w0 ∈ leaf3)), ?_, fun e => ?_, fun e => ?_⟩
  · ((try dsimp only); refine rd_here rfl ?_; (try dsimp only))
    rw [ixD_tup, at0, someD_some]
    refine ⟨show 3 ≤ sizeLine by decide, ?_⟩
    exact rfl
  · have hl := of_decide_eq_true (Eq.symm e)
    ((try dsimp only); refine rd_here rfl ?_; (try dsimp only))
    refine con1_C.mpr ⟨⟨w0, r, rfl, hl, hok⟩, ?_⟩
    rw [leaf_kind hl] at h
    ((try dsimp only); refine rd_here rfl ?_; (try dsimp only))
    unfold kindS
    cases hs : shape (.tup (.str w0 :: r)) with
    | none =>
      rw [hs] at h
      exact h
    | some p =>
      obtain ⟨ss, ts, k0⟩ := p
      rw [hs] at h
      show if false = true then _ else _
      rw [if_neg (by decide)]
      ((try dsimp only); refine rd_here rfl ?_; (try dsimp only))
      exact ⟨show 2 ≤ sizeLine by decide, h⟩
  have hl := of_decide_eq_false (Eq.symm e)
  refine ⟨(· = decide (w0 = "call")), ?_, fun e => ?_, fun e => ?_⟩
  · ((try dsimp only); refine rd_here rfl ?_; (try dsimp only))
    rw [ixD_tup, at0, someD_some]
    exact rfl
  · obtain rfl := of_decide_eq_true (Eq.symm e)
    ((try dsimp only); refine rd_here rfl ?_; (try dsimp only))
    ((try dsimp only); refine rd_here rfl ?_; (try dsimp only))
    exact conE_use (args := fun r : List Dat => [.tup (.str "call" :: r), .int ((n + 1 : Nat) : Int)]) r hok h
  have hc := of_decide_eq_false (Eq.symm e)
  refine ⟨(· = rowK w0), ?_, ?_⟩
  · refine ⟨rfl, ?_⟩
    show dicD (.dic (kTab.map (·.1)) (kTab.map (·.2))) _
    unfold dicD
    ((try dsimp only); refine rd_here rfl ?_; (try dsimp only))
    rw [ixD_tup, at0, someD_some, isS_str]
    exact rowK_eq hl
  rintro _ rfl
  refine ⟨(· = .tup (innerL w0 r)), ?_, ?_⟩
  · ((try dsimp only); refine rd_here rfl ?_; (try dsimp only))
    rw [ixD_tup, at0, someD_some, eqD_str, isB_bl]
    unfold innerL
    by_cases ht : w0 = "times"
    · rw [if_pos (decide_eq_true ht), if_pos ht]
      ((try dsimp only); refine rd_here rfl ?_; (try dsimp only))
      rw [isI_int, slD_tup]
      show Dat.tup (cutG (.str w0 :: r) (some ((2 : Nat) : Int)) none) = _
      rw [cut_from]
      rfl
    · rw [if_neg (by simp [ht]), if_neg ht]
      ((try dsimp only); refine rd_here rfl ?_; (try dsimp only))
      rw [isI_int, slD_tup, cut1']
  rintro _ rfl
  cases hr : row w0 with
  | none =>
    have er : rowK w0 = .non := by unfold rowK; rw [hr]
    rw [er]
    have hn : w0 ≠ "name" := fun z => hl (by rw [z]; decide +kernel)
    rw [noshape_kind (shape_noword hn hc hr)] at h
    refine ⟨(· = true), ?_, fun _ => h, (fun e => nomatch e)⟩
    ((try dsimp only); refine rd_here rfl ?_; (try dsimp only))
    show if true = true then _ else _
    rw [if_pos rfl]
  | some p =>
    obtain ⟨k0, b, ss⟩ := p
    have er : rowK w0 = kD k0 ss := by unfold rowK; rw [hr]
    rw [er]
    have hsh := shape_inner2 (r := r) hl hc hr
    obtain ⟨_, _, _, hss, _, _⟩ := row_facts hr
    have hne : ∀ s ∈ ss, s ≠ "" := fun s hs z => by
      have := hss s hs
      rw [z] at this
      exact absurd this (by decide +kernel)
    refine ⟨(· = !decide ((innerL w0 r).length = ss.length)), ?_, fun e => ?_, fun e => ?_⟩
    · ((try dsimp only); refine rd_here rfl ?_; (try dsimp only))
      show if false = true then _ else _
      rw [if_neg (by decide)]
      ((try dsimp only); refine rd_here rfl ?_; (try dsimp only))
      rw [lenD_tup]
      ((try dsimp only); refine rd_here rfl ?_; (try dsimp only))
      show ixD (.tup [.str k0, .lst (ss.map Dat.str)]) (.int 1) _
      rw [ixD_tup, at1, someD_some, lenD_lst, neD_int, isB_bl, List.length_map]
      exact congrArg (! ·) (decide_eq_decide.mpr (by omega))
    · have hlen := of_decide_eq_false (not_t e)
      rw [if_neg (fun z => hlen z.1)] at hsh
      rw [noshape_kind hsh] at h
      exact h
    have hlen := of_decide_eq_true (not_f e)
    refine ⟨(· = !okN w0 r), ?_, fun e => ?_, fun e => ?_⟩
    · ((try dsimp only); refine rd_here rfl ?_; (try dsimp only))
      rw [ixD_tup, at0, someD_some, eqD_str, isB_bl]
      unfold okN
      by_cases ht : w0 = "times"
      · rw [if_pos (decide_eq_true ht), if_pos ht]
        ((try dsimp only); refine rd_here rfl ?_; (try dsimp only))
        obtain ⟨x, r', rfl⟩ : ∃ x r', r = x :: r' := by
          cases r with
          | nil =>
            subst ht
            have q : row "times" = some ((("num" : Str)), some (-1000000, 1000000), [("num" : Str)]) := by decide +kernel
            rw [q] at hr
            cases hr
            cases hlen
          | cons x r' => exact ⟨x, r', rfl⟩
        rw [ixD_tup, at1, someD_some]
        refine ⟨⟨by decide, by decide, by decide⟩, ⟨by decide, by decide, by decide⟩, ?_⟩
        refine fits_use ?_
        rw [isB_bl]
        show (!fitsI x (0 - 10 ^ (6 : Int).toNat) (10 ^ (6 : Int).toNat)) = !fitsI x (-1000000) 1000000
        rw [million, show (0 - 1000000 : Int) = -1000000 by decide]
      · rw [if_neg (by simp [ht]), if_neg ht]
        rfl
    · have hno := not_t e
      rw [if_neg (fun z => by rw [hno] at z; exact Bool.false_ne_true z.2)] at hsh
      rw [noshape_kind hsh] at h
      exact h
    have hno := not_f e
    rw [if_pos ⟨hlen, hno⟩] at hsh
    have ek : kindOf (n + 1) (.tup (.str w0 :: r)) = (accZ n 1 ((innerL w0 r).zip ss)).map fun m => (k0, m) := by
      rw [accZ_eq hlen hne]
      unfold kindOf
      rw [hsh]
      show (sizeP (kindOf n) (innerL w0 r) ss).map (fun m => (k0, m + 1)) = _
      cases hx : sizeP (kindOf n) (innerL w0 r) ss with
      | none => rfl
      | some m => simp [Nat.add_comm]
    rw [ek] at h
    have hio : ∀ d ∈ innerL w0 r, LawOk d := fun d hd => by
      unfold innerL at hd
      split at hd
      · exact hin d (List.mem_cons_of_mem _ (List.mem_of_mem_drop hd))
      · exact hin d (List.mem_cons_of_mem _ hd)
    try dsimp only
    refine ⟨fun items ρ => ∃ (s : Nat) (prs : List (Dat × Str)) (a b c : DL.Slot), items = prs.map pairD ∧ (∀ p ∈ prs, LawOk p.1) ∧ accZ n s prs = accZ n 1 ((innerL w0 r).zip ss) ∧ ρ = [.d (.tup (.str w0 :: r)), .d (.int ((n + 1 : Nat) : Int)), a, .d (kD k0 ss), .d (.tup (innerL w0 r)), .d (.int (s : Nat)), b, c], ?_, ?_, ?_⟩
    · ((try dsimp only); refine rd_here rfl ?_; (try dsimp only))
      ((try dsimp only); refine rd_here rfl ?_; (try dsimp only))
      show ixD (.tup [.str k0, .lst (ss.map Dat.str)]) (.int 1) _
      rw [ixD_tup, at1, someD_some]
      refine ⟨1, (innerL w0 r).zip ss, _, _, _, zips_zip, fun p hp => hio p.1 (List.of_mem_zip hp).1, rfl, rfl⟩
    · rintro ρ ⟨s, prs, a, b, c, e1, _, e2, rfl⟩
      have hp : prs = [] := by
        cases prs with
        | nil => rfl
        | cons x r => cases e1
      subst hp
      rw [← e2] at h
      ((try dsimp only); refine rd_here rfl ?_; (try dsimp only))
      show ixD (.tup [.str k0, .lst (ss.map Dat.str)]) (.int 0) _
      rw [ixD_tup, at0, someD_some]
      ((try dsimp only); refine rd_here rfl ?_; (try dsimp only))
      exact ⟨show 2 ≤ sizeLine by decide, h⟩
    · rintro d ds ρ ⟨s, prs, a, b, c, e1, ho, e2, rfl⟩
      cases prs with
      | nil => cases e1
      | cons p prs =>
        cases e1
        obtain ⟨t, sk⟩ := p
        refine ⟨rfl, rfl, ?_⟩
        ((try dsimp only); refine rd_here rfl ?_; (try dsimp only))
        ((try dsimp only); refine rd_here rfl ?_; (try dsimp only))
        rw [int0_int]
        refine tk_use (by omega) (ho (t, sk) List.mem_cons_self) ?_
        cases e3 : kindOf n t with
        | none =>
          refine ⟨(· = true), ?_, fun _ => ?_, (fun e => nomatch e)⟩
          · ((try dsimp only); refine rd_here rfl ?_; (try dsimp only))
            rfl
          · simp only [accZ, e3] at e2
            rw [← e2] at h
            exact h
        | some q =>
          obtain ⟨kk, m⟩ := q
          refine ⟨(· = !decide (kk = sk)), ?_, fun e => ?_, fun e => ?_⟩
          · ((try dsimp only); refine rd_here rfl ?_; (try dsimp only))
            show if false = true then _ else _
            rw [if_neg (by decide)]
            ((try dsimp only); refine rd_here rfl ?_; (try dsimp only))
            show ixD (.tup [.str kk, .int (m : Nat)]) (.int 0) _
            rw [ixD_tup, at0, someD_some]
            ((try dsimp only); refine rd_here rfl ?_; (try dsimp only))
            rfl
          · have hk := of_decide_eq_false (not_t e)
            simp only [accZ, e3] at e2
            rw [if_neg hk] at e2
            rw [← e2] at h
            exact h
          · have hk := of_decide_eq_true (not_f e)
            simp only [accZ, e3] at e2
            rw [if_pos hk] at e2
            ((try dsimp only); refine rd_here rfl ?_; (try dsimp only))
            ((try dsimp only); refine rd_here rfl ?_; (try dsimp only))
            show ixD (.tup [.str kk, .int (m : Nat)]) (.int 1) _
            rw [ixD_tup, at1, someD_some, addD_int]
            refine ⟨s + m, prs, .d (.str sk), .d t, .d (kindD (some (kk, m))), rfl, fun x hx => ho x (List.mem_cons_of_mem _ hx), e2, ?_⟩
            rw [show ((s : Nat) : Int) + ((m : Nat) : Int) = ((s + m : Nat) : Int) by omega]
            rfl
end
end K01
namespace K01
open PySem PySem.Spec PyProof.Rows L2 DL
section
variable {P : Program} {w : World} {K : PySem.W.Frag} {mg : Str → Option Value} {base : Heap} {f f2 : Addr} {fd fd2 : FuncData} {k : Nat}
abbrev s__law_is_term : Stmt := topS 68
theorem sc__law_is_term : FnScope ["odd", "found"] ["odd"] (defScope s__law_is_term) := ⟨rfl, rfl, rfl, by decide +kernel, rfl, by decide +kernel, by decide +kernel⟩
-- calls ['_law_term_kind'] consts []
def c_law_is_term : Con := con1 LawOk fun d => .bl (isTerm d)
theorem ok_law_is_term (F__law_term_kind : Callee P w K mg base "_law_term_kind" k ["odd", "deep"] (c_law_tk 6)) (F : Fun K "_law_is_term" "_law_is_term" s__law_is_term f fd) : FnOk P w K mg base CX0 (k + 1) f fd ["odd"] (spD K c_law_is_term) := by
  refine fn_pure F sc__law_is_term (fun ds P X ⟨d, e, _⟩ => by rw [e]; rfl) fun cdv A outer s H S hS hr => ?_
  have nd := sc__law_is_term.nd
  refine ⟨_, (db_cons (ds_set 1 (de_fn F__law_term_kind hr (da_cons (de_var 0) (da_cons de_int da_nil)) (by omega)) nd) (db_one (ds_ret (de_and (de_notN (de_var 1)) (de_one (de_le (de_ix (de_var 1) de_int) de_int)))))), ?_⟩
  rintro ds R X ⟨d, rfl, hok, h⟩
  replace h : R (.bl (isTerm d)) := h
  ((try dsimp only); refine rd_here rfl ?_; (try dsimp only))
  refine tk_use rfl hok ?_
  ((try dsimp only); refine rd_here rfl ?_; (try dsimp only))
  have e6 : cap 6 = 6 := rfl
  cases e : kindOf 6 d with
  | none =>
    have et : isTerm d = false := by unfold isTerm tsz; rw [e6, e]; rfl
    rw [et] at h
    exact h
  | some p =>
    obtain ⟨kk, m⟩ := p
    have et : isTerm d = decide (m ≤ 40) := by
      unfold isTerm tsz
      rw [e6, e]
      show (if fitsS "" kk = true ∧ ((m : Nat) : Int) ≤ min 40 40 then some m else none).isSome = _
      by_cases hm : m ≤ 40
      · rw [if_pos ⟨by simp [fitsS], by omega⟩, decide_eq_true hm]; rfl
      · rw [if_neg (by omega), decide_eq_false hm]; rfl
    rw [et] at h
    rw [isB_bl, show isN (kindD (some (kk, m))) = false from rfl, if_pos (by rfl)]
    ((try dsimp only); refine rd_here rfl ?_; (try dsimp only))
    show ixD (.tup [.str kk, .int (m : Nat)]) (.int 1) _
    rw [ixD_tup, at1, someD_some, int0_int]
    rw [show decide (((m : Nat) : Int) ≤ 40) = decide (m ≤ 40) from decide_eq_decide.mpr (by omega)]
    exact h
end
end K01
namespace K01
open PySem PySem.Spec PyProof.Rows L2 DL
/-- built of nothing -/
def conK (d : Dat) : Con := ⟨fun ds P _ => ds = [] ∧ P d, fun _ _ _ _ _ h m _ => ⟨h.1, m _ h.2⟩⟩
def T (w : Str) (r : List Dat) : Dat := .tup (.str w :: r)
def N (n c : Str) : Dat := T "name" [.str n, .str c]
def leavesL : List Dat := [N "x" "num", N "" "num", N "abcdef" "num", N "abcdefg" "num", N "x" "nums", N "X" "num", T "name" [.str "x"], T "number" [.int 1000000], T "number" [], T "number" [.int 1000001], T "number" [.int (-1000000)], T "number" [.int (-1000001)], T "number" [.bl true],
  T "bits" [.int 0], T "bits" [.int 15], T "bits" [.int 16], T "bits" [.int (-1)], T "bits" [.bl false], T "none" [], T "bits" [.int 1, .int 1], T "name" [.str "x", .str "num", .int 1], T "number" [.int 1, .int 1], T "number" [.str "1"], T "name" [.int 1, .str "num"], T "name" [.str "x", .non]]
section
variable {P : Program} {w : World} {K : PySem.W.Frag} {mg : Str → Option Value} {base : Heap} {f f2 : Addr} {fd fd2 : FuncData} {k : Nat}
abbrev s__law_leaves : Stmt := topS 73
theorem sc__law_leaves : FnScope ["found"] [] (defScope s__law_leaves) := ⟨rfl, rfl, rfl, by decide +kernel, rfl, by decide +kernel, by decide +kernel⟩
-- calls [] consts []
theorem ok_law_leaves (F : Fun K "_law_leaves" "_law_leaves" s__law_leaves f fd) : FnOk P w K mg base CX0 (k + 1) f fd [] (spD K (conK (.lst leavesL))) := by
  refine fn_pure F sc__law_leaves (fun ds P X ⟨e, _⟩ => by rw [e]; rfl) fun cdv A outer s H S hS hr => ?_
  have nd := sc__law_leaves.nd
  refine ⟨_, (db_cons (ds_set 0 (de_lst (da_cons (de_tup (da_cons de_str (da_cons de_str (da_cons de_str da_nil)))) (da_cons (de_tup (da_cons de_str (da_cons de_str (da_cons de_str da_nil)))) (da_cons (de_tup (da_cons de_str (da_cons de_str (da_cons de_str da_nil)))) (da_cons (de_tup (da_cons de_str (da_cons de_str (da_cons de_str da_nil)))) da_nil))))) nd) (db_cons (ds_set 0 (de_add (de_var 0) (de_lst (da_cons (de_tup (da_cons de_str (da_cons de_str (da_cons de_str da_nil)))) (da_cons (de_tup (da_cons de_str (da_cons de_str (da_cons de_str da_nil)))) (da_cons (de_tup (da_cons de_str (da_cons de_str da_nil))) (da_cons (de_tup (da_cons de_str (da_cons (de_pow de_int de_int) da_nil))) (da_cons (de_tup (da_cons de_str da_nil)) da_nil))))))) nd) (db_cons (ds_set 0 (de_add (de_var 0) (de_lst (da_cons (de_tup (da_cons de_str (da_cons (de_add (de_pow de_int de_int) de_int) da_nil))) (da_cons (de_tup (da_cons de_str (da_cons (de_neg (de_pow de_int de_int)) da_nil))) (da_cons (de_tup (da_cons de_str (da_cons (de_sub (de_neg (de_pow de_int de_int)) de_int) da_nil))) (da_cons (de_tup (da_cons de_str (da_cons de_bl da_nil))) da_nil)))))) nd) (db_cons (ds_set 0 (de_add (de_var 0) (de_lst (da_cons (de_tup (da_cons de_str (da_cons de_int da_nil))) (da_cons (de_tup (da_cons de_str (da_cons de_int da_nil))) (da_cons (de_tup (da_cons de_str (da_cons de_int da_nil))) (da_cons (de_tup (da_cons de_str (da_cons (de_neg de_int) da_nil))) (da_cons (de_tup (da_cons de_str (da_cons de_bl da_nil))) (da_cons (de_tup (da_cons de_str da_nil)) (da_cons (de_tup (da_cons de_str (da_cons de_int (da_cons de_int da_nil)))) da_nil))))))))) nd) (db_cons (ds_set 0 (de_add (de_var 0) (de_lst (da_cons (de_tup (da_cons de_str (da_cons de_str (da_cons de_str (da_cons de_int da_nil))))) (da_cons (de_tup (da_cons de_str (da_cons de_int (da_cons de_int da_nil)))) (da_cons (de_tup (da_cons de_str (da_cons de_str da_nil))) (da_cons (de_tup (da_cons de_str (da_cons de_int (da_cons de_str da_nil)))) da_nil)))))) nd) (db_one (ds_ret (de_add (de_var 0) (de_lst (da_cons (de_tup (da_cons de_str (da_cons de_str (da_cons de_non da_nil)))) da_nil)))))))))), ?_⟩
  rintro ds R X ⟨rfl, h⟩
  repeat (first | refine And.intro (by decide) ?_ | refine And.intro (show CPow _ _ from ⟨by decide, by decide, by decide⟩) ?_ | refine rd_here rfl ?_ | rw [addD_lst] | rw [addD_int] | rw [int0_int] | dsimp only [negD])
  exact h
end
end K01
namespace K01
open PySem PySem.Spec PyProof.Rows L2 DL
def xD : Dat := N "x" "num"
def tD : Dat := N "t" "tree"
def sD : Dat := N "s" "set"
def bD : Dat := N "b" "bits"
def callD (n : Str) (ts : List Dat) (c : Str) : Dat := T "call" [.str n, .tup ts, .str c]
def deepN : Nat → Dat
  | 0 => xD
  | k + 1 => T "plus" [deepN k, T "number" [.int (k : Nat)]]
def wide1 : Dat := callD "f" [xD, xD, xD] "num"
def wide2 : Dat := callD "f" [wide1, wide1, wide1] "num"
def fullD : Dat := callD "g" [wide2, wide2, wide2] "num"
def edges1 : List Dat := [tD, sD, bD, T "none" [sD], T "one" [xD], T "one" [sD], T "union" [sD, sD], T "union" [sD, xD], T "both" [sD], T "tip" [xD], T "tip" [tD], T "node" [tD, tD], T "node" [tD], T "node" [tD, tD, tD], T "bnot" [bD], T "bnot" [bD, bD],
  T "times" [.int 3, xD], T "times" [xD, .int 3], T "times" [.bl true, xD], T "times" [.int 1000001, xD], T "times" [.int 3], callD "f" [xD] "num", callD "f" [] "num", callD "f" [xD, tD, sD] "tree", callD "f" [xD, tD, sD, bD] "tree", T "call" [.str "f", .lst [xD], .str "num"], callD "f" [xD] "what",
  T "plus" [], T "plus" [xD], T "plus" [xD, xD, xD], T "plus" [.lst [xD, xD]], T "without" [sD, sD], T "band" [bD, xD]]
def edgesL : List Dat := edges1 ++ [deepN 0, deepN 1, deepN 2, deepN 3, deepN 4, deepN 5, deepN 6] ++ [T "plus" [wide2, wide2], callD "g" [wide2, wide2, wide2] "num", T "times" [.int 2, fullD], T "plus" [fullD, xD], callD "f" [fullD, fullD] "num", callD "g" [wide2, wide2, wide1] "num", deepN 7]
section
variable {P : Program} {w : World} {K : PySem.W.Frag} {mg : Str → Option Value} {base : Heap} {f f2 : Addr} {fd fd2 : FuncData} {k : Nat}
abbrev s__law_edges : Stmt := topS 74
theorem sc__law_edges : FnScope ["x", "t", "s", "b", "found", "deep", "k", "wide", "full_one"] [] (defScope s__law_edges) := ⟨rfl, rfl, rfl, by decide +kernel, rfl, by decide +kernel, by decide +kernel⟩
-- calls [] consts []
theorem ok_law_edges (B : Bt mg) (F : Fun K "_law_edges" "_law_edges" s__law_edges f fd) : FnOk P w K mg base CX0 (k + 1) f fd [] (spD K (conK (.lst edgesL))) := by
  refine fn_pure F sc__law_edges (fun ds P X ⟨e, _⟩ => by rw [e]; rfl) fun cdv A outer s H S hS hr => ?_
  have nd := sc__law_edges.nd
  refine ⟨_, (db_cons (ds_asg (de_tup (da_cons (de_tup (da_cons de_str (da_cons de_str (da_cons de_str da_nil)))) (da_cons (de_tup (da_cons de_str (da_cons de_str (da_cons de_str da_nil)))) (da_cons (de_tup (da_cons de_str (da_cons de_str (da_cons de_str da_nil)))) (da_cons (de_tup (da_cons de_str (da_cons de_str (da_cons de_str da_nil)))) da_nil))))) (dg_tup 4 rfl (dgs_cons (dg_name 0 nd) (dgs_cons (dg_name 1 nd) (dgs_cons (dg_name 2 nd) (dgs_cons (dg_name 3 nd) dgs_nil)))))) (db_cons (ds_set 4 (de_lst (da_cons (de_var 1) (da_cons (de_var 2) (da_cons (de_var 3) (da_cons (de_tup (da_cons de_str (da_cons (de_var 2) da_nil))) (da_cons (de_tup (da_cons de_str (da_cons (de_var 0) da_nil))) (da_cons (de_tup (da_cons de_str (da_cons (de_var 2) da_nil))) (da_cons (de_tup (da_cons de_str (da_cons (de_var 2) (da_cons (de_var 2) da_nil)))) (da_cons (de_tup (da_cons de_str (da_cons (de_var 2) (da_cons (de_var 0) da_nil)))) (da_cons (de_tup (da_cons de_str (da_cons (de_var 2) da_nil))) (da_cons (de_tup (da_cons de_str (da_cons (de_var 0) da_nil))) da_nil))))))))))) nd) (db_cons (ds_set 4 (de_add (de_var 4) (de_lst (da_cons (de_tup (da_cons de_str (da_cons (de_var 1) da_nil))) (da_cons (de_tup (da_cons de_str (da_cons (de_var 1) (da_cons (de_var 1) da_nil)))) (da_cons (de_tup (da_cons de_str (da_cons (de_var 1) da_nil))) (da_cons (de_tup (da_cons de_str (da_cons (de_var 1) (da_cons (de_var 1) (da_cons (de_var 1) da_nil))))) (da_cons (de_tup (da_cons de_str (da_cons (de_var 3) da_nil))) (da_cons (de_tup (da_cons de_str (da_cons (de_var 3) (da_cons (de_var 3) da_nil)))) da_nil)))))))) nd) (db_cons (ds_set 4 (de_add (de_var 4) (de_lst (da_cons (de_tup (da_cons de_str (da_cons de_int (da_cons (de_var 0) da_nil)))) (da_cons (de_tup (da_cons de_str (da_cons (de_var 0) (da_cons de_int da_nil)))) (da_cons (de_tup (da_cons de_str (da_cons de_bl (da_cons (de_var 0) da_nil)))) (da_cons (de_tup (da_cons de_str (da_cons (de_add (de_pow de_int de_int) de_int) (da_cons (de_var 0) da_nil)))) (da_cons (de_tup (da_cons de_str (da_cons de_int da_nil))) da_nil))))))) nd) (db_cons (ds_set 4 (de_add (de_var 4) (de_lst (da_cons (de_tup (da_cons de_str (da_cons de_str (da_cons (de_tup (da_cons (de_var 0) da_nil)) (da_cons de_str da_nil))))) (da_cons (de_tup (da_cons de_str (da_cons de_str (da_cons (de_tup da_nil) (da_cons de_str da_nil))))) (da_cons (de_tup (da_cons de_str (da_cons de_str (da_cons (de_tup (da_cons (de_var 0) (da_cons (de_var 1) (da_cons (de_var 2) da_nil)))) (da_cons de_str da_nil))))) da_nil))))) nd) (db_cons (ds_set 4 (de_add (de_var 4) (de_lst (da_cons (de_tup (da_cons de_str (da_cons de_str (da_cons (de_tup (da_cons (de_var 0) (da_cons (de_var 1) (da_cons (de_var 2) (da_cons (de_var 3) da_nil))))) (da_cons de_str da_nil))))) (da_cons (de_tup (da_cons de_str (da_cons de_str (da_cons (de_lst (da_cons (de_var 0) da_nil)) (da_cons de_str da_nil))))) (da_cons (de_tup (da_cons de_str (da_cons de_str (da_cons (de_tup (da_cons (de_var 0) da_nil)) (da_cons de_str da_nil))))) da_nil))))) nd) (db_cons (ds_setCat 4 (de_var 4) (de_lst (da_cons (de_tup (da_cons de_str da_nil)) (da_cons (de_tup (da_cons de_str (da_cons (de_var 0) da_nil))) (da_cons (de_tup (da_cons de_str (da_cons (de_var 0) (da_cons (de_var 0) (da_cons (de_var 0) da_nil))))) (da_cons (de_tup (da_cons de_str (da_cons (de_lst (da_cons (de_var 0) (da_cons (de_var 0) da_nil))) da_nil))) (da_cons (de_tup (da_cons de_str (da_cons (de_var 2) (da_cons (de_var 2) da_nil)))) (da_cons (de_tup (da_cons de_str (da_cons (de_var 3) (da_cons (de_var 0) da_nil)))) da_nil))))))) nd) (db_cons (ds_set 5 (de_var 0) nd) (db_cons (ds_for PassesOwn.never rfl (di_range1 B.range (da_cons de_int da_nil)) (dg_name 6 nd) (db_cons (ds_append 4 (he := (de_var 5))) (db_one (ds_set 5 (de_tup (da_cons de_str (da_cons (de_var 5) (da_cons (de_tup (da_cons de_str (da_cons (de_var 6) da_nil))) da_nil)))) nd)))) (db_cons (ds_set 7 (de_tup (da_cons de_str (da_cons de_str (da_cons (de_tup (da_cons (de_var 0) (da_cons (de_var 0) (da_cons (de_var 0) da_nil)))) (da_cons de_str da_nil))))) nd) (db_cons (ds_set 7 (de_tup (da_cons de_str (da_cons de_str (da_cons (de_tup (da_cons (de_var 7) (da_cons (de_var 7) (da_cons (de_var 7) da_nil)))) (da_cons de_str da_nil))))) nd) (db_cons (ds_freeze (ds_set 4 (de_add (de_var 4) (de_lst (da_cons (de_tup (da_cons de_str (da_cons (de_var 7) (da_cons (de_var 7) da_nil)))) (da_cons (de_tup (da_cons de_str (da_cons de_str (da_cons (de_tup (da_cons (de_var 7) (da_cons (de_var 7) (da_cons (de_var 7) da_nil)))) (da_cons de_str da_nil))))) da_nil)))) nd)) (db_cons (ds_set 8 (de_tup (da_cons de_str (da_cons de_str (da_cons (de_tup (da_cons (de_var 7) (da_cons (de_var 7) (da_cons (de_var 7) da_nil)))) (da_cons de_str da_nil))))) nd) (db_cons (ds_set 4 (de_add (de_var 4) (de_lst (da_cons (de_tup (da_cons de_str (da_cons de_int (da_cons (de_var 8) da_nil)))) (da_cons (de_tup (da_cons de_str (da_cons (de_var 8) (da_cons (de_var 0) da_nil)))) (da_cons (de_tup (da_cons de_str (da_cons de_str (da_cons (de_tup (da_cons (de_var 8) (da_cons (de_var 8) da_nil))) (da_cons de_str da_nil))))) da_nil))))) nd) (db_one (ds_ret (de_add (de_var 4) (de_lst (da_cons (de_tup (da_cons de_str (da_cons de_str (da_cons (de_tup (da_cons (de_var 7) (da_cons (de_var 7) (da_cons (de_tup (da_cons de_str (da_cons de_str (da_cons (de_tup (da_cons (de_var 0) (da_cons (de_var 0) (da_cons (de_var 0) da_nil)))) (da_cons de_str da_nil))))) da_nil)))) (da_cons de_str da_nil))))) (da_cons (de_var 5) da_nil)))))))))))))))))))), ?_⟩
  rintro ds R X ⟨rfl, h⟩
  repeat (first | refine And.intro (by decide) ?_ | refine And.intro (show CPow _ _ from ⟨by decide, by decide, by decide⟩) ?_ | refine rd_here rfl ?_ | rw [addD_lst] | rw [addD_int] | rw [int0_int] | dsimp only [negD])
  exact h
end
end K01
namespace K01
open PySem PySem.Spec PyProof.Rows L2 DL
def nest (f : Dat → Dat) (d : Dat) : Nat → Dat
  | 0 => d
  | n + 1 => f (nest f d n)
def farL : List Dat := [nest (fun d => .tup [d]) (.int 1) 3000, nest (fun d => .tup [d, d]) (.tup [.int 1, .int 1]) 60, .tup (List.replicate 5000 [Dat.int 1]).flatten, .str (strRep "a" 5000), .lst [.str "a"], .dic [] [], .non, .bl true, .int 5, .int (10 ^ 30)]
section
variable {P : Program} {w : World} {K : PySem.W.Frag} {mg : Str → Option Value} {base : Heap} {f f2 : Addr} {fd fd2 : FuncData} {k : Nat}
abbrev s__law_far : Stmt := topS 60
theorem sc__law_far : FnScope ["deep", "twice", "bout"] [] (defScope s__law_far) := ⟨rfl, rfl, rfl, by decide +kernel, rfl, by decide +kernel, by decide +kernel⟩
-- calls [] consts []
theorem ok_law_far (B : Bt mg) (F : Fun K "_law_far" "_law_far" s__law_far f fd) : FnOk P w K mg base CX0 (k + 1) f fd [] (spD K (conK (.lst farL))) := by
  refine fn_pure F sc__law_far (fun ds P X ⟨e, _⟩ => by rw [e]; rfl) fun cdv A outer s H S hS hr => ?_
  have nd := sc__law_far.nd
  refine ⟨_, (db_cons (ds_asg (de_tup (da_cons de_int (da_cons (de_tup (da_cons de_int (da_cons de_int da_nil))) da_nil))) (dg_tup 2 rfl (dgs_cons (dg_name 0 nd) (dgs_cons (dg_name 1 nd) dgs_nil)))) (db_cons (ds_forI PassesOwn.never rfl (di_range1 B.range (da_cons de_int da_nil)) (dg_name 2 nd) (db_one (ds_set 0 (de_tup (da_cons (de_var 0) da_nil)) nd))) (db_cons (ds_forI PassesOwn.never rfl (di_range1 B.range (da_cons de_int da_nil)) (dg_name 2 nd) (db_one (ds_set 1 (de_tup (da_cons (de_var 1) (da_cons (de_var 1) da_nil))) nd))) (db_one (ds_ret (de_lst (da_cons (de_var 0) (da_cons (de_var 1) (da_cons (de_repB (de_tup (da_cons de_int da_nil)) de_int) (da_cons (de_repB de_str de_int) (da_cons (de_lst (da_cons de_str da_nil)) (da_cons de_dnew (da_cons de_non (da_cons de_bl (da_cons de_int (da_cons (de_pow de_int de_int) da_nil)))))))))))))))), ?_⟩
  rintro ds R X ⟨rfl, h⟩
  refine ⟨by decide, by decide, rfl, rfl, ?_⟩
  dsimp only
  refine ⟨fun items ρ => ∃ (done : Nat) (a : DL.Slot), done + items.length = 3000 ∧ ρ = [.d (nest (fun d => .tup [d]) (.int 1) done), .d (.tup [.int 1, .int 1]), a], ?_, ?_, ?_⟩
  · refine ⟨by decide, 0, _, ?_, rfl⟩
    simp [rints]
  · rintro ρ ⟨done, a, e, rfl⟩
    have e' : done = 3000 := e
    subst e'
    refine ⟨fun items ρ => ∃ (done : Nat) (a : DL.Slot), done + items.length = 60 ∧ ρ = [.d (nest (fun d => .tup [d]) (.int 1) 3000), .d (nest (fun d => .tup [d, d]) (.tup [.int 1, .int 1]) done), a], ?_, ?_, ?_⟩
    · refine ⟨by decide, 0, _, ?_, rfl⟩
      simp [rints]
    · rintro ρ ⟨done, b, e, rfl⟩
      have e' : done = 60 := e
      subst e'
      ((try dsimp only); refine rd_here rfl ?_; (try dsimp only))
      ((try dsimp only); refine rd_here rfl ?_; (try dsimp only))
      refine ⟨by decide, by simp, by decide, by decide, by decide +kernel, by decide, by decide, by decide, ⟨by decide, by decide, by decide⟩, show 10 ≤ sizeLine by decide, ?_⟩
      exact h
    · rintro d ds ρ ⟨done, b, e, rfl⟩
      ((try dsimp only); refine rd_here rfl ?_; (try dsimp only))
      ((try dsimp only); refine rd_here rfl ?_; (try dsimp only))
      refine ⟨show 2 ≤ sizeLine by decide, done + 1, .d d, ?_, rfl⟩
      simp at e ⊢
      omega
  · rintro d ds ρ ⟨done, b, e, rfl⟩
    ((try dsimp only); refine rd_here rfl ?_; (try dsimp only))
    refine ⟨show 1 ≤ sizeLine by decide, done + 1, .d d, ?_, rfl⟩
    simp at e ⊢
    omega
end
end K01
namespace K01
open PySem PySem.Spec PyProof.Rows L2 DL
def one1 : Dat := T "number" [.int 1]
def deepP (n : Nat) : Dat := nest (fun d => T "plus" [one1, d]) one1 n
def wideP (n : Nat) : Dat := nest (fun d => T "plus" [d, d]) one1 n
def saidN (n : Nat) : Dat := nest (fun d => T "not" [d]) (T "prop" [.str "a"]) n
def manyN (n : Nat) : Dat := nest (fun d => T "or" [.tup (List.replicate 6 [d]).flatten]) (T "and" [.tup (List.replicate 6 [saidN 3000]).flatten]) n
def farTermsL : List Dat := [deepP 3000, wideP 60, saidN 3000, manyN 40, T "same" [deepP 3000, deepP 3000], T "most" [wideP 60, wideP 60], T "tip" [wideP 60], T "not" [manyN 40]]
section
variable {P : Program} {w : World} {K : PySem.W.Frag} {mg : Str → Option Value} {base : Heap} {f f2 : Addr} {fd fd2 : FuncData} {k : Nat}
abbrev s__law_far_terms : Stmt := topS 61
theorem sc__law_far_terms : FnScope ["deep", "wide", "said", "bout", "many_so", "found"] [] (defScope s__law_far_terms) := ⟨rfl, rfl, rfl, by decide +kernel, rfl, by decide +kernel, by decide +kernel⟩
-- calls [] consts []
theorem ok_law_far_terms (B : Bt mg) (F : Fun K "_law_far_terms" "_law_far_terms" s__law_far_terms f fd) : FnOk P w K mg base CX0 (k + 1) f fd [] (spD K (conK (.lst farTermsL))) := by
  refine fn_pure F sc__law_far_terms (fun ds P X ⟨e, _⟩ => by rw [e]; rfl) fun cdv A outer s H S hS hr => ?_
  have nd := sc__law_far_terms.nd
  refine ⟨_, (db_cons (ds_asg (de_tup (da_cons (de_tup (da_cons de_str (da_cons de_int da_nil))) (da_cons (de_tup (da_cons de_str (da_cons de_int da_nil))) (da_cons (de_tup (da_cons de_str (da_cons de_str da_nil))) da_nil)))) (dg_tup 3 rfl (dgs_cons (dg_name 0 nd) (dgs_cons (dg_name 1 nd) (dgs_cons (dg_name 2 nd) dgs_nil))))) (db_cons (ds_forI PassesOwn.never rfl (di_range1 B.range (da_cons de_int da_nil)) (dg_name 3 nd) (db_cons (ds_set 0 (de_tup (da_cons de_str (da_cons (de_tup (da_cons de_str (da_cons de_int da_nil))) (da_cons (de_var 0) da_nil)))) nd) (db_one (ds_set 2 (de_tup (da_cons de_str (da_cons (de_var 2) da_nil))) nd)))) (db_cons (ds_forI PassesOwn.never rfl (di_range1 B.range (da_cons de_int da_nil)) (dg_name 3 nd) (db_one (ds_set 1 (de_tup (da_cons de_str (da_cons (de_var 1) (da_cons (de_var 1) da_nil)))) nd))) (db_cons (ds_set 4 (de_tup (da_cons de_str (da_cons (de_repB (de_tup (da_cons (de_var 2) da_nil)) de_int) da_nil))) nd) (db_cons (ds_forI PassesOwn.never rfl (di_range1 B.range (da_cons de_int da_nil)) (dg_name 3 nd) (db_one (ds_set 4 (de_tup (da_cons de_str (da_cons (de_repB (de_tup (da_cons (de_var 4) da_nil)) de_int) da_nil))) nd))) (db_cons (ds_set 5 (de_lst (da_cons (de_var 0) (da_cons (de_var 1) (da_cons (de_var 2) (da_cons (de_var 4) (da_cons (de_tup (da_cons de_str (da_cons (de_var 0) (da_cons (de_var 0) da_nil)))) (da_cons (de_tup (da_cons de_str (da_cons (de_var 1) (da_cons (de_var 1) da_nil)))) da_nil))))))) nd) (db_one (ds_ret (de_add (de_var 5) (de_lst (da_cons (de_tup (da_cons de_str (da_cons (de_var 1) da_nil))) (da_cons (de_tup (da_cons de_str (da_cons (de_var 4) da_nil))) da_nil)))))))))))), ?_⟩
  rintro ds R X ⟨rfl, h⟩
  have s1 : 1 ≤ sizeLine := by decide
  have s2 : 2 ≤ sizeLine := by decide
  have s3 : 3 ≤ sizeLine := by decide
  have s6 : 6 ≤ sizeLine := by decide
  refine ⟨s2, s2, s2, s3, rfl, rfl, ?_⟩
  dsimp only
  refine ⟨fun items ρ => ∃ (j : Nat) (a : DL.Slot), j + items.length = 3000 ∧ ρ = [.d (deepP j), .d one1, .d (saidN j), a, .un, .un], ?_, ?_, ?_⟩
  · refine ⟨by decide, 0, _, ?_, rfl⟩
    simp [rints]
  · rintro ρ ⟨j, a, e, rfl⟩
    have e' : j = 3000 := e
    subst e'
    refine ⟨fun items ρ => ∃ (j : Nat) (a : DL.Slot), j + items.length = 60 ∧ ρ = [.d (deepP 3000), .d (wideP j), .d (saidN 3000), a, .un, .un], ?_, ?_, ?_⟩
    · refine ⟨by decide, 0, _, ?_, rfl⟩
      simp [rints]
    · rintro ρ ⟨j, a, e, rfl⟩
      have e' : j = 60 := e
      subst e'
      ((try dsimp only); refine rd_here rfl ?_; (try dsimp only))
      refine ⟨s1, by simp, by decide, by decide, s2, ?_⟩
      refine ⟨fun items ρ => ∃ (j : Nat) (a : DL.Slot), j + items.length = 40 ∧ ρ = [.d (deepP 3000), .d (wideP 60), .d (saidN 3000), a, .d (manyN j), .un], ?_, ?_, ?_⟩
      · refine ⟨by decide, 0, _, ?_, rfl⟩
        simp [rints]
      · rintro ρ ⟨j, a, e, rfl⟩
        have e' : j = 40 := e
        subst e'
        repeat (first
          | refine rd_here rfl ?_
          | refine And.intro s2 ?_
          | refine And.intro s3 ?_
          | refine And.intro s6 ?_
          | rw [addD_lst]
          | refine And.intro (show 6 + 2 ≤ sizeLine by decide) ?_)
        exact h
      · rintro d ds ρ ⟨j, b, e, rfl⟩
        ((try dsimp only); refine rd_here rfl ?_; (try dsimp only))
        refine ⟨s1, by simp, by decide, show 6 * 1 ≤ 1000000 by decide, s2, j + 1, .d d, ?_, rfl⟩
        simp at e ⊢
        omega
    · rintro d ds ρ ⟨j, b, e, rfl⟩
      ((try dsimp only); refine rd_here rfl ?_; (try dsimp only))
      ((try dsimp only); refine rd_here rfl ?_; (try dsimp only))
      refine ⟨s3, j + 1, .d d, ?_, rfl⟩
      simp at e ⊢
      omega
  · rintro d ds ρ ⟨j, b, e, rfl⟩
    refine ⟨s2, ?_⟩
    ((try dsimp only); refine rd_here rfl ?_; (try dsimp only))
    refine ⟨s3, ?_⟩
    ((try dsimp only); refine rd_here rfl ?_; (try dsimp only))
    refine ⟨s2, j + 1, .d d, ?_, rfl⟩
    simp at e ⊢
    omega
end
end K01
namespace K01
open PySem PySem.Spec PyProof.Rows L2 DL
/-! ### what the asker asks of may be asked of -/
mutual
def okB : Dat → Bool
  | .str z => decide (z.length ≤ 10000) && z.cps.all (· < 0x110000)
  | .tup ds => okBs ds
  | .lst ds => okBs ds
  | .dic _ _ => false
  | _ => true
def okBs : List Dat → Bool
  | [] => true
  | d :: ds => okB d && okBs ds
end
mutual
theorem okB_fine : ∀ d, okB d = true → Fine d
  | .str z, h => by
    rw [okB, Bool.and_eq_true] at h
    have q := of_decide_eq_true h.1
    unfold Fine
    exact q
  | .tup ds, h => okBs_fine ds (by rw [okB] at h; exact h)
  | .lst ds, h => okBs_fine ds (by rw [okB] at h; exact h)
  | .dic _ _, h => by rw [okB] at h; cases h
  | .non, _ => trivial
  | .bl _, _ => trivial
  | .int _, _ => trivial
theorem okBs_fine : ∀ ds, okBs ds = true → Fines ds
  | [], _ => trivial
  | d :: ds, h => by
    rw [okBs, Bool.and_eq_true] at h
    exact ⟨okB_fine d h.1, okBs_fine ds h.2⟩
end
mutual
theorem okB_lay : ∀ d, okB d = true → Lay d
  | .str z, h => by
    rw [okB, Bool.and_eq_true] at h
    exact h.2
  | .tup ds, h => lay_tup.mpr (okBs_lay ds (by rw [okB] at h; exact h))
  | .lst ds, h => lay_lst.mpr (okBs_lay ds (by rw [okB] at h; exact h))
  | .dic _ _, h => by rw [okB] at h; cases h
  | .non, _ => rfl
  | .bl _, _ => rfl
  | .int _, _ => rfl
theorem okBs_lay : ∀ ds, okBs ds = true → ∀ d ∈ ds, Lay d
  | [], _, _, h => (List.not_mem_nil h).elim
  | d :: ds, h, x, hx => by
    rw [okBs, Bool.and_eq_true] at h
    rcases List.mem_cons.mp hx with e | hx
    · rw [e]; exact okB_lay d h.1
    · exact okBs_lay ds h.2 x hx
end
theorem okB_law {d : Dat} (h : okB d = true) : LawOk d := ⟨okB_fine d h, .inr (okB_lay d h)⟩
theorem okBs_all : ∀ {ds : List Dat}, okBs ds = true ↔ ∀ d ∈ ds, okB d = true
  | [] => ⟨fun _ _ h => (List.not_mem_nil h).elim, fun _ => by rw [okBs]⟩
  | d :: ds => by
    rw [okBs, Bool.and_eq_true, okBs_all]
    constructor
    · rintro ⟨h1, h2⟩ x hx
      rcases List.mem_cons.mp hx with rfl | hx
      · exact h1
      · exact h2 x hx
    · intro h
      exact ⟨h d List.mem_cons_self, fun x hx => h x (List.mem_cons_of_mem _ hx)⟩
theorem okB_tup {ds : List Dat} : okB (.tup ds) = true ↔ ∀ d ∈ ds, okB d = true := by rw [okB]; exact okBs_all
theorem okB_T {w : Str} {r : List Dat} (hw : okB (.str w) = true) (h : ∀ d ∈ r, okB d = true) : okB (T w r) = true := okB_tup.mpr fun d hd => by
  rcases List.mem_cons.mp hd with rfl | hd
  · exact hw
  · exact h d hd
theorem okB_nest {f : Dat → Dat} {d : Dat} (hd : okB d = true) (hf : ∀ x, okB x = true → okB (f x) = true) : ∀ n, okB (nest f d n) = true
  | 0 => hd
  | n + 1 => hf _ (okB_nest hd hf n)
theorem one_in {a : Dat} {P : Dat → Prop} (h : P a) : ∀ d ∈ [a], P d := fun d hd => by
  rcases List.mem_cons.mp hd with rfl | hd
  · exact h
  · cases hd
theorem two_in {a b : Dat} {P : Dat → Prop} (h : P a) (h2 : P b) : ∀ d ∈ [a, b], P d := fun d hd => by
  rcases List.mem_cons.mp hd with rfl | hd
  · exact h
  · exact one_in h2 d hd
theorem leaves_ok : ∀ d ∈ leavesL, okB d = true := okBs_all.mp (by decide +kernel)
theorem edges_ok : ∀ d ∈ edgesL, okB d = true := okBs_all.mp (by decide +kernel)
theorem rep_in {d : Dat} (h : okB d = true) : ∀ n, ∀ x ∈ (List.replicate n [d]).flatten, okB x = true
  | 0, x, hx => by simp at hx
  | n + 1, x, hx => by
    rw [List.replicate_succ, List.flatten_cons] at hx
    rcases List.mem_append.mp hx with hx | hx
    · exact one_in (P := fun x => okB x = true) h x hx
    · exact rep_in h n x hx
theorem one1_ok : okB one1 = true := by decide +kernel
theorem deepP_ok (n : Nat) : okB (deepP n) = true := okB_nest one1_ok (fun x hx => okB_T (by decide +kernel) (two_in one1_ok hx)) n
theorem wideP_ok (n : Nat) : okB (wideP n) = true := okB_nest one1_ok (fun x hx => okB_T (by decide +kernel) (two_in hx hx)) n
theorem saidN_ok (n : Nat) : okB (saidN n) = true := okB_nest (by decide +kernel) (fun x hx => okB_T (by decide +kernel) (one_in hx)) n
theorem manyN_ok (n : Nat) : okB (manyN n) = true := okB_nest (okB_T (by decide +kernel) (one_in (okB_tup.mpr (rep_in (saidN_ok 3000) 6)))) (fun x hx => okB_T (by decide +kernel) (one_in (okB_tup.mpr (rep_in hx 6)))) n
theorem farTerms_ok : ∀ d ∈ farTermsL, okB d = true := fun d hd => by
  simp only [farTermsL, List.mem_cons, List.not_mem_nil, or_false] at hd
  rcases hd with rfl | rfl | rfl | rfl | rfl | rfl | rfl | rfl
  · exact deepP_ok _
  · exact wideP_ok _
  · exact saidN_ok _
  · exact manyN_ok _
  · exact okB_T (by decide +kernel) (two_in (deepP_ok _) (deepP_ok _))
  · exact okB_T (by decide +kernel) (two_in (wideP_ok _) (wideP_ok _))
  · exact okB_T (by decide +kernel) (one_in (wideP_ok _))
  · exact okB_T (by decide +kernel) (one_in (manyN_ok _))
theorem far_ok : ∀ d ∈ farL, LawOk d := fun d hd => by
  simp only [farL, List.mem_cons, List.not_mem_nil, or_false] at hd
  rcases hd with rfl | rfl | rfl | rfl | rfl | rfl | rfl | rfl | rfl | rfl
  · exact okB_law (okB_nest (by decide +kernel) (fun x hx => okB_tup.mpr (one_in hx)) _)
  · exact okB_law (okB_nest (by decide +kernel) (fun x hx => okB_tup.mpr (two_in hx hx)) _)
  · exact okB_law (okB_tup.mpr (rep_in (by decide +kernel) _))
  · refine okB_law ?_
    rw [okB, Bool.and_eq_true]
    refine ⟨decide_eq_true ?_, strRep_all _ _ _ (by decide +kernel)⟩
    rw [strRep_len, show ("a" : Str).length = 1 by decide +kernel]
    decide
  · exact okB_law (by decide +kernel)
  · exact ⟨trivial, .inl ⟨[], [], rfl⟩⟩
  · exact okB_law (by decide +kernel)
  · exact okB_law (by decide +kernel)
  · exact okB_law (by decide +kernel)
  · exact okB_law (by decide +kernel)
end K01
namespace K01
open PySem PySem.Spec PyProof.Rows L2 DL
section
variable {P : Program} {w : World} {K : PySem.W.Frag} {mg : Str → Option Value} {base : Heap} {f f2 : Addr} {fd fd2 : FuncData} {k : Nat}
abbrev s__law_mixed : Stmt := topS 45
theorem sc__law_mixed : FnScope ["cell", "k", "turned"] ["cell", "k"] (defScope s__law_mixed) := ⟨rfl, rfl, rfl, by decide +kernel, rfl, by decide +kernel, by decide +kernel⟩
-- calls [] consts []
theorem mul_s {i j : Int} (h : -(2 ^ 64) < i ∧ i < 2 ^ 64) : CMul i j := .inl h
theorem mul_t {i j : Int} (h : -(2 ^ 64) < j ∧ j < 2 ^ 64) : CMul i j := .inr h
theorem ok_law_mixed (F : Fun K "_law_mixed" "_law_mixed" s__law_mixed f fd) : FnOk P w K mg base CX0 (k + 1) f fd ["cell", "k"] (spD K conMix) := by
  refine fn_pure F sc__law_mixed (fun ds P X ⟨c, k, e, _⟩ => by rw [e]; rfl) fun cdv A outer s H S hS hr => ?_
  have nd := sc__law_mixed.nd
  refine ⟨_, (db_cons (ds_set 2 (de_add (de_add (de_mod (de_mulI (de_mulI (de_var 0) (de_add de_int (de_mulI de_int (de_var 1)))) de_int) de_int) (de_mulI (de_mulI de_int (de_var 1)) (de_var 1))) (de_mulI de_int (de_var 1))) nd) (db_one (ds_ret (de_fdiv (de_mod (de_mulI (de_var 2) de_int) de_int) de_int)))), ?_⟩
  rintro ds R X ⟨c, j, rfl, hc0, hc1, hj0, hj1, h⟩
  ((try dsimp only); refine rd_here rfl ?_; (try dsimp only))
  ((try dsimp only); refine rd_here rfl ?_; (try dsimp only))
  refine ⟨.inl (by decide), ?_⟩
  refine ⟨.inl ⟨by omega, by omega⟩, ?_⟩
  refine ⟨.inr (by decide), ?_⟩
  refine ⟨(show (0 : Int) < 2147483647 by decide), ?_⟩
  ((try dsimp only); refine rd_here rfl ?_; (try dsimp only))
  refine ⟨.inl (by decide), ?_⟩
  ((try dsimp only); refine rd_here rfl ?_; (try dsimp only))
  refine ⟨.inr ⟨by omega, by omega⟩, ?_⟩
  dsimp only
  rw [addD_int]
  ((try dsimp only); refine rd_here rfl ?_; (try dsimp only))
  refine ⟨.inl (by decide), ?_⟩
  dsimp only
  rw [addD_int]
  ((try dsimp only); refine rd_here rfl ?_; (try dsimp only))
  refine ⟨.inr (by decide), ?_⟩
  refine ⟨(show (0 : Int) < 2147483629 by decide), ?_⟩
  refine ⟨⟨(show (0 : Int) < 7 by decide), (show (7 : Int) < 1073741824 by decide)⟩, ?_⟩
  refine h _ ?_ ?_
  · exact Int.ediv_nonneg (Int.emod_nonneg _ (by decide)) (by decide)
  · exact Int.lt_of_le_of_lt (Int.ediv_le_self _ (Int.emod_nonneg _ (by decide))) (Int.lt_trans (Int.emod_lt_of_pos _ (by decide)) (by decide))
abbrev s__law_draw : Stmt := topS 47
theorem sc__law_draw : FnScope ["m", "top", "k", "spot", "cell"] ["m", "top"] (defScope s__law_draw) := ⟨rfl, rfl, rfl, by decide +kernel, rfl, by decide +kernel, by decide +kernel⟩
theorem draw_cells {cells : List Int} (h : ∀ x ∈ cells, (0 : Int) ≤ x ∧ x < 2147483648) {n : Nat} {x : Int} (e : cells[n]? = some x) : 0 ≤ x ∧ x < 2147483648 := h x (List.mem_of_getElem? e)
theorem ok_law_draw (B : Bt mg) (F__law_mixed : Callee P w K mg base "_law_mixed" k ["cell", "k"] conMix) (F : Fun K "_law_draw" "_law_draw" s__law_draw f fd) : FnOk P w K mg base CX0 (k + 1) f fd ["m", "top"] (spS K conDraw) := by
  obtain ⟨fm, fdm, Fm, hm, hkp, hbm⟩ := F__law_mixed.ex
  refine F.ok sc__law_draw (fun vs H Q E ⟨S, st, i, sl, _, _, _, hv, v, top, _, e, _⟩ => by rw [hv.len, e]; rfl) fun cdv A outer s H vs Q E hr h => ?_
  obtain ⟨S, st, n, sl, hS, hf, h0, hv, v, top, ⟨a, b, c, L, nab, nac, nbc, rfl, rfl⟩, rfl, ht0, ht1, hn, hq⟩ := h
  obtain ⟨v1, r1, rfl, hv1, v2, r2, rfl, hv2, hr2⟩ := hv
  cases (hv1 : v1 = .ref a)
  cases (hv2 : v2 = .int top)
  cases (hr2 : r2 = [])
  obtain ⟨j, cells, left, hj, hc64, hcells, hL, ea, eb, ec⟩ := h0
  have nd := sc__law_draw.nd

  refine ⟨_, pss_cons (ps_set (i := 2) nd rfl (.inl rfl) (pe_dget (hu_of hr) (pv 0) pe_str (fun _ _ => rfl)))
    (pss_cons (ps_dput (hu_of hr) (pv 0) pe_str (pe_op op_add (pv 2) pe_int) rfl)
    (pss_cons (ps_if (pt_cmpR (op_neD hr.units) (pe_dget (hu_of hr) (pv 0) pe_str (fun _ _ => rfl)) (pe_lst pa_nil) (by rfl))
      (pss_cons (ps_set (i := 3) nd rfl (.inl rfl) (pe_op op_mod (pv 2) (pe_callB call_len (by rfl) B.len PySem.boot_len (pa_cons (pe_dget (hu_of hr) (pv 0) pe_str (fun _ _ => rfl)) pa_nil))))
      (pss_cons (ps_set (i := 4) nd rfl (.inl rfl) (pe_ix ix_list (pe_dget (hu_of hr) (pv 0) pe_str (fun _ _ => rfl)) (pv 3) (fun _ _ => rfl)))
      (pss_one (ps_if (pt_cmpR op_gt (pv 4) pe_int (by rfl))
        (pss_cons (ps_asg (pe_op op_fdiv (pv 4) (pv 1)) (pg_sub (pe_dget (hu_of hr) (pv 0) pe_str (fun _ _ => rfl)) (pv 3) set_list))
        (pss_one (ps_ret (pe_op op_mod (pv 4) (pv 1)))))
        pss_nil)))) pss_nil)
    (pss_one (ps_ret (pe_op op_mod (pe_call Fm (hr.mono (by omega)) (by rfl) hm hkp hbm .nil pass0 (pa_cons (pe_call Fm (hr.mono (by omega)) (by rfl) hm hkp hbm .nil pass0 (pa_cons (pe_op op_add (pe_ix ix_list (pe_dget (hu_of hr) (pv 0) pe_str (fun _ _ => rfl)) (pe_op op_mod (pv 2) pe_int) (fun _ _ => rfl)) (pe_op op_mul pe_int (pe_op op_fdiv (pv 2) pe_int))) (pa_cons (pv 2) pa_nil))) (pa_cons (pe_op op_add (pv 2) pe_int) pa_nil))) (pv 1)))))), ?_⟩
  have mL : ∀ {n : Nat} {x : V} {σ : L2.St}, True := fun {n x σ} => trivial
  refine ⟨_, rfl, a, .int j, rfl, dget_at ea get_spot, ?_⟩
  let H1 := upd H a (.dK [(.inr "cells", .ref b), (.inr "left", .ref c), (.inr "spot", .int ((j : Int) + 1))])
  have e1a : H1 a = some (.dK [(.inr "cells", .ref b), (.inr "left", .ref c), (.inr "spot", .int ((j : Int) + 1))]) := upd_same
  have e1b : H1 b = some (.lst (cells.map V.int)) := by show upd H a _ b = _; rw [upd_ne (fun z => nab z.symm)]; exact eb
  have e1c : H1 c = some (.lst (left.map V.int)) := by show upd H a _ c = _; rw [upd_ne (fun z => nac z.symm)]; exact ec
  refine ⟨_, rfl, _, _, rfl, rfl, _, rfl, a, H1, rfl, ?_, ?_⟩
  · have q : DPut H a (kV (.inr "spot")) (.int ((j : Int) + 1)) (upd H a (.dK (putK [((.inr "cells" : Key), V.ref b), (.inr "left", .ref c), (.inr "spot", .int (j : Int))] (.inr "spot") (.int ((j : Int) + 1))))) := DPut.k ea (show (3 : Nat) < sizeLine by decide)
    rw [put_spot] at q
    exact q
  refine ⟨_, rfl, a, .ref c, rfl, dget_at e1a get_left, by decide, fun p np => ?_⟩
  let H2 := upd H1 p (.lst [])
  have n2 : ∀ x u, H1 x = some u → H2 x = some u := fun x u e => by show upd H1 p _ x = _; rw [upd_ne (ne_of_none e np)]; exact e
  have e2a := n2 _ _ e1a
  have e2b := n2 _ _ e1b
  have e2c := n2 _ _ e1c
  have dvc : Dv K (fun _ => False) H2 (.lst (left.map Dat.int)) (.ref c) := ⟨c, _, rfl, id, e2c, ints_dv left⟩
  have dvp : Dv K (fun _ => False) H2 (.lst []) (.ref p) := ⟨p, [], rfl, id, upd_same, rfl⟩
  refine ⟨_, _, dp_of _ _ dvc (SeqAt.canLay_of_shaped (ints_shaped left)), dp_of _ _ dvp rfl, ints_shaped left, rfl, ?_⟩
  refine ⟨_, rfl, ?_⟩
  rw [ints_ne left]
  -- the end by the digits of a cell, and the end by mixing
  have fin : ∀ (cells' left' : List Int) (H' : Hp), (∀ x u, x ≠ a → x ≠ b → x ≠ c → H x = some u → H' x = some u) → cells'.length = 64 → (∀ x ∈ cells', 0 ≤ x ∧ x < 2147483648) → left'.length = L → H' a = some (.dK [(.inr "cells", .ref b), (.inr "left", .ref c), (.inr "spot", .int ((j : Int) + 1))]) → H' b = some (.lst (cells'.map V.int)) → H' c = some (.lst (left'.map V.int)) → ∀ y : Int, 0 ≤ y → y < top → Q (.int y) H' := fun cells' left' H' hk h64 hc hl ha hb' hc' y y0 y1 =>
    hq y y0 y1 (.int y) H' (fun x u nx e => hk x u (fun z => nx (.inl z)) (fun z => nx (.inr (.inl z))) (fun z => nx (.inr (.inr z))) e) ⟨j + 1, cells', left', by omega, h64, hc, hl, ha, hb', hc'⟩ rfl
  have k2 : ∀ x u, x ≠ a → x ≠ b → x ≠ c → H x = some u → H2 x = some u := fun x u xa _ _ e => n2 x u (by show upd H a _ x = _; rw [upd_ne xa]; exact e)
  cases left with
  | nil =>
    refine iteF ?_
    refine ⟨_, rfl, a, .ref b, rfl, dget_at e2a get_cells, ?_⟩
    obtain ⟨x, hx, hat, hix⟩ := atI_int (ns := cells) (i := (j : Int) % 64) (Int.emod_nonneg _ (by decide)) (by rw [hc64]; exact Int.emod_lt_of_pos _ (by decide))
    obtain ⟨x0, x1⟩ := draw_cells hcells hx
    have hm31 : 31 * ((j : Int) / 64) < 2000000000000000 ∧ 0 ≤ 31 * ((j : Int) / 64) := by
      unfold manyDraws at hn
      omega
    have hjb : (j : Int) < 1000000000000000 := by
      unfold manyDraws at hn
      omega
    refine ⟨_, rfl, _, _, rfl, rfl, (show (0 : Int) < 64 by decide), b, _, _, .int x, rfl, rfl, .inl (.inl e2b), hat, ?_⟩
    refine ⟨_, rfl, _, _, rfl, rfl, ⟨(show (0 : Int) < 64 by decide), (show (64 : Int) < 1073741824 by decide)⟩, ?_⟩
    refine ⟨_, _, rfl, rfl, .inl (by decide), _, _, rfl, rfl, _, rfl, ?_⟩
    refine ⟨fun _ => False, [.int _, .int _], fun _ z => z.elim, ⟨_, _, rfl, rfl, _, _, rfl, rfl, rfl⟩, _, _, rfl, by omega, by omega, by omega, by omega, fun y y0 y1 v H3 ex3 hd3 => ?_⟩
    cases (hd3 : v = .int y)
    refine ⟨_, rfl, _, _, rfl, rfl, ?_⟩
    refine ⟨fun _ => False, [.int _, .int _], fun _ z => z.elim, ⟨_, _, rfl, rfl, _, _, rfl, rfl, rfl⟩, _, _, rfl, by omega, by omega, by omega, by omega, fun z z0 z1 v H4 ex4 hd4 => ?_⟩
    cases (hd4 : v = .int z)
    refine ⟨_, rfl, _, _, rfl, rfl, ht0, ?_⟩
    exact fin cells _ H4 (fun u o xa xb xc e => ex4 u o (ex3 u o (k2 u o xa xb xc e))) hc64 hcells hL (ex4 _ _ (ex3 _ _ e2a)) (ex4 _ _ (ex3 _ _ e2b)) (ex4 _ _ (ex3 _ _ e2c)) _ (Int.emod_nonneg _ (by omega)) (Int.emod_lt_of_pos _ ht0)
  | cons l0 lr =>
    refine iteT ?_
    refine ⟨_, rfl, _, rfl, a, .ref c, rfl, dget_at e2a get_left, ?_⟩
    refine ⟨_, _, rfl, .inl ⟨_, .inl (.inl e2c), rfl⟩, _, _, rfl, rfl, (by rw [List.length_map, List.length_cons]; omega), ?_⟩
    refine ⟨_, rfl, a, .ref c, rfl, dget_at e2a get_left, _, rfl, ?_⟩
    obtain ⟨x, hx, hat, hix⟩ := atI_int (ns := l0 :: lr) (i := (j : Int) % ((((l0 :: lr).map V.int).length : Nat) : Int)) (Int.emod_nonneg _ (by rw [List.length_map, List.length_cons]; omega)) (by rw [List.length_map]; exact Int.emod_lt_of_pos _ (by rw [List.length_cons]; omega))
    refine ⟨c, _, _, .int x, rfl, rfl, .inl (.inl e2c), hat, ?_⟩
    refine ⟨_, rfl, _, _, rfl, rfl, _, rfl, ?_⟩
    show if decide (0 < x) = true then _ else _
    by_cases hx0 : 0 < x
    · rw [if_pos (decide_eq_true hx0)]
      refine ⟨_, rfl, _, rfl, _, _, rfl, rfl, ⟨ht0, by omega⟩, ?_⟩
      refine ⟨_, rfl, a, .ref c, rfl, dget_at e2a get_left, _, rfl, ?_⟩
      refine ⟨c, _, _, _, rfl, rfl, e2c, hix, ?_⟩
      refine ⟨_, rfl, _, rfl, _, _, rfl, rfl, ht0, ?_⟩
      have ca : a ≠ c := nac
      refine fin cells ((l0 :: lr).set ((j : Int) % ((((l0 :: lr).map V.int).length : Nat) : Int)).toNat (x / top)) _ (fun u o xa xb xc e => by rw [upd_ne xc]; exact k2 u o xa xb xc e) hc64 hcells (by rw [List.length_set]; exact hL) (by rw [upd_ne nac]; exact e2a) (by rw [upd_ne nbc]; exact e2b) (by rw [upd_same, List.map_set]) _ (Int.emod_nonneg _ (by omega)) (Int.emod_lt_of_pos _ ht0)
    · rw [if_neg (by rw [decide_eq_true_eq]; exact hx0)]
      refine ⟨_, rfl, a, .ref b, rfl, dget_at e2a get_cells, ?_⟩
      obtain ⟨x, hx, hat, hix⟩ := atI_int (ns := cells) (i := (j : Int) % 64) (Int.emod_nonneg _ (by decide)) (by rw [hc64]; exact Int.emod_lt_of_pos _ (by decide))
      obtain ⟨x0, x1⟩ := draw_cells hcells hx
      have hm31 : 31 * ((j : Int) / 64) < 2000000000000000 ∧ 0 ≤ 31 * ((j : Int) / 64) := by
        unfold manyDraws at hn
        omega
      have hjb : (j : Int) < 1000000000000000 := by
        unfold manyDraws at hn
        omega
      refine ⟨_, rfl, _, _, rfl, rfl, (show (0 : Int) < 64 by decide), b, _, _, .int x, rfl, rfl, .inl (.inl e2b), hat, ?_⟩
      refine ⟨_, rfl, _, _, rfl, rfl, ⟨(show (0 : Int) < 64 by decide), (show (64 : Int) < 1073741824 by decide)⟩, ?_⟩
      refine ⟨_, _, rfl, rfl, .inl (by decide), _, _, rfl, rfl, _, rfl, ?_⟩
      refine ⟨fun _ => False, [.int _, .int _], fun _ z => z.elim, ⟨_, _, rfl, rfl, _, _, rfl, rfl, rfl⟩, _, _, rfl, by omega, by omega, by omega, by omega, fun y y0 y1 v H3 ex3 hd3 => ?_⟩
      cases (hd3 : v = .int y)
      refine ⟨_, rfl, _, _, rfl, rfl, ?_⟩
      refine ⟨fun _ => False, [.int _, .int _], fun _ z => z.elim, ⟨_, _, rfl, rfl, _, _, rfl, rfl, rfl⟩, _, _, rfl, by omega, by omega, by omega, by omega, fun z z0 z1 v H4 ex4 hd4 => ?_⟩
      cases (hd4 : v = .int z)
      refine ⟨_, rfl, _, _, rfl, rfl, ht0, ?_⟩
      exact fin cells _ H4 (fun u o xa xb xc e => ex4 u o (ex3 u o (k2 u o xa xb xc e))) hc64 hcells hL (ex4 _ _ (ex3 _ _ e2a)) (ex4 _ _ (ex3 _ _ e2b)) (ex4 _ _ (ex3 _ _ e2c)) _ (Int.emod_nonneg _ (by omega)) (Int.emod_lt_of_pos _ ht0)
end
end K01
namespace K01
open PySem PySem.Spec PyProof.Rows L2 DL
def cellOk (x : Int) : Prop := 0 ≤ x ∧ x < 2147483648
def conFold : ConL := ⟨fun sl P => ∃ ns : List Int, sl = [.scr ns] ∧ ns.length ≤ 63 ∧ ∀ cells : List Int, cells.length = 64 → (∀ x ∈ cells, cellOk x) → P (.lst (cells.map Dat.int)),
  fun _ _ _ ⟨ns, e, hl, h⟩ m => ⟨ns, e, hl, fun c h1 h2 => m _ (h c h1 h2)⟩⟩
def conBegun : ConL := ⟨fun sl P => ∃ ns : List Int, sl = [.scr ns] ∧ ns.length ≤ 63 ∧ ∀ cells left : List Int, cells.length = 64 → (∀ x ∈ cells, cellOk x) → left.length = ns.length → P (.dic [.inr "cells", .inr "left", .inr "spot"] [.lst (cells.map Dat.int), .lst (left.map Dat.int), .int 0]),
  fun _ _ _ ⟨ns, e, hl, h⟩ m => ⟨ns, e, hl, fun c l h1 h2 h3 => m _ (h c l h1 h2 h3)⟩⟩
theorem atI_map {cells : List Int} {i : Int} (h0 : 0 ≤ i) (h1 : i < cells.length) : ∃ x, cells[i.toNat]? = some x ∧ atI (cells.map Dat.int) i = some (.int x) ∧ ixN (cells.map Dat.int).length i = some i.toNat := by
  have hl : i.toNat < cells.length := by omega
  refine ⟨cells[i.toNat], List.getElem?_eq_getElem hl, ?_, by unfold ixN; rw [if_pos h0, if_pos (by rw [List.length_map]; exact h1)]⟩
  have e : atI (cells.map Dat.int) ((i.toNat : Nat) : Int) = some (.int cells[i.toNat]) := atI_nat (by simp [List.getElem?_map, List.getElem?_eq_getElem hl])
  rw [Int.toNat_of_nonneg h0] at e
  exact e
theorem cells_set {cells : List Int} {n : Nat} {x : Int} (h : ∀ y ∈ cells, cellOk y) (hx : cellOk x) : ∀ y ∈ cells.set n x, cellOk y := fun y hy => by
  rcases List.mem_or_eq_of_mem_set hy with hy | rfl
  · exact h y hy
  · exact hx
theorem mod_cell (z : Int) : cellOk (z % 2147483647) := ⟨Int.emod_nonneg _ (by decide), Int.lt_trans (Int.emod_lt_of_pos _ (by decide)) (by decide)⟩
section
variable {P : Program} {w : World} {K : PySem.W.Frag} {mg : Str → Option Value} {base : Heap} {f f2 : Addr} {fd fd2 : FuncData} {k : Nat}
abbrev s__law_folded : Stmt := topS 46
theorem sc__law_folded : FnScope ["script", "found", "k", "cell"] ["script"] (defScope s__law_folded) := ⟨rfl, rfl, rfl, by decide +kernel, rfl, by decide +kernel, by decide +kernel⟩
-- calls [] consts []
theorem ok_law_folded (B : Bt mg) (F : Fun K "_law_folded" "_law_folded" s__law_folded f fd) : FnOk P w K mg base CX0 (k + 1) f fd ["script"] (spL K conFold) := by
  refine fn_pureL F sc__law_folded (fun sl P ⟨ns, e, _⟩ => by rw [e]; rfl) fun cdv A outer s H S hS hr => ?_
  have nd := sc__law_folded.nd
  refine ⟨_, (db_cons (ds_setLcOwn 1 2 (x := "k") rfl nd (sw_true rfl rfl rfl (by decide +kernel)) (di_range1 B.range (da_cons de_int da_nil)) (blkOk_by (own := [("k", 2)]) (N := ["script", "found", "k", "cell"]) (sc := defScope s__law_folded) (by decide +kernel)) (fun _ _ _ _ _ => pg_name (i := 2) nd rfl (Or.inl rfl)) (fun _ _ _ _ _ => dts_nil) (fun _ _ _ _ _ => (de_add de_int (de_var 2)))) (db_cons (ds_forI PassesOwn.never rfl (di_enumScr 0 B.enumerate) (dg_tup 2 rfl (dgs_cons (dg_name 2 nd) (dgs_cons (dg_name 3 nd) dgs_nil))) (db_one (ds_putOwn 1 (de_mod (de_add (de_mulI (de_ixOwn 1 (de_mod (de_var 2) de_int)) de_int) (de_var 3)) de_int) (de_mod (de_var 2) de_int)))) (db_cons (ds_forI PassesOwn.never rfl (di_range2 B.range (da_cons de_int (da_cons de_int da_nil))) (dg_name 2 nd) (db_one (ds_putOwn 1 (de_mod (de_add (de_ixOwn 1 (de_var 2)) (de_mulI (de_ixOwn 1 (de_sub (de_var 2) de_int)) de_int)) de_int) (de_var 2)))) (db_one (ds_freeze (ds_ret (de_var 1))))))), ?_⟩
  rintro sl R ⟨ns, rfl, hl, h⟩
  refine ⟨by decide, ?_⟩
  refine compF_map (f := fun d => .int (17 + intOr d)) (fun d hd Q hQ => ?_) (by decide) ?_
  · simp only [rints, List.mem_map] at hd
    obtain ⟨n, _, rfl⟩ := hd
    exact hQ
  refine ⟨fun items ρ => ∃ (cells : List Int) (a b : DL.Slot), ρ = [.scr ns, .own (cells.map Dat.int), a, b] ∧ cells.length = 64 ∧ (∀ x ∈ cells, cellOk x) ∧ ∀ d ∈ items, ∃ (j : Nat) (n : Int), d = .tup [.int (j : Nat), .int n], ?_, ?_, ?_⟩
  · refine ⟨(List.range 64).map fun (i : Nat) => 17 + (i : Int), .un, .un, rfl, by decide +kernel, ?_, fun d hd => ?_⟩
    · intro x hx
      simp only [List.mem_map, List.mem_range] at hx
      obtain ⟨a, ha, rfl⟩ := hx
      constructor <;> omega
    · obtain ⟨i, hi⟩ := List.getElem?_of_mem hd
      obtain ⟨n, _, e⟩ := enumL_get hi
      exact ⟨_, n, e⟩
  · rintro ρ ⟨cells, a, b, rfl, hl64, hok, _⟩
    refine ⟨fun items ρ => ∃ (cells : List Int) (a b : DL.Slot), ρ = [.scr ns, .own (cells.map Dat.int), a, b] ∧ cells.length = 64 ∧ (∀ x ∈ cells, cellOk x) ∧ ∀ d ∈ items, ∃ (j : Nat), d = .int (j : Nat) ∧ 1 ≤ j ∧ j < 64, ?_, ?_, ?_⟩
    · refine ⟨by decide, cells, a, b, rfl, hl64, hok, fun d hd => ?_⟩
      simp only [rints, List.mem_map, List.mem_range] at hd
      obtain ⟨n, hn, rfl⟩ := hd
      have hn' : n < 63 := hn
      exact ⟨n + 1, by congr 1; omega, by omega, by omega⟩
    · rintro ρ ⟨cells, a, b, rfl, hl64, hok, _⟩
      exact h cells hl64 hok
    · rintro d ds ρ ⟨cells, a, b, rfl, hl64, hok, hall⟩
      obtain ⟨j, rfl, h1, h2⟩ := hall d List.mem_cons_self
      refine ownL_here rfl ?_
      ((try dsimp only); refine rd_here rfl ?_; (try dsimp only))
      obtain ⟨x, ex, eat, eix⟩ := atI_map (cells := cells) (i := (j : Int)) (by omega) (by rw [hl64]; omega)
      rw [isI_int, eat, someD_some]
      refine ownL_here rfl ?_
      ((try dsimp only); refine rd_here rfl ?_; (try dsimp only))
      obtain ⟨y, ey, eaty, _⟩ := atI_map (cells := cells) (i := (j : Int) - 1) (by omega) (by rw [hl64]; omega)
      rw [int0_int, isI_int, eaty, someD_some]
      refine ⟨.inr (by decide), ?_⟩
      refine ⟨(show (0 : Int) < 2147483647 by decide), ?_⟩
      refine ownL_here rfl ?_
      ((try dsimp only); refine rd_here rfl ?_; (try dsimp only))
      rw [isI_int, eix, someD_some]
      refine ⟨cells.set j _, .d (.int j), b, by rw [List.map_set]; rfl, by rw [List.length_set]; exact hl64, cells_set hok (mod_cell _), fun d hd => hall d (List.mem_cons_of_mem _ hd)⟩
  · rintro d ds ρ ⟨cells, a, b, rfl, hl64, hok, hall⟩
    obtain ⟨j, n, rfl⟩ := hall d List.mem_cons_self
    refine ⟨rfl, rfl, ?_⟩
    have m0 : 0 ≤ (j : Int) % 64 := Int.emod_nonneg _ (by decide)
    have m1 : (j : Int) % 64 < 64 := Int.emod_lt_of_pos _ (by decide)
    obtain ⟨x, ex, eat, eix⟩ := atI_map (cells := cells) (i := (j : Int) % 64) m0 (by rw [hl64]; exact m1)
    refine ownL_here rfl ?_
    ((try dsimp only); refine rd_here rfl ?_; (try dsimp only))
    refine ⟨(show (0 : Int) < 64 by decide), ?_⟩
    dsimp only
    rw [isI_int, eat, someD_some]
    refine ⟨.inr (by decide), ?_⟩
    repeat (first | refine rd_here rfl ?_ | refine ownL_here rfl ?_ | rw [isI_int] | rw [addD_int] | rw [int0_int] | rw [someD_some] | dsimp only)
    refine ⟨(show (0 : Int) < 2147483647 by decide), ?_⟩
    repeat (first | refine rd_here rfl ?_ | refine ownL_here rfl ?_ | rw [isI_int] | rw [addD_int] | rw [int0_int] | rw [someD_some] | dsimp only)
    refine ⟨(show (0 : Int) < 64 by decide), ?_⟩
    dsimp only
    rw [isI_int, eix, someD_some]
    exact ⟨cells.set ((j : Int) % 64).toNat _, .d (.int j), .d (.int n), by rw [List.map_set]; rfl, by rw [List.length_set]; exact hl64, cells_set hok (mod_cell _), fun d hd => hall d (List.mem_cons_of_mem _ hd)⟩
abbrev s__law_begun : Stmt := topS 48
theorem sc__law_begun : FnScope ["script", "m", "cell"] ["script"] (defScope s__law_begun) := ⟨rfl, rfl, rfl, by decide +kernel, rfl, by decide +kernel, by decide +kernel⟩
-- calls ['_law_folded'] consts []
theorem ok_law_begun (F__law_folded : CalleeL P w K mg base "_law_folded" k ["script"] conFold) (F : Fun K "_law_begun" "_law_begun" s__law_begun f fd) : FnOk P w K mg base CX0 (k + 1) f fd ["script"] (spL K conBegun) := by
  refine fn_pureL F sc__law_begun (fun sl P ⟨ns, e, _⟩ => by rw [e]; rfl) fun cdv A outer s H S hS hr => ?_
  have nd := sc__law_begun.nd
  refine ⟨_, (db_cons (ds_setDisp 1 (dps_cons de_str (de_fnL F__law_folded hr (dl_scr 0 dl_nil) (by omega)) (dps_cons de_str (de_lst da_nil) (dps_cons de_str de_int dps_nil))) nd) (db_cons (ds_dput 1 (hu_of hr) de_str (de_lc 2 (x := "cell") rfl nd (di_scr 0) (blkOk_by (own := [("cell", 2)]) (N := ["script", "m", "cell"]) (sc := defScope s__law_begun) (by decide +kernel)) (fun _ _ _ _ _ => pg_name (i := 2) nd rfl (Or.inl rfl)) (fun _ _ _ _ _ => dts_nil) (fun _ _ _ _ _ => (de_if (dt_ge (de_var 2) (de_pow de_int de_int)) (de_var 2) de_int)))) (db_one (ds_freeze (ds_ret (de_var 1)))))), ?_⟩
  rintro sl R ⟨ns, rfl, hl, h⟩
  repeat (first | refine rd_here rfl ?_ | refine ownL_here rfl ?_ | rw [isI_int] | rw [addD_int] | rw [int0_int] | rw [someD_some] | dsimp only)
  refine ⟨ns, rfl, hl, fun cells h64 hc => ?_⟩
  refine ⟨Nat.zero_le _, (show 3 ≤ 15 by decide), ?_⟩
  refine rdScr_here rfl ?_
  refine compF_map (f := fun d => if (10 : Int) ^ 18 ≤ intOr d then d else .int 0) (fun d hd Q hQ => ?_) ?_ ?_
  · simp only [List.mem_map] at hd
    obtain ⟨n, _, rfl⟩ := hd
    repeat (first | refine rd_here rfl ?_ | refine ownL_here rfl ?_ | rw [isI_int] | rw [addD_int] | rw [int0_int] | rw [someD_some] | dsimp only)
    refine ⟨⟨by decide, by decide⟩, ?_⟩
    repeat (first | refine rd_here rfl ?_ | refine ownL_here rfl ?_ | rw [isI_int] | rw [addD_int] | rw [int0_int] | rw [someD_some] | dsimp only)
    show if decide ((10 : Int) ^ 18 ≤ n) = true then _ else _
    have hQ' : Q (if (10 : Int) ^ 18 ≤ n then Dat.int n else .int 0) := hQ
    by_cases hn : (10 : Int) ^ 18 ≤ n
    · rw [if_pos hn] at hQ'
      rw [if_pos (decide_eq_true hn)]
      exact rd_here rfl hQ'
    · rw [if_neg hn] at hQ'
      rw [if_neg (fun z => hn (of_decide_eq_true z))]
      exact hQ'
  · rw [List.length_map]
    exact Nat.le_trans (by simp; omega) (show 63 ≤ sizeLine by decide)
  have el : (ns.map Dat.int).map (fun d => if (10 : Int) ^ 18 ≤ intOr d then d else .int 0) = (ns.map fun n => if (10 : Int) ^ 18 ≤ n then n else 0).map Dat.int := by
    rw [List.map_map, List.map_map]
    refine List.map_congr_left fun n _ => ?_
    show (if (10 : Int) ^ 18 ≤ n then Dat.int n else .int 0) = Dat.int (if (10 : Int) ^ 18 ≤ n then n else 0)
    split <;> rfl
  rw [List.nil_append, el]
  have em : ∀ x y z : Dat, mergeP [] [((.inr "cells" : Key), x), (.inr "left", y), (.inr "spot", z)] = [(.inr "cells", x), (.inr "left", y), (.inr "spot", z)] := fun x y z => rfl
  have ep : ∀ x y z u : Dat, putP [((.inr "cells" : Key), x), (.inr "left", y), (.inr "spot", z)] (.inr "left") u = [(.inr "cells", x), (.inr "left", u), (.inr "spot", z)] := fun x y z u => rfl
  refine owndL_here rfl ?_
  rw [em]
  refine ⟨(show 3 < sizeLine by decide), ?_⟩
  rw [ep]
  refine rd_here rfl ?_
  exact h cells _ h64 hc (List.length_map _)
end
end K01
namespace K01
open PySem PySem.Spec PyProof.Rows L2 DL
/-! ### terms that are made -/
theorem shape_row {w k : Str} {b : Option (Int × Int)} {ss : List Str} {r ts : List Dat} (h1 : w ≠ "name") (h2 : w ≠ "call") (hr : row w = some (k, b, ss)) (hb : behind b ss.length r = some ts) : shape (.tup (.str w :: r)) = some (ss, ts, k) := by
  unfold shape
  simp only [if_neg h1, if_neg h2, hr, hb, Option.map_some]
theorem kind_of_shape {n : Nat} {d : Dat} {ss : List Str} {ts : List Dat} {k : Str} {m : Nat} (h : shape d = some (ss, ts, k)) (hs : sizeP (kindOf n) ts ss = some m) : kindOf (n + 1) d = some (k, m + 1) := by
  rw [kindOf, h]
  simp only [hs, Option.map_some]
theorem sizeP_1 {n : Nat} {t : Dat} {s k : Str} {m : Nat} (ht : kindOf n t = some (k, m)) (hf : fitsS s k = true) : sizeP (kindOf n) [t] [s] = some m := by
  simp [sizeP, ht, hf]
theorem sizeP_2 {n : Nat} {t t' : Dat} {s s' k k' : Str} {m m' : Nat} (ht : kindOf n t = some (k, m)) (hf : fitsS s k = true) (ht' : kindOf n t' = some (k', m')) (hf' : fitsS s' k' = true) : sizeP (kindOf n) [t, t'] [s, s'] = some (m + m') := by
  simp [sizeP, ht, hf, ht', hf']
theorem fits_self (k : Str) : fitsS k k = true := by simp [fitsS]
theorem fits_any (k : Str) : fitsS "" k = true := by simp [fitsS]
theorem kind_w1 {n : Nat} {w k s : Str} {t : Dat} {m : Nat} (h1 : w ≠ "name") (h2 : w ≠ "call") (hr : row w = some (k, none, [s])) (ht : kindOf n t = some (s, m)) : kindOf (n + 1) (.tup [.str w, t]) = some (k, m + 1) :=
  kind_of_shape (shape_row h1 h2 hr (by simp [behind])) (sizeP_1 ht (fits_self s))
theorem kind_w2 {n : Nat} {w k s s' : Str} {t t' : Dat} {m m' : Nat} (h1 : w ≠ "name") (h2 : w ≠ "call") (hr : row w = some (k, none, [s, s'])) (ht : kindOf n t = some (s, m)) (ht' : kindOf n t' = some (s', m')) : kindOf (n + 1) (.tup [.str w, t, t']) = some (k, m + m' + 1) :=
  kind_of_shape (shape_row h1 h2 hr (by simp [behind])) (sizeP_2 ht (fits_self s) ht' (fits_self s'))
theorem kind_times {n : Nat} {t : Dat} {m : Nat} {z : Int} (hz : -1000000 ≤ z ∧ z ≤ 1000000) (ht : kindOf n t = some (("num" : Str), m)) : kindOf (n + 1) (.tup [.str "times", .int z, t]) = some (("num" : Str), m + 1) :=
  kind_of_shape (shape_row (w := "times") (k := "num") (b := some (-1000000, 1000000)) (ss := ["num"]) (ts := [t]) (by decide) (by decide) (by decide +kernel) (by simp [behind, hz.1, hz.2])) (sizeP_1 ht (fits_self _))
theorem kind_number {n : Nat} {z : Int} (hz : -1000000 ≤ z ∧ z ≤ 1000000) : kindOf (n + 1) (.tup [.str "number", .int z]) = some (("num" : Str), 1) :=
  kind_of_shape (m := 0) (shape_row (w := "number") (k := "num") (b := some (-1000000, 1000000)) (ss := []) (ts := []) (by decide) (by decide) (by decide +kernel) (by simp [behind, hz.1, hz.2])) rfl
theorem kind_bits {n : Nat} {z : Int} (hz : 0 ≤ z ∧ z ≤ 15) : kindOf (n + 1) (.tup [.str "bits", .int z]) = some (("bits" : Str), 1) :=
  kind_of_shape (m := 0) (shape_row (w := "bits") (k := "bits") (b := some (0, 15)) (ss := []) (ts := []) (by decide) (by decide) (by decide +kernel) (by simp [behind, hz.1, hz.2])) rfl
theorem kind_none {n : Nat} : kindOf (n + 1) (.tup [.str "none"]) = some (("set" : Str), 1) :=
  kind_of_shape (m := 0) (shape_row (w := "none") (k := "set") (b := none) (ss := []) (ts := []) (by decide) (by decide) (by decide +kernel) (by simp [behind])) rfl
theorem kind_name {n : Nat} {z k : Str} (hz : isName (.str z) = true) (hk : k ∈ sorts) : kindOf (n + 1) (.tup [.str "name", .str z, .str k]) = some (k, 1) := by
  refine kind_of_shape (m := 0) (ss := []) (ts := []) ?_ rfl
  unfold shape
  simp only [if_pos, hz, isSort, hk, decide_true, Bool.and_self, strOr]
theorem kind_call1 {n : Nat} {z k k' : Str} {t : Dat} {m : Nat} (hz : isName (.str z) = true) (hk : k ∈ sorts) (ht : kindOf n t = some (k', m)) : kindOf (n + 1) (.tup [.str "call", .str z, .tup [t], .str k]) = some (k, m + 1) := by
  refine kind_of_shape (ss := [""]) (ts := [t]) ?_ (sizeP_1 ht (fits_any _))
  unfold shape
  dsimp only
  rw [if_neg (by decide), if_pos rfl]
  simp [hz, isSort, hk, strOr]
theorem kind_call2 {n : Nat} {z k k' k2 : Str} {t t' : Dat} {m m' : Nat} (hz : isName (.str z) = true) (hk : k ∈ sorts) (ht : kindOf n t = some (k', m)) (ht' : kindOf n t' = some (k2, m')) : kindOf (n + 1) (.tup [.str "call", .str z, .tup [t, t'], .str k]) = some (k, m + m' + 1) := by
  refine kind_of_shape (ss := ["", ""]) (ts := [t, t']) ?_ (sizeP_2 ht (fits_any _) ht' (fits_any _))
  unfold shape
  dsimp only
  rw [if_neg (by decide), if_pos rfl]
  simp [hz, isSort, hk, strOr]
theorem name_ok {z : Str} (h : isName (.str z) = true) : okB (.str z) = true := by
  unfold isName at h
  simp only [Bool.and_eq_true, decide_eq_true_eq, List.all_eq_true] at h
  rw [okB, Bool.and_eq_true]
  refine ⟨decide_eq_true (by omega), ?_⟩
  rw [← Array.all_toList, List.all_eq_true]
  intro c hc
  have q := h.2 c hc
  unfold small at q
  simp only [Bool.and_eq_true, decide_eq_true_eq] at q
  exact decide_eq_true (by omega)
theorem sort_ok {k : Str} (h : k ∈ sorts) : okB (.str k) = true := by
  have q : sorts.all (fun k => okB (.str k)) = true := by decide +kernel
  exact List.all_eq_true.mp q k h
theorem okB_int (z : Int) : okB (.int z) = true := by simp [okB]
theorem okB_w {w : Str} (h : w ∈ (["number", "bits", "none", "name", "call", "times", "plus", "tip", "node", "one", "union", "both", "without", "bnot", "band", "bor", "badd"] : List Str)) : okB (.str w) = true := by
  have q : (["number", "bits", "none", "name", "call", "times", "plus", "tip", "node", "one", "union", "both", "without", "bnot", "band", "bor", "badd"] : List Str).all (fun w => okB (.str w)) = true := by decide +kernel
  exact List.all_eq_true.mp q w h
theorem okB_0 {w : Str} (h : okB (.str w) = true) : okB (.tup [.str w]) = true := okB_T h (fun _ hd => by cases hd)
theorem okB_1 {w : Str} {a : Dat} (h : okB (.str w) = true) (ha : okB a = true) : okB (.tup [.str w, a]) = true := okB_T h (one_in ha)
theorem okB_2 {w : Str} {a b : Dat} (h : okB (.str w) = true) (ha : okB a = true) (hb : okB b = true) : okB (.tup [.str w, a, b]) = true := okB_T h (two_in ha hb)
theorem okB_3 {w : Str} {a b c : Dat} (h : okB (.str w) = true) (ha : okB a = true) (hb : okB b = true) (hc : okB c = true) : okB (.tup [.str w, a, b, c]) = true := okB_T h fun d hd => by
  rcases List.mem_cons.mp hd with rfl | hd
  · exact ha
  · exact two_in (P := fun d => okB d = true) hb hc d hd
theorem okB_p1 {a : Dat} (ha : okB a = true) : okB (.tup [a]) = true := okB_tup.mpr (one_in ha)
theorem okB_p2 {a b : Dat} (ha : okB a = true) (hb : okB b = true) : okB (.tup [a, b]) = true := okB_tup.mpr (two_in ha hb)
/-- a term of a sort, at most so deep, of so many parts -/
def Tm (n : Nat) (k : Str) (m : Nat) (d : Dat) : Prop := kindOf n d = some (k, m) ∧ okB d = true
theorem Tm.up {n n' : Nat} {k : Str} {m : Nat} {d : Dat} (h : Tm n k m d) (hn : n ≤ n') : Tm n' k m d := by
  refine ⟨?_, h.2⟩
  induction hn with
  | refl => exact h.1
  | step _ ih => exact kindOf_mono ih
theorem tm_number {z : Int} (hz : -1000000 ≤ z ∧ z ≤ 1000000) : Tm 1 "num" 1 (.tup [.str "number", .int z]) := ⟨kind_number hz, okB_1 (okB_w (by decide)) (okB_int z)⟩
theorem tm_bits {z : Int} (hz : 0 ≤ z ∧ z ≤ 15) : Tm 1 "bits" 1 (.tup [.str "bits", .int z]) := ⟨kind_bits hz, okB_1 (okB_w (by decide)) (okB_int z)⟩
theorem tm_none : Tm 1 "set" 1 (.tup [.str "none"]) := ⟨kind_none, okB_0 (okB_w (by decide))⟩
theorem tm_name {z k : Str} (hz : isName (.str z) = true) (hk : k ∈ sorts) : Tm 1 k 1 (.tup [.str "name", .str z, .str k]) := ⟨kind_name hz hk, okB_2 (okB_w (by decide)) (name_ok hz) (sort_ok hk)⟩
theorem tm_call1 {n : Nat} {z k k' : Str} {t : Dat} {m : Nat} (hz : isName (.str z) = true) (hk : k ∈ sorts) (ht : Tm n k' m t) : Tm (n + 1) k (m + 1) (.tup [.str "call", .str z, .tup [t], .str k]) := ⟨kind_call1 hz hk ht.1, okB_3 (okB_w (by decide)) (name_ok hz) (okB_p1 ht.2) (sort_ok hk)⟩
theorem tm_call2 {n : Nat} {z k k' k2 : Str} {t t' : Dat} {m m' : Nat} (hz : isName (.str z) = true) (hk : k ∈ sorts) (ht : Tm n k' m t) (ht' : Tm n k2 m' t') : Tm (n + 1) k (m + m' + 1) (.tup [.str "call", .str z, .tup [t, t'], .str k]) :=
  ⟨kind_call2 hz hk ht.1 ht'.1, okB_3 (okB_w (by decide)) (name_ok hz) (okB_p2 ht.2 ht'.2) (sort_ok hk)⟩
theorem tm_times {n : Nat} {t : Dat} {m : Nat} {z : Int} (hz : -1000000 ≤ z ∧ z ≤ 1000000) (ht : Tm n "num" m t) : Tm (n + 1) "num" (m + 1) (.tup [.str "times", .int z, t]) := ⟨kind_times hz ht.1, okB_2 (okB_w (by decide)) (okB_int z) ht.2⟩
theorem tm_w1 {n : Nat} {w k s : Str} {t : Dat} {m : Nat} (h1 : w ≠ "name") (h2 : w ≠ "call") (hr : row w = some (k, none, [s])) (hw : okB (.str w) = true) (ht : Tm n s m t) : Tm (n + 1) k (m + 1) (.tup [.str w, t]) := ⟨kind_w1 h1 h2 hr ht.1, okB_1 hw ht.2⟩
theorem tm_w2 {n : Nat} {w k s s' : Str} {t t' : Dat} {m m' : Nat} (h1 : w ≠ "name") (h2 : w ≠ "call") (hr : row w = some (k, none, [s, s'])) (hw : okB (.str w) = true) (ht : Tm n s m t) (ht' : Tm n s' m' t') : Tm (n + 1) k (m + m' + 1) (.tup [.str w, t, t']) := ⟨kind_w2 h1 h2 hr ht.1 ht'.1, okB_2 hw ht.2 ht'.2⟩
end K01
namespace K01
open PySem PySem.Spec PyProof.Rows L2 DL
theorem rdRaw_here {ρ : List DL.Slot} {n : Nat} {v : V} {P : V → Prop} (e : ρ[n]? = some (.raw v)) (h : P v) : rdRaw ρ n P := by unfold rdRaw; rw [e]; exact h
/-- a draw, asked where one stands -/
theorem draw_use {st : Sta Nat} {n : Nat} {v : V} {top : Int} {P : Dat → Nat → Prop} (hd : IsDraw st v) (h0 : 0 < top) (h1 : top < 1000000000) (hn : n < manyDraws) (h : ∀ x : Int, 0 ≤ x → x < top → P (.int x) (n + 1)) : conDraw.C st n [.raw v, .d (.int top)] P := ⟨v, top, hd, rfl, h0, h1, hn, h⟩
def wholeOk (z : Int) : Prop := -1000000 ≤ z ∧ z ≤ 1000000
def conWhole : ConS Nat := ⟨fun st n sl P => ∃ v : V, IsDraw st v ∧ sl = [.raw v] ∧ n + 3 < manyDraws ∧ ∀ (z : Int) (j : Nat), wholeOk z → j ≤ n + 3 → P (.int z) j,
  fun _ _ _ _ _ ⟨v, h0, e, h3, h⟩ m => ⟨v, h0, e, h3, fun x j a b => m _ _ (h x j a b)⟩⟩
section
variable {P : Program} {w : World} {K : PySem.W.Frag} {mg : Str → Option Value} {base : Heap} {f f2 : Addr} {fd fd2 : FuncData} {k : Nat}
abbrev s__law_whole : Stmt := topS 51
theorem sc__law_whole : FnScope ["m", "road"] ["m"] (defScope s__law_whole) := ⟨rfl, rfl, rfl, by decide +kernel, rfl, by decide +kernel, by decide +kernel⟩
-- calls ['_law_draw'] consts []
theorem ok_law_whole (F__law_draw : CalleeS P w K mg base "_law_draw" k ["m", "top"] conDraw) (F : Fun K "_law_whole" "_law_whole" s__law_whole f fd) : FnOk P w K mg base CX0 (k + 1) f fd ["m"] (spS K conWhole) := by
  refine fn_pureS F sc__law_whole (fun st i sl P ⟨v, _, e, _⟩ => by rw [e]; rfl) fun cdv A outer s H S hS st i0 h0 hf hr sl R hc => ?_
  have nd := sc__law_whole.nd
  have gs := gs_self (P := P) (w := w) (K := K) (mg := mg) (base := base) (N := ["m", "road"]) (qual := "_law_whole") (sc := defScope s__law_whole) (f := f) (cdv := cdv) (A := A) (outer := outer) (s := s) (hS := hS) (h0 := h0) hf
  refine ⟨_, (dbr_cons (dsr_set 1 (dr_fnS gs F__law_draw hr (dsl_raw 0 (dsl_d (dr_of fun i => de_int) dsl_nil)) (by omega)) nd) (dbr_cons (dsr_if (dtr_of fun i => (dt_lt (de_var 1) de_int)) (dbr_one (dsr_ret (dr_ix (dr_lst (dar_cons (dr_fnS gs F__law_draw hr (dsl_raw 0 (dsl_d (dr_of fun i => de_int) dsl_nil)) (by omega)) (dar_cons (dr_sub (dr_fnS gs F__law_draw hr (dsl_raw 0 (dsl_d (dr_of fun i => de_int) dsl_nil)) (by omega)) (dr_of fun i => de_int)) dar_nil))) (dr_of fun i => (de_var 1))))) dbr_nil) (dbr_one (dsr_ret (dr_ix (dr_lst (dar_cons (dr_sub (dr_of fun i => (de_pow de_int de_int)) (dr_fnS gs F__law_draw hr (dsl_raw 0 (dsl_d (dr_of fun i => de_int) dsl_nil)) (by omega))) (dar_cons (dr_sub (dr_fnS gs F__law_draw hr (dsl_raw 0 (dsl_d (dr_of fun i => de_int) dsl_nil)) (by omega)) (dr_of fun i => (de_pow de_int de_int))) dar_nil))) (dr_of fun i => (de_sub (de_var 1) de_int))))))), ?_⟩
  obtain ⟨v, hd, rfl, hn, h⟩ := hc
  repeat (first | refine rd_here rfl ?_ | refine ownL_here rfl ?_ | rw [isI_int] | rw [addD_int] | rw [int0_int] | rw [someD_some] | refine rdRaw_here rfl ?_ | rw [isB_bl] | rw [eqD_str] | rw [eqD_int] | refine And.intro (show CPow _ _ from ⟨by decide, by decide, by decide⟩) ?_ | refine And.intro (show 2 ≤ sizeLine by decide) ?_ | refine And.intro (show 1 ≤ sizeLine by decide) ?_ | refine And.intro (show 3 ≤ sizeLine by decide) ?_ | refine And.intro (show 4 ≤ sizeLine by decide) ?_ | refine And.intro (show 5 ≤ sizeLine by decide) ?_ | dsimp only)
  refine draw_use hd (by decide) (by decide) (by omega) fun r hr0 hr1 => ?_
  refine ⟨fun b j => j = i0 + 1 ∧ b = decide (r < 2), ?_, ?_, ?_⟩
  · repeat (first | refine rd_here rfl ?_ | refine ownL_here rfl ?_ | rw [isI_int] | rw [addD_int] | rw [int0_int] | rw [someD_some] | refine rdRaw_here rfl ?_ | rw [isB_bl] | rw [eqD_str] | rw [eqD_int] | refine And.intro (show CPow _ _ from ⟨by decide, by decide, by decide⟩) ?_ | refine And.intro (show 2 ≤ sizeLine by decide) ?_ | refine And.intro (show 1 ≤ sizeLine by decide) ?_ | refine And.intro (show 3 ≤ sizeLine by decide) ?_ | refine And.intro (show 4 ≤ sizeLine by decide) ?_ | refine And.intro (show 5 ≤ sizeLine by decide) ?_ | dsimp only)
    exact ⟨rfl, rfl⟩
  · rintro j ⟨rfl, hb⟩
    have hr2 : r < 2 := of_decide_eq_true hb.symm
    repeat (first | refine rd_here rfl ?_ | refine ownL_here rfl ?_ | rw [isI_int] | rw [addD_int] | rw [int0_int] | rw [someD_some] | refine rdRaw_here rfl ?_ | rw [isB_bl] | rw [eqD_str] | rw [eqD_int] | refine And.intro (show CPow _ _ from ⟨by decide, by decide, by decide⟩) ?_ | refine And.intro (show 2 ≤ sizeLine by decide) ?_ | refine And.intro (show 1 ≤ sizeLine by decide) ?_ | refine And.intro (show 3 ≤ sizeLine by decide) ?_ | refine And.intro (show 4 ≤ sizeLine by decide) ?_ | refine And.intro (show 5 ≤ sizeLine by decide) ?_ | dsimp only)
    refine draw_use hd (by decide) (by decide) (by omega) fun x hx0 hx1 => ?_
    repeat (first | refine rd_here rfl ?_ | refine ownL_here rfl ?_ | rw [isI_int] | rw [addD_int] | rw [int0_int] | rw [someD_some] | refine rdRaw_here rfl ?_ | rw [isB_bl] | rw [eqD_str] | rw [eqD_int] | refine And.intro (show CPow _ _ from ⟨by decide, by decide, by decide⟩) ?_ | refine And.intro (show 2 ≤ sizeLine by decide) ?_ | refine And.intro (show 1 ≤ sizeLine by decide) ?_ | refine And.intro (show 3 ≤ sizeLine by decide) ?_ | refine And.intro (show 4 ≤ sizeLine by decide) ?_ | refine And.intro (show 5 ≤ sizeLine by decide) ?_ | dsimp only)
    refine draw_use hd (by decide) (by decide) (by omega) fun y hy0 hy1 => ?_
    repeat (first | refine rd_here rfl ?_ | refine ownL_here rfl ?_ | rw [isI_int] | rw [addD_int] | rw [int0_int] | rw [someD_some] | refine rdRaw_here rfl ?_ | rw [isB_bl] | rw [eqD_str] | rw [eqD_int] | refine And.intro (show CPow _ _ from ⟨by decide, by decide, by decide⟩) ?_ | refine And.intro (show 2 ≤ sizeLine by decide) ?_ | refine And.intro (show 1 ≤ sizeLine by decide) ?_ | refine And.intro (show 3 ≤ sizeLine by decide) ?_ | refine And.intro (show 4 ≤ sizeLine by decide) ?_ | refine And.intro (show 5 ≤ sizeLine by decide) ?_ | dsimp only)
    have h2 : r = 0 ∨ r = 1 := by omega
    rcases h2 with rfl | rfl
    · exact h x _ ⟨by omega, by omega⟩ (by omega)
    · exact h (y - 9) _ ⟨by omega, by omega⟩ (by omega)
  · rintro j ⟨rfl, hb⟩
    have hr2 : ¬ r < 2 := fun z => by rw [decide_eq_true z] at hb; cases hb
    repeat (first | refine rd_here rfl ?_ | refine ownL_here rfl ?_ | rw [isI_int] | rw [addD_int] | rw [int0_int] | rw [someD_some] | refine rdRaw_here rfl ?_ | rw [isB_bl] | rw [eqD_str] | rw [eqD_int] | refine And.intro (show CPow _ _ from ⟨by decide, by decide, by decide⟩) ?_ | refine And.intro (show 2 ≤ sizeLine by decide) ?_ | refine And.intro (show 1 ≤ sizeLine by decide) ?_ | refine And.intro (show 3 ≤ sizeLine by decide) ?_ | refine And.intro (show 4 ≤ sizeLine by decide) ?_ | refine And.intro (show 5 ≤ sizeLine by decide) ?_ | dsimp only)
    refine draw_use hd (by decide) (by decide) (by omega) fun x hx0 hx1 => ?_
    repeat (first | refine rd_here rfl ?_ | refine ownL_here rfl ?_ | rw [isI_int] | rw [addD_int] | rw [int0_int] | rw [someD_some] | refine rdRaw_here rfl ?_ | rw [isB_bl] | rw [eqD_str] | rw [eqD_int] | refine And.intro (show CPow _ _ from ⟨by decide, by decide, by decide⟩) ?_ | refine And.intro (show 2 ≤ sizeLine by decide) ?_ | refine And.intro (show 1 ≤ sizeLine by decide) ?_ | refine And.intro (show 3 ≤ sizeLine by decide) ?_ | refine And.intro (show 4 ≤ sizeLine by decide) ?_ | refine And.intro (show 5 ≤ sizeLine by decide) ?_ | dsimp only)
    refine draw_use hd (by decide) (by decide) (by omega) fun y hy0 hy1 => ?_
    repeat (first | refine rd_here rfl ?_ | refine ownL_here rfl ?_ | rw [isI_int] | rw [addD_int] | rw [int0_int] | rw [someD_some] | refine rdRaw_here rfl ?_ | rw [isB_bl] | rw [eqD_str] | rw [eqD_int] | refine And.intro (show CPow _ _ from ⟨by decide, by decide, by decide⟩) ?_ | refine And.intro (show 2 ≤ sizeLine by decide) ?_ | refine And.intro (show 1 ≤ sizeLine by decide) ?_ | refine And.intro (show 3 ≤ sizeLine by decide) ?_ | refine And.intro (show 4 ≤ sizeLine by decide) ?_ | refine And.intro (show 5 ≤ sizeLine by decide) ?_ | dsimp only)
    have h2 : r = 2 ∨ r = 3 := by omega
    rcases h2 with rfl | rfl
    · exact h (10 ^ 6 - x) _ ⟨by omega, by omega⟩ (by omega)
    · exact h (y - 10 ^ 6) _ ⟨by omega, by omega⟩ (by omega)
/-- the names that terms are made of -/
def wordsOk (ws : List Str) : Prop := ws.length = 20 ∧ ∀ z ∈ ws, isName (.str z) = true
theorem ws_at {ws : List Str} (h : wordsOk ws) {i : Int} (h0 : 0 ≤ i) (h1 : i < 20) : ∃ z, isName (.str z) = true ∧ atI (ws.map Dat.str) i = some (.str z) := by
  have hl : i.toNat < ws.length := by rw [h.1]; omega
  refine ⟨ws[i.toNat], h.2 _ (List.getElem_mem _), ?_⟩
  have e : atI (ws.map Dat.str) ((i.toNat : Nat) : Int) = some (.str ws[i.toNat]) := atI_nat (by simp [List.getElem?_map, List.getElem?_eq_getElem hl])
  rw [Int.toNat_of_nonneg h0] at e
  exact e
def conLeaf : ConS Nat := ⟨fun st n sl P => ∃ (v : V) (ws : List Str) (k : Str), IsDraw st v ∧ sl = [.raw v, .d (.lst (ws.map Dat.str)), .d (.str k)] ∧ wordsOk ws ∧ k ∈ sorts ∧ n + 10 < manyDraws ∧ ∀ (d : Dat) (j : Nat), Tm 1 k 1 d → j ≤ n + 10 → P d j,
  fun _ _ _ _ _ ⟨v, ws, k, h0, e, h1, h2, h3, h⟩ m => ⟨v, ws, k, h0, e, h1, h2, h3, fun x j a b => m _ _ (h x j a b)⟩⟩
abbrev s__law_leaf : Stmt := topS 52
theorem sc__law_leaf : FnScope ["m", "w", "kind", "spot"] ["m", "w", "kind"] (defScope s__law_leaf) := ⟨rfl, rfl, rfl, by decide +kernel, rfl, by decide +kernel, by decide +kernel⟩
-- calls ['_law_draw', '_law_whole'] consts []
theorem kind_spot : ∀ k ∈ sorts, ∃ j : Nat, (["thing", "num", "tree", "set", "bits"] : List Str)[j]? = some k ∧ (∀ m : Nat, m < j → (["thing", "num", "tree", "set", "bits"] : List Str)[m]? ≠ some k) ∧ j < 5 := by
  intro k hk
  have hk' : k = "thing" ∨ k = "num" ∨ k = "tree" ∨ k = "set" ∨ k = "bits" := by simpa [sorts] using hk
  rcases hk' with rfl | rfl | rfl | rfl | rfl
  · exact ⟨0, rfl, fun m hm => absurd hm (by omega), by omega⟩
  · exact ⟨1, rfl, fun m hm => by have : m = 0 := by omega
                                  subst this; decide, by omega⟩
  · exact ⟨2, rfl, fun m hm => by have : m = 0 ∨ m = 1 := by omega
                                  rcases this with rfl | rfl <;> decide, by omega⟩
  · exact ⟨3, rfl, fun m hm => by have : m = 0 ∨ m = 1 ∨ m = 2 := by omega
                                  rcases this with rfl | rfl | rfl <;> decide, by omega⟩
  · exact ⟨4, rfl, fun m hm => by have : m = 0 ∨ m = 1 ∨ m = 2 ∨ m = 3 := by omega
                                  rcases this with rfl | rfl | rfl | rfl <;> decide, by omega⟩
theorem ok_law_leafg (F__law_draw : CalleeS P w K mg base "_law_draw" k ["m", "top"] conDraw) (F__law_whole : CalleeS P w K mg base "_law_whole" k ["m"] conWhole) (F : Fun K "_law_leaf" "_law_leaf" s__law_leaf f fd) : FnOk P w K mg base CX0 (k + 1) f fd ["m", "w", "kind"] (spS K conLeaf) := by
  refine fn_pureS F sc__law_leaf (fun st i sl P ⟨v, _, _, _, e, _⟩ => by rw [e]; rfl) fun cdv A outer s H S hS st i0 h0 hf hr sl R hc => ?_
  have nd := sc__law_leaf.nd
  have gs := gs_self (P := P) (w := w) (K := K) (mg := mg) (base := base) (N := ["m", "w", "kind", "spot"]) (qual := "_law_leaf") (sc := defScope s__law_leaf) (f := f) (cdv := cdv) (A := A) (outer := outer) (s := s) (hS := hS) (h0 := h0) hf
  refine ⟨_, (dbr_cons (dsr_if (dtr_w (dwr_and (dtr_of fun i => (dt_eq hr.units (de_var 2) de_str)) (dwr_and1 (dtr_eq hr.units (dr_fnS gs F__law_draw hr (dsl_raw 0 (dsl_d (dr_of fun i => de_int) dsl_nil)) (by omega)) (dr_of fun i => de_int))))) (dbr_one (dsr_ret (dr_tup (dar_cons (dr_of fun i => de_str) (dar_cons (dr_fnS gs F__law_whole hr (dsl_raw 0 dsl_nil) (by omega)) dar_nil))))) dbr_nil) (dbr_cons (dsr_if (dtr_w (dwr_and (dtr_of fun i => (dt_eq hr.units (de_var 2) de_str)) (dwr_and1 (dtr_eq hr.units (dr_fnS gs F__law_draw hr (dsl_raw 0 (dsl_d (dr_of fun i => de_int) dsl_nil)) (by omega)) (dr_of fun i => de_int))))) (dbr_one (dsr_ret (dr_tup (dar_cons (dr_of fun i => de_str) (dar_cons (dr_fnS gs F__law_draw hr (dsl_raw 0 (dsl_d (dr_of fun i => de_int) dsl_nil)) (by omega)) dar_nil))))) dbr_nil) (dbr_cons (dsr_if (dtr_w (dwr_and (dtr_of fun i => (dt_eq hr.units (de_var 2) de_str)) (dwr_and1 (dtr_eq hr.units (dr_fnS gs F__law_draw hr (dsl_raw 0 (dsl_d (dr_of fun i => de_int) dsl_nil)) (by omega)) (dr_of fun i => de_int))))) (dbr_one (dsr_ret (dr_of fun i => (de_tup (da_cons de_str da_nil))))) dbr_nil) (dbr_cons (dsr_set 3 (dr_of fun i => (de_index (de_lst (da_cons de_str (da_cons de_str (da_cons de_str (da_cons de_str (da_cons de_str da_nil)))))) (de_var 2))) nd) (dbr_one (dsr_ret (dr_tup (dar_cons (dr_of fun i => de_str) (dar_cons (dr_ix (dr_of fun i => (de_var 1)) (dr_add (dr_of fun i => (de_var 3)) (dr_mulI (dr_of fun i => de_int) (dr_fnS gs F__law_draw hr (dsl_raw 0 (dsl_d (dr_of fun i => de_int) dsl_nil)) (by omega))))) (dar_cons (dr_of fun i => (de_var 2)) dar_nil)))))))))), ?_⟩
  obtain ⟨v, ws, kd, hd, rfl, hws, hkd, hn, h⟩ := hc
  refine ⟨fun b j => j ≤ i0 + 1 ∧ (b = true → kd = "num"), ?_, fun j hp => ?_, fun j hp => ?_⟩
  · repeat (first | refine rd_here rfl ?_ | refine ownL_here rfl ?_ | rw [isI_int] | rw [addD_int] | rw [int0_int] | rw [someD_some] | refine rdRaw_here rfl ?_ | rw [isB_bl] | rw [eqD_str] | rw [eqD_int] | refine And.intro (show CPow _ _ from ⟨by decide, by decide, by decide⟩) ?_ | refine And.intro (show 2 ≤ sizeLine by decide) ?_ | refine And.intro (show 1 ≤ sizeLine by decide) ?_ | refine And.intro (show 3 ≤ sizeLine by decide) ?_ | refine And.intro (show 4 ≤ sizeLine by decide) ?_ | refine And.intro (show 5 ≤ sizeLine by decide) ?_ | dsimp only)
    by_cases e : kd = "num"
    · rw [if_pos (decide_eq_true e)]
      repeat (first | refine rd_here rfl ?_ | refine ownL_here rfl ?_ | rw [isI_int] | rw [addD_int] | rw [int0_int] | rw [someD_some] | refine rdRaw_here rfl ?_ | rw [isB_bl] | rw [eqD_str] | rw [eqD_int] | refine And.intro (show CPow _ _ from ⟨by decide, by decide, by decide⟩) ?_ | refine And.intro (show 2 ≤ sizeLine by decide) ?_ | refine And.intro (show 1 ≤ sizeLine by decide) ?_ | refine And.intro (show 3 ≤ sizeLine by decide) ?_ | refine And.intro (show 4 ≤ sizeLine by decide) ?_ | refine And.intro (show 5 ≤ sizeLine by decide) ?_ | dsimp only)
      refine draw_use hd (by decide) (by decide) (by omega) fun x hx0 hx1 => ?_
      repeat (first | refine rd_here rfl ?_ | refine ownL_here rfl ?_ | rw [isI_int] | rw [addD_int] | rw [int0_int] | rw [someD_some] | refine rdRaw_here rfl ?_ | rw [isB_bl] | rw [eqD_str] | rw [eqD_int] | refine And.intro (show CPow _ _ from ⟨by decide, by decide, by decide⟩) ?_ | refine And.intro (show 2 ≤ sizeLine by decide) ?_ | refine And.intro (show 1 ≤ sizeLine by decide) ?_ | refine And.intro (show 3 ≤ sizeLine by decide) ?_ | refine And.intro (show 4 ≤ sizeLine by decide) ?_ | refine And.intro (show 5 ≤ sizeLine by decide) ?_ | dsimp only)
      exact ⟨by omega, fun _ => e⟩
    · rw [if_neg (fun z => e (of_decide_eq_true z))]
      exact ⟨by omega, fun z => nomatch z⟩
  · obtain rfl := hp.2 rfl
    have hj := hp.1
    repeat (first | refine rd_here rfl ?_ | refine ownL_here rfl ?_ | rw [isI_int] | rw [addD_int] | rw [int0_int] | rw [someD_some] | refine rdRaw_here rfl ?_ | rw [isB_bl] | rw [eqD_str] | rw [eqD_int] | refine And.intro (show CPow _ _ from ⟨by decide, by decide, by decide⟩) ?_ | refine And.intro (show 2 ≤ sizeLine by decide) ?_ | refine And.intro (show 1 ≤ sizeLine by decide) ?_ | refine And.intro (show 3 ≤ sizeLine by decide) ?_ | refine And.intro (show 4 ≤ sizeLine by decide) ?_ | refine And.intro (show 5 ≤ sizeLine by decide) ?_ | dsimp only)
    refine ⟨v, hd, rfl, by omega, fun z j' hz hj' => ?_⟩
    repeat (first | refine rd_here rfl ?_ | refine ownL_here rfl ?_ | rw [isI_int] | rw [addD_int] | rw [int0_int] | rw [someD_some] | refine rdRaw_here rfl ?_ | rw [isB_bl] | rw [eqD_str] | rw [eqD_int] | refine And.intro (show CPow _ _ from ⟨by decide, by decide, by decide⟩) ?_ | refine And.intro (show 2 ≤ sizeLine by decide) ?_ | refine And.intro (show 1 ≤ sizeLine by decide) ?_ | refine And.intro (show 3 ≤ sizeLine by decide) ?_ | refine And.intro (show 4 ≤ sizeLine by decide) ?_ | refine And.intro (show 5 ≤ sizeLine by decide) ?_ | dsimp only)
    exact h _ _ (tm_number hz) (by omega)
  have hj1 := hp.1
  refine ⟨fun b j2 => j2 ≤ j + 1 ∧ (b = true → kd = "bits"), ?_, fun j2 hp => ?_, fun j2 hp => ?_⟩
  · repeat (first | refine rd_here rfl ?_ | refine ownL_here rfl ?_ | rw [isI_int] | rw [addD_int] | rw [int0_int] | rw [someD_some] | refine rdRaw_here rfl ?_ | rw [isB_bl] | rw [eqD_str] | rw [eqD_int] | refine And.intro (show CPow _ _ from ⟨by decide, by decide, by decide⟩) ?_ | refine And.intro (show 2 ≤ sizeLine by decide) ?_ | refine And.intro (show 1 ≤ sizeLine by decide) ?_ | refine And.intro (show 3 ≤ sizeLine by decide) ?_ | refine And.intro (show 4 ≤ sizeLine by decide) ?_ | refine And.intro (show 5 ≤ sizeLine by decide) ?_ | dsimp only)
    by_cases e : kd = "bits"
    · rw [if_pos (decide_eq_true e)]
      repeat (first | refine rd_here rfl ?_ | refine ownL_here rfl ?_ | rw [isI_int] | rw [addD_int] | rw [int0_int] | rw [someD_some] | refine rdRaw_here rfl ?_ | rw [isB_bl] | rw [eqD_str] | rw [eqD_int] | refine And.intro (show CPow _ _ from ⟨by decide, by decide, by decide⟩) ?_ | refine And.intro (show 2 ≤ sizeLine by decide) ?_ | refine And.intro (show 1 ≤ sizeLine by decide) ?_ | refine And.intro (show 3 ≤ sizeLine by decide) ?_ | refine And.intro (show 4 ≤ sizeLine by decide) ?_ | refine And.intro (show 5 ≤ sizeLine by decide) ?_ | dsimp only)
      refine draw_use hd (by decide) (by decide) (by omega) fun x hx0 hx1 => ?_
      repeat (first | refine rd_here rfl ?_ | refine ownL_here rfl ?_ | rw [isI_int] | rw [addD_int] | rw [int0_int] | rw [someD_some] | refine rdRaw_here rfl ?_ | rw [isB_bl] | rw [eqD_str] | rw [eqD_int] | refine And.intro (show CPow _ _ from ⟨by decide, by decide, by decide⟩) ?_ | refine And.intro (show 2 ≤ sizeLine by decide) ?_ | refine And.intro (show 1 ≤ sizeLine by decide) ?_ | refine And.intro (show 3 ≤ sizeLine by decide) ?_ | refine And.intro (show 4 ≤ sizeLine by decide) ?_ | refine And.intro (show 5 ≤ sizeLine by decide) ?_ | dsimp only)
      exact ⟨by omega, fun _ => e⟩
    · rw [if_neg (fun z => e (of_decide_eq_true z))]
      exact ⟨by omega, fun z => nomatch z⟩
  · obtain rfl := hp.2 rfl
    have hj := hp.1
    repeat (first | refine rd_here rfl ?_ | refine ownL_here rfl ?_ | rw [isI_int] | rw [addD_int] | rw [int0_int] | rw [someD_some] | refine rdRaw_here rfl ?_ | rw [isB_bl] | rw [eqD_str] | rw [eqD_int] | refine And.intro (show CPow _ _ from ⟨by decide, by decide, by decide⟩) ?_ | refine And.intro (show 2 ≤ sizeLine by decide) ?_ | refine And.intro (show 1 ≤ sizeLine by decide) ?_ | refine And.intro (show 3 ≤ sizeLine by decide) ?_ | refine And.intro (show 4 ≤ sizeLine by decide) ?_ | refine And.intro (show 5 ≤ sizeLine by decide) ?_ | dsimp only)
    refine draw_use hd (by decide) (by decide) (by omega) fun x hx0 hx1 => ?_
    repeat (first | refine rd_here rfl ?_ | refine ownL_here rfl ?_ | rw [isI_int] | rw [addD_int] | rw [int0_int] | rw [someD_some] | refine rdRaw_here rfl ?_ | rw [isB_bl] | rw [eqD_str] | rw [eqD_int] | refine And.intro (show CPow _ _ from ⟨by decide, by decide, by decide⟩) ?_ | refine And.intro (show 2 ≤ sizeLine by decide) ?_ | refine And.intro (show 1 ≤ sizeLine by decide) ?_ | refine And.intro (show 3 ≤ sizeLine by decide) ?_ | refine And.intro (show 4 ≤ sizeLine by decide) ?_ | refine And.intro (show 5 ≤ sizeLine by decide) ?_ | dsimp only)
    exact h _ _ (tm_bits ⟨hx0, by omega⟩) (by omega)
  have hj2 := hp.1
  refine ⟨fun b j3 => j3 ≤ j2 + 1 ∧ (b = true → kd = "set"), ?_, fun j3 hp => ?_, fun j3 hp => ?_⟩
  · repeat (first | refine rd_here rfl ?_ | refine ownL_here rfl ?_ | rw [isI_int] | rw [addD_int] | rw [int0_int] | rw [someD_some] | refine rdRaw_here rfl ?_ | rw [isB_bl] | rw [eqD_str] | rw [eqD_int] | refine And.intro (show CPow _ _ from ⟨by decide, by decide, by decide⟩) ?_ | refine And.intro (show 2 ≤ sizeLine by decide) ?_ | refine And.intro (show 1 ≤ sizeLine by decide) ?_ | refine And.intro (show 3 ≤ sizeLine by decide) ?_ | refine And.intro (show 4 ≤ sizeLine by decide) ?_ | refine And.intro (show 5 ≤ sizeLine by decide) ?_ | dsimp only)
    by_cases e : kd = "set"
    · rw [if_pos (decide_eq_true e)]
      repeat (first | refine rd_here rfl ?_ | refine ownL_here rfl ?_ | rw [isI_int] | rw [addD_int] | rw [int0_int] | rw [someD_some] | refine rdRaw_here rfl ?_ | rw [isB_bl] | rw [eqD_str] | rw [eqD_int] | refine And.intro (show CPow _ _ from ⟨by decide, by decide, by decide⟩) ?_ | refine And.intro (show 2 ≤ sizeLine by decide) ?_ | refine And.intro (show 1 ≤ sizeLine by decide) ?_ | refine And.intro (show 3 ≤ sizeLine by decide) ?_ | refine And.intro (show 4 ≤ sizeLine by decide) ?_ | refine And.intro (show 5 ≤ sizeLine by decide) ?_ | dsimp only)
      refine draw_use hd (by decide) (by decide) (by omega) fun x hx0 hx1 => ?_
      repeat (first | refine rd_here rfl ?_ | refine ownL_here rfl ?_ | rw [isI_int] | rw [addD_int] | rw [int0_int] | rw [someD_some] | refine rdRaw_here rfl ?_ | rw [isB_bl] | rw [eqD_str] | rw [eqD_int] | refine And.intro (show CPow _ _ from ⟨by decide, by decide, by decide⟩) ?_ | refine And.intro (show 2 ≤ sizeLine by decide) ?_ | refine And.intro (show 1 ≤ sizeLine by decide) ?_ | refine And.intro (show 3 ≤ sizeLine by decide) ?_ | refine And.intro (show 4 ≤ sizeLine by decide) ?_ | refine And.intro (show 5 ≤ sizeLine by decide) ?_ | dsimp only)
      exact ⟨by omega, fun _ => e⟩
    · rw [if_neg (fun z => e (of_decide_eq_true z))]
      exact ⟨by omega, fun z => nomatch z⟩
  · obtain rfl := hp.2 rfl
    have hj := hp.1
    repeat (first | refine rd_here rfl ?_ | refine ownL_here rfl ?_ | rw [isI_int] | rw [addD_int] | rw [int0_int] | rw [someD_some] | refine rdRaw_here rfl ?_ | rw [isB_bl] | rw [eqD_str] | rw [eqD_int] | refine And.intro (show CPow _ _ from ⟨by decide, by decide, by decide⟩) ?_ | refine And.intro (show 2 ≤ sizeLine by decide) ?_ | refine And.intro (show 1 ≤ sizeLine by decide) ?_ | refine And.intro (show 3 ≤ sizeLine by decide) ?_ | refine And.intro (show 4 ≤ sizeLine by decide) ?_ | refine And.intro (show 5 ≤ sizeLine by decide) ?_ | dsimp only)
    exact h _ _ tm_none (by omega)
  have hj3 := hp.1
  repeat (first | refine rd_here rfl ?_ | refine ownL_here rfl ?_ | rw [isI_int] | rw [addD_int] | rw [int0_int] | rw [someD_some] | refine rdRaw_here rfl ?_ | rw [isB_bl] | rw [eqD_str] | rw [eqD_int] | refine And.intro (show CPow _ _ from ⟨by decide, by decide, by decide⟩) ?_ | refine And.intro (show 2 ≤ sizeLine by decide) ?_ | refine And.intro (show 1 ≤ sizeLine by decide) ?_ | refine And.intro (show 3 ≤ sizeLine by decide) ?_ | refine And.intro (show 4 ≤ sizeLine by decide) ?_ | refine And.intro (show 5 ≤ sizeLine by decide) ?_ | dsimp only)
  obtain ⟨sp, hs1, hs2, hs3⟩ := kind_spot kd hkd
  refine ⟨sp, hs1, hs2, ?_⟩
  repeat (first | refine rd_here rfl ?_ | refine ownL_here rfl ?_ | rw [isI_int] | rw [addD_int] | rw [int0_int] | rw [someD_some] | refine rdRaw_here rfl ?_ | rw [isB_bl] | rw [eqD_str] | rw [eqD_int] | refine And.intro (show CPow _ _ from ⟨by decide, by decide, by decide⟩) ?_ | refine And.intro (show 2 ≤ sizeLine by decide) ?_ | refine And.intro (show 1 ≤ sizeLine by decide) ?_ | refine And.intro (show 3 ≤ sizeLine by decide) ?_ | refine And.intro (show 4 ≤ sizeLine by decide) ?_ | refine And.intro (show 5 ≤ sizeLine by decide) ?_ | dsimp only)
  refine draw_use hd (by decide) (by decide) (by omega) fun x hx0 hx1 => ?_
  repeat (first | refine rd_here rfl ?_ | refine ownL_here rfl ?_ | rw [isI_int] | rw [addD_int] | rw [int0_int] | rw [someD_some] | refine rdRaw_here rfl ?_ | rw [isB_bl] | rw [eqD_str] | rw [eqD_int] | refine And.intro (show CPow _ _ from ⟨by decide, by decide, by decide⟩) ?_ | refine And.intro (show 2 ≤ sizeLine by decide) ?_ | refine And.intro (show 1 ≤ sizeLine by decide) ?_ | refine And.intro (show 3 ≤ sizeLine by decide) ?_ | refine And.intro (show 4 ≤ sizeLine by decide) ?_ | refine And.intro (show 5 ≤ sizeLine by decide) ?_ | dsimp only)
  refine ⟨.inl (by decide), ?_⟩
  repeat (first | refine rd_here rfl ?_ | refine ownL_here rfl ?_ | rw [isI_int] | rw [addD_int] | rw [int0_int] | rw [someD_some] | refine rdRaw_here rfl ?_ | rw [isB_bl] | rw [eqD_str] | rw [eqD_int] | refine And.intro (show CPow _ _ from ⟨by decide, by decide, by decide⟩) ?_ | refine And.intro (show 2 ≤ sizeLine by decide) ?_ | refine And.intro (show 1 ≤ sizeLine by decide) ?_ | refine And.intro (show 3 ≤ sizeLine by decide) ?_ | refine And.intro (show 4 ≤ sizeLine by decide) ?_ | refine And.intro (show 5 ≤ sizeLine by decide) ?_ | dsimp only)
  obtain ⟨z, hz, hat⟩ := ws_at hws (i := (sp : Int) + 5 * x) (by omega) (by omega)
  rw [ixD_lst, hat, someD_some]
  repeat (first | refine rd_here rfl ?_ | refine ownL_here rfl ?_ | rw [isI_int] | rw [addD_int] | rw [int0_int] | rw [someD_some] | refine rdRaw_here rfl ?_ | rw [isB_bl] | rw [eqD_str] | rw [eqD_int] | refine And.intro (show CPow _ _ from ⟨by decide, by decide, by decide⟩) ?_ | refine And.intro (show 2 ≤ sizeLine by decide) ?_ | refine And.intro (show 1 ≤ sizeLine by decide) ?_ | refine And.intro (show 3 ≤ sizeLine by decide) ?_ | refine And.intro (show 4 ≤ sizeLine by decide) ?_ | refine And.intro (show 5 ≤ sizeLine by decide) ?_ | dsimp only)
  exact h _ _ (tm_name hz hkd) (by omega)
end
end K01
namespace K01
open PySem PySem.Spec PyProof.Rows L2 DL
/-! ### how many parts may come -/
def Bnd (deep : Nat) (r : Int) (m : Nat) : Prop := 1 ≤ m ∧ m + 1 ≤ 2 ^ deep ∧ ((m : Int) ≤ 1 ∨ (m : Int) ≤ 2 * (r - 4) + 1) ∧ (deep ≤ 6 → r ≤ 24 → m ≤ 40)
theorem bnd_0 {deep : Nat} {r : Int} (h : 1 ≤ deep) : Bnd deep r 1 := by
  refine ⟨Nat.le_refl _, ?_, .inl (Int.le_refl _), fun _ _ => by decide⟩
  exact Nat.le_trans (show 2 ≤ 2 ^ 1 by decide) (Nat.pow_le_pow_right (by decide) h)
theorem pow_32 {deep : Nat} (h : deep ≤ 5) : 2 ^ deep ≤ 32 := Nat.le_trans (Nat.pow_le_pow_right (by decide) h) (by decide)
theorem bnd_1 {deep m : Nat} {r : Int} (h : Bnd deep (r - 1) m) (hr : 5 ≤ r) : Bnd (deep + 1) r (m + 1) := by
  obtain ⟨h1, h2, h3, h4⟩ := h
  refine ⟨by omega, by rw [Nat.pow_succ]; omega, ?_, fun a b => ?_⟩
  · rcases h3 with h3 | h3 <;> right <;> omega
  · have q := pow_32 (deep := deep) (by omega)
    omega
theorem bnd_2 {deep m m' : Nat} {r : Int} (h : Bnd deep (r - 1) m) (h' : Bnd deep (r - 1 - m) m') (hr : 5 ≤ r) : Bnd (deep + 1) r (m + m' + 1) := by
  obtain ⟨h1, h2, h3, h4⟩ := h
  obtain ⟨g1, g2, g3, g4⟩ := h'
  refine ⟨by omega, by rw [Nat.pow_succ]; omega, ?_, fun a b => ?_⟩
  · rcases h3 with h3 | h3 <;> rcases g3 with g3 | g3 <;> right <;> omega
  · have q := pow_32 (deep := deep) (by omega)
    rcases g3 with g3 | g3 <;> omega
def cost (deep : Nat) : Nat := 100 ^ deep
theorem cost_succ (deep : Nat) : cost (deep + 1) = 100 * cost deep := by unfold cost; rw [Nat.pow_succ]; omega
theorem cost_pos (deep : Nat) : 1 ≤ cost deep := Nat.pos_of_ne_zero (by unfold cost; exact Nat.ne_of_gt (Nat.pow_pos (by decide)))
def conTerm (D : Nat) : ConS (Nat × Int) := ⟨fun st i sl P => ∃ (sd : Sta Nat) (ra : Addr) (v : V) (ws : List Str) (k : Str) (deep : Nat), st = staAnd sd (roomSta ra) ∧ (∀ a, (roomSta ra).fp a → ¬ sd.fp a) ∧ IsDraw sd v ∧ sl = [.raw v, .d (.lst (ws.map Dat.str)), .d (.str k), .d (.int (deep : Nat)), .raw (.ref ra)] ∧ wordsOk ws ∧ k ∈ sorts ∧ 1 ≤ deep ∧ deep ≤ D ∧ i.1 + cost deep < manyDraws ∧
    ∀ (d : Dat) (m : Nat) (j : Nat × Int), Tm deep k m d → Bnd deep i.2 m → j.1 ≤ i.1 + cost deep → j.2 = i.2 - m → P d j,
  fun _ _ _ _ _ ⟨sd, ra, v, ws, k, deep, a1, a2, a3, a4, a5, a6, a7, a8, a9, h⟩ m => ⟨sd, ra, v, ws, k, deep, a1, a2, a3, a4, a5, a6, a7, a8, a9, fun d q j b1 b2 b3 b4 => m _ _ (h d q j b1 b2 b3 b4)⟩⟩
/-- a call of a sort, its own part taken off the room already -/
def conCall (D : Nat) : ConS (Nat × Int) := ⟨fun st i sl P => ∃ (sd : Sta Nat) (ra : Addr) (v : V) (ws : List Str) (k : Str) (deep : Nat), st = staAnd sd (roomSta ra) ∧ (∀ a, (roomSta ra).fp a → ¬ sd.fp a) ∧ IsDraw sd v ∧ sl = [.raw v, .d (.lst (ws.map Dat.str)), .d (.str k), .d (.int ((deep + 1 : Nat) : Int)), .raw (.ref ra)] ∧ wordsOk ws ∧ k ∈ sorts ∧ 1 ≤ deep ∧ deep ≤ D ∧ 4 ≤ i.2 ∧ i.1 + 10 * cost deep < manyDraws ∧
    ∀ (d : Dat) (m : Nat) (j : Nat × Int), Tm (deep + 1) k (m + 1) d → Bnd (deep + 1) (i.2 + 1) (m + 1) → j.1 ≤ i.1 + 10 * cost deep → j.2 = i.2 - m → P d j,
  fun _ _ _ _ _ ⟨sd, ra, v, ws, k, deep, a1, a2, a3, a4, a5, a6, a7, a8, a9, a0, h⟩ m => ⟨sd, ra, v, ws, k, deep, a1, a2, a3, a4, a5, a6, a7, a8, a9, a0, fun d q j b1 b2 b3 b4 => m _ _ (h d q j b1 b2 b3 b4)⟩⟩
theorem kind_at : ∀ j : Nat, kinds5.getD (j % 5) "thing" ∈ sorts := fun j => by
  have h : j % 5 < 5 := Nat.mod_lt _ (by decide)
  have : j % 5 = 0 ∨ j % 5 = 1 ∨ j % 5 = 2 ∨ j % 5 = 3 ∨ j % 5 = 4 := by omega
  rcases this with e | e | e | e | e <;> rw [e] <;> decide
section
variable {P : Program} {w : World} {K : PySem.W.Frag} {mg : Str → Option Value} {base : Heap} {f f2 : Addr} {fd fd2 : FuncData} {k : Nat}
theorem term_use {D : Nat} {sd : Sta Nat} {ra : Addr} {v : V} {ws : List Str} {kd : Str} {deep : Nat} {z : Int} {i : Nat × Int} {P : Dat → Nat × Int → Prop} (hz : z = (deep : Nat)) (h1 : ∀ a, (roomSta ra).fp a → ¬ sd.fp a) (h2 : IsDraw sd v) (h3 : wordsOk ws) (h4 : kd ∈ sorts) (h5 : 1 ≤ deep) (h6 : deep ≤ D) (h7 : i.1 + cost deep < manyDraws)
    (h : ∀ (d : Dat) (m : Nat) (j : Nat × Int), Tm deep kd m d → Bnd deep i.2 m → j.1 ≤ i.1 + cost deep → j.2 = i.2 - m → P d j) : (conTerm D).C (staAnd sd (roomSta ra)) i [.raw v, .d (.lst (ws.map Dat.str)), .d (.str kd), .d (.int z), .raw (.ref ra)] P :=
  ⟨sd, ra, v, ws, kd, deep, rfl, h1, h2, by rw [hz], h3, h4, h5, h6, h7, h⟩
abbrev s__law_call : Stmt := topS 53
theorem sc__law_call : FnScope ["m", "w", "kind", "deep", "room", "spot", "inner"] ["m", "w", "kind", "deep", "room"] (defScope s__law_call) := ⟨rfl, rfl, rfl, by decide +kernel, rfl, by decide +kernel, by decide +kernel⟩
-- calls ['_law_draw', '_law_term', '_law_kind'] consts []
theorem ok_law_call {D : Nat} (B : Bt mg) (F__law_draw : CalleeS P w K mg base "_law_draw" k ["m", "top"] conDraw) (F__law_kind : Callee P w K mg base "_law_kind" k ["k"] c_law_kind) (F__law_term : CalleeS P w K mg base "_law_term" k ["m", "w", "kind", "deep", "room"] (conTerm D)) (F : Fun K "_law_call" "_law_call" s__law_call f fd) : FnOk P w K mg base CX0 (k + 1) f fd ["m", "w", "kind", "deep", "room"] (spS K (conCall D)) := by
  refine fn_pureS F sc__law_call (fun st i sl P ⟨sd, ra, v, ws, k, deep, _, _, _, e, _⟩ => by rw [e]; rfl) fun cdv A outer s H S hS st i0 h0 hf hr sl R hc => ?_
  have nd := sc__law_call.nd
  obtain ⟨sd, ra, v, ws, kd, deep, rfl, hdis, hd, rfl, hws, hkd, hd1, hdD, hr4, hn, h⟩ := hc
  refine ⟨_, (dbr_cons (dsr_set 5 (dr_of fun i => (de_index (de_lst (da_cons de_str (da_cons de_str (da_cons de_str (da_cons de_str (da_cons de_str da_nil)))))) (de_var 2))) nd) (dbr_cons (dsr_if (dtr_eq hr.units (dr_fnS ((gs_self hf).subS (sub_fst hdis)) F__law_draw hr (dsl_raw 0 (dsl_d (dr_of fun i => de_int) dsl_nil)) (by omega)) (dr_of fun i => de_int)) (dbr_one (dsr_ret (dr_tup (dar_cons (dr_of fun i => de_str) (dar_cons (dr_of fun i => (de_ix (de_var 1) (de_add de_int (de_var 5)))) (dar_cons (dr_tup (dar_cons (dr_fnS (gs_self hf) F__law_term hr (dsl_raw 0 (dsl_d (dr_of fun i => (de_var 1)) (dsl_d (dr_of fun i => (de_fn F__law_kind hr (da_cons (de_add (de_var 5) de_int) da_nil) (by omega))) (dsl_d (dr_of fun i => (de_sub (de_var 3) de_int)) (dsl_raw 4 dsl_nil))))) (by omega)) dar_nil)) (dar_cons (dr_of fun i => (de_var 2)) dar_nil))))))) dbr_nil) (dbr_cons (dsr_set 6 (dr_lst (dar_cons (dr_fnS (gs_self hf) F__law_term hr (dsl_raw 0 (dsl_d (dr_of fun i => (de_var 1)) (dsl_d (dr_of fun i => (de_var 2)) (dsl_d (dr_of fun i => (de_sub (de_var 3) de_int)) (dsl_raw 4 dsl_nil))))) (by omega)) (dar_cons (dr_fnS (gs_self hf) F__law_term hr (dsl_raw 0 (dsl_d (dr_of fun i => (de_var 1)) (dsl_d (dr_of fun i => de_str) (dsl_d (dr_of fun i => (de_sub (de_var 3) de_int)) (dsl_raw 4 dsl_nil))))) (by omega)) dar_nil))) nd) (dbr_one (dsr_ret (dr_of fun i => (de_tup (da_cons de_str (da_cons (de_ix (de_var 1) (de_add de_int (de_var 5))) (da_cons (de_tuple B.tuple (da_cons (de_var 6) da_nil)) (da_cons (de_var 2) da_nil))))))))))), ?_⟩
  have c1 := cost_pos deep
  repeat (first | refine rd_here rfl ?_ | refine ownL_here rfl ?_ | rw [isI_int] | rw [addD_int] | rw [int0_int] | rw [someD_some] | refine rdRaw_here rfl ?_ | rw [isB_bl] | rw [eqD_str] | rw [eqD_int] | refine And.intro (show CPow _ _ from ⟨by decide, by decide, by decide⟩) ?_ | refine And.intro (show 2 ≤ sizeLine by decide) ?_ | refine And.intro (show 1 ≤ sizeLine by decide) ?_ | refine And.intro (show 3 ≤ sizeLine by decide) ?_ | refine And.intro (show 4 ≤ sizeLine by decide) ?_ | refine And.intro (show 5 ≤ sizeLine by decide) ?_ | dsimp only)
  obtain ⟨sp, hs1, hs2, hs3⟩ := kind_spot kd hkd
  refine ⟨sp, hs1, hs2, ?_⟩
  repeat (first | refine rd_here rfl ?_ | refine ownL_here rfl ?_ | rw [isI_int] | rw [addD_int] | rw [int0_int] | rw [someD_some] | refine rdRaw_here rfl ?_ | rw [isB_bl] | rw [eqD_str] | rw [eqD_int] | refine And.intro (show CPow _ _ from ⟨by decide, by decide, by decide⟩) ?_ | refine And.intro (show 2 ≤ sizeLine by decide) ?_ | refine And.intro (show 1 ≤ sizeLine by decide) ?_ | refine And.intro (show 3 ≤ sizeLine by decide) ?_ | refine And.intro (show 4 ≤ sizeLine by decide) ?_ | refine And.intro (show 5 ≤ sizeLine by decide) ?_ | dsimp only)
  refine ⟨fun b j => j = (i0.1 + 1, i0.2), ?_, ?_, ?_⟩
  · repeat (first | refine rd_here rfl ?_ | refine ownL_here rfl ?_ | rw [isI_int] | rw [addD_int] | rw [int0_int] | rw [someD_some] | refine rdRaw_here rfl ?_ | rw [isB_bl] | rw [eqD_str] | rw [eqD_int] | refine And.intro (show CPow _ _ from ⟨by decide, by decide, by decide⟩) ?_ | refine And.intro (show 2 ≤ sizeLine by decide) ?_ | refine And.intro (show 1 ≤ sizeLine by decide) ?_ | refine And.intro (show 3 ≤ sizeLine by decide) ?_ | refine And.intro (show 4 ≤ sizeLine by decide) ?_ | refine And.intro (show 5 ≤ sizeLine by decide) ?_ | dsimp only)
    refine draw_use hd (by decide) (by decide) (by omega) fun x hx0 hx1 => ?_
    repeat (first | refine rd_here rfl ?_ | refine ownL_here rfl ?_ | rw [isI_int] | rw [addD_int] | rw [int0_int] | rw [someD_some] | refine rdRaw_here rfl ?_ | rw [isB_bl] | rw [eqD_str] | rw [eqD_int] | refine And.intro (show CPow _ _ from ⟨by decide, by decide, by decide⟩) ?_ | refine And.intro (show 2 ≤ sizeLine by decide) ?_ | refine And.intro (show 1 ≤ sizeLine by decide) ?_ | refine And.intro (show 3 ≤ sizeLine by decide) ?_ | refine And.intro (show 4 ≤ sizeLine by decide) ?_ | refine And.intro (show 5 ≤ sizeLine by decide) ?_ | dsimp only)
  · rintro j rfl
    repeat (first | refine rd_here rfl ?_ | refine ownL_here rfl ?_ | rw [isI_int] | rw [addD_int] | rw [int0_int] | rw [someD_some] | refine rdRaw_here rfl ?_ | rw [isB_bl] | rw [eqD_str] | rw [eqD_int] | refine And.intro (show CPow _ _ from ⟨by decide, by decide, by decide⟩) ?_ | refine And.intro (show 2 ≤ sizeLine by decide) ?_ | refine And.intro (show 1 ≤ sizeLine by decide) ?_ | refine And.intro (show 3 ≤ sizeLine by decide) ?_ | refine And.intro (show 4 ≤ sizeLine by decide) ?_ | refine And.intro (show 5 ≤ sizeLine by decide) ?_ | dsimp only)
    obtain ⟨z, hz, hat⟩ := ws_at hws (i := 10 + (sp : Int)) (by omega) (by omega)
    rw [ixD_lst, hat, someD_some]
    repeat (first | refine rd_here rfl ?_ | refine ownL_here rfl ?_ | rw [isI_int] | rw [addD_int] | rw [int0_int] | rw [someD_some] | refine rdRaw_here rfl ?_ | rw [isB_bl] | rw [eqD_str] | rw [eqD_int] | refine And.intro (show CPow _ _ from ⟨by decide, by decide, by decide⟩) ?_ | refine And.intro (show 2 ≤ sizeLine by decide) ?_ | refine And.intro (show 1 ≤ sizeLine by decide) ?_ | refine And.intro (show 3 ≤ sizeLine by decide) ?_ | refine And.intro (show 4 ≤ sizeLine by decide) ?_ | refine And.intro (show 5 ≤ sizeLine by decide) ?_ | dsimp only)
    refine ⟨sp + 1, by show [Dat.int ((sp : Int) + 1)] = [Dat.int ((sp + 1 : Nat) : Int)]; rw [show ((sp + 1 : Nat) : Int) = (sp : Int) + 1 by omega], trivial, ?_⟩
    repeat (first | refine rd_here rfl ?_ | refine ownL_here rfl ?_ | rw [isI_int] | rw [addD_int] | rw [int0_int] | rw [someD_some] | refine rdRaw_here rfl ?_ | rw [isB_bl] | rw [eqD_str] | rw [eqD_int] | refine And.intro (show CPow _ _ from ⟨by decide, by decide, by decide⟩) ?_ | refine And.intro (show 2 ≤ sizeLine by decide) ?_ | refine And.intro (show 1 ≤ sizeLine by decide) ?_ | refine And.intro (show 3 ≤ sizeLine by decide) ?_ | refine And.intro (show 4 ≤ sizeLine by decide) ?_ | refine And.intro (show 5 ≤ sizeLine by decide) ?_ | dsimp only)
    refine term_use (deep := deep) (by omega) hdis hd hws (kind_at _) hd1 hdD (by dsimp only; omega) fun d m j hd' hb hj1 hj2 => ?_
    repeat (first | refine rd_here rfl ?_ | refine ownL_here rfl ?_ | rw [isI_int] | rw [addD_int] | rw [int0_int] | rw [someD_some] | refine rdRaw_here rfl ?_ | rw [isB_bl] | rw [eqD_str] | rw [eqD_int] | refine And.intro (show CPow _ _ from ⟨by decide, by decide, by decide⟩) ?_ | refine And.intro (show 2 ≤ sizeLine by decide) ?_ | refine And.intro (show 1 ≤ sizeLine by decide) ?_ | refine And.intro (show 3 ≤ sizeLine by decide) ?_ | refine And.intro (show 4 ≤ sizeLine by decide) ?_ | refine And.intro (show 5 ≤ sizeLine by decide) ?_ | dsimp only)
    dsimp only at hb hj1 hj2
    exact h _ m j (tm_call1 hz hkd hd') (bnd_1 (by rw [Int.add_sub_cancel]; exact hb) (by omega)) (by omega) hj2
  · rintro j rfl
    repeat (first | refine rd_here rfl ?_ | refine ownL_here rfl ?_ | rw [isI_int] | rw [addD_int] | rw [int0_int] | rw [someD_some] | refine rdRaw_here rfl ?_ | rw [isB_bl] | rw [eqD_str] | rw [eqD_int] | refine And.intro (show CPow _ _ from ⟨by decide, by decide, by decide⟩) ?_ | refine And.intro (show 2 ≤ sizeLine by decide) ?_ | refine And.intro (show 1 ≤ sizeLine by decide) ?_ | refine And.intro (show 3 ≤ sizeLine by decide) ?_ | refine And.intro (show 4 ≤ sizeLine by decide) ?_ | refine And.intro (show 5 ≤ sizeLine by decide) ?_ | dsimp only)
    refine term_use (deep := deep) (by omega) hdis hd hws hkd hd1 hdD (by dsimp only; omega) fun d m j hd' hb hj1 hj2 => ?_
    repeat (first | refine rd_here rfl ?_ | refine ownL_here rfl ?_ | rw [isI_int] | rw [addD_int] | rw [int0_int] | rw [someD_some] | refine rdRaw_here rfl ?_ | rw [isB_bl] | rw [eqD_str] | rw [eqD_int] | refine And.intro (show CPow _ _ from ⟨by decide, by decide, by decide⟩) ?_ | refine And.intro (show 2 ≤ sizeLine by decide) ?_ | refine And.intro (show 1 ≤ sizeLine by decide) ?_ | refine And.intro (show 3 ≤ sizeLine by decide) ?_ | refine And.intro (show 4 ≤ sizeLine by decide) ?_ | refine And.intro (show 5 ≤ sizeLine by decide) ?_ | dsimp only)
    dsimp only at hb hj1 hj2
    refine term_use (deep := deep) (by omega) hdis hd hws (by decide) hd1 hdD (by omega) fun d2 m2 j2 hd2 hb2 hk1 hk2 => ?_
    repeat (first | refine rd_here rfl ?_ | refine ownL_here rfl ?_ | rw [isI_int] | rw [addD_int] | rw [int0_int] | rw [someD_some] | refine rdRaw_here rfl ?_ | rw [isB_bl] | rw [eqD_str] | rw [eqD_int] | refine And.intro (show CPow _ _ from ⟨by decide, by decide, by decide⟩) ?_ | refine And.intro (show 2 ≤ sizeLine by decide) ?_ | refine And.intro (show 1 ≤ sizeLine by decide) ?_ | refine And.intro (show 3 ≤ sizeLine by decide) ?_ | refine And.intro (show 4 ≤ sizeLine by decide) ?_ | refine And.intro (show 5 ≤ sizeLine by decide) ?_ | dsimp only)
    obtain ⟨z, hz, hat⟩ := ws_at hws (i := 15 + (sp : Int)) (by omega) (by omega)
    rw [ixD_lst, hat, someD_some]
    repeat (first | refine rd_here rfl ?_ | refine ownL_here rfl ?_ | rw [isI_int] | rw [addD_int] | rw [int0_int] | rw [someD_some] | refine rdRaw_here rfl ?_ | rw [isB_bl] | rw [eqD_str] | rw [eqD_int] | refine And.intro (show CPow _ _ from ⟨by decide, by decide, by decide⟩) ?_ | refine And.intro (show 2 ≤ sizeLine by decide) ?_ | refine And.intro (show 1 ≤ sizeLine by decide) ?_ | refine And.intro (show 3 ≤ sizeLine by decide) ?_ | refine And.intro (show 4 ≤ sizeLine by decide) ?_ | refine And.intro (show 5 ≤ sizeLine by decide) ?_ | dsimp only)
    rw [hj2] at hb2
    exact h _ (m + m2) j2 (tm_call2 hz hkd hd' hd2) (bnd_2 (by rw [Int.add_sub_cancel]; exact hb) (by rw [Int.add_sub_cancel]; exact hb2) (by omega)) (by omega) (by omega)
end
end K01
namespace K01
open PySem PySem.Spec PyProof.Rows L2 DL
theorem cost_100 {deep : Nat} (h : 1 ≤ deep) : 100 ≤ cost deep := by
  obtain ⟨e, rfl⟩ : ∃ e, deep = e + 1 := ⟨deep - 1, by omega⟩
  have := cost_pos e
  rw [cost_succ]
  omega
section
variable {P : Program} {w : World} {K : PySem.W.Frag} {mg : Str → Option Value} {base : Heap} {f f2 : Addr} {fd fd2 : FuncData} {k : Nat}
abbrev s__law_term : Stmt := topS 54
theorem sc__law_term : FnScope ["m", "w", "kind", "deep", "room", "road", "pair"] ["m", "w", "kind", "deep", "room"] (defScope s__law_term) := ⟨rfl, rfl, rfl, by decide +kernel, rfl, by decide +kernel, by decide +kernel⟩
-- calls ['_law_draw', '_law_leaf', '_law_call', '_law_term', '_law_whole'] consts []
theorem ok_law_term {D : Nat} (B : Bt mg) (F__law_draw : CalleeS P w K mg base "_law_draw" k ["m", "top"] conDraw) (F__law_whole : CalleeS P w K mg base "_law_whole" k ["m"] conWhole) (F__law_leaf : CalleeS P w K mg base "_law_leaf" k ["m", "w", "kind"] conLeaf) (F__law_call : CalleeS P w K mg base "_law_call" k ["m", "w", "kind", "deep", "room"] (conCall D)) (F__law_term : CalleeS P w K mg base "_law_term" k ["m", "w", "kind", "deep", "room"] (conTerm D))
    (F : Fun K "_law_term" "_law_term" s__law_term f fd) : FnOk P w K mg base CX0 (k + 1) f fd ["m", "w", "kind", "deep", "room"] (spS K (conTerm (D + 1))) := by
  refine fn_pureS F sc__law_term (fun st i sl P ⟨sd, ra, v, ws, k, deep, _, _, _, e, _⟩ => by rw [e]; rfl) fun cdv A outer s H S hS st i0 h0 hf hr sl R hc => ?_
  have nd := sc__law_term.nd
  obtain ⟨sd, ra, v, ws, kd, deep, rfl, hdis, hd, rfl, hws, hkd, hd1, hdD, hn, h⟩ := hc
  refine ⟨_, (dbr_cons (dsr_set 5 (dr_fnS ((gs_self hf).subS (sub_fst hdis)) F__law_draw hr (dsl_raw 0 (dsl_d (dr_of fun i => de_int) dsl_nil)) (by omega)) nd) (dbr_cons (dsr_roomSet ((gs_self hf).subS (sub_snd hdis)) 4 (dr_sub (dr_room ((gs_self hf).subS (sub_snd hdis)) 4) (dr_of fun i => de_int))) (dbr_cons (dsr_if (dtr_w (dwr_or (dtr_of fun i => (dt_lt (de_var 3) de_int)) (dwr_or (dtr_lt (dr_room ((gs_self hf).subS (sub_snd hdis)) 4) (dr_of fun i => de_int)) (dwr_or1 (dtr_of fun i => (dt_eq hr.units (de_var 5) de_int)))))) (dbr_one (dsr_ret (dr_fnS ((gs_self hf).subS (sub_fst hdis)) F__law_leaf hr (dsl_raw 0 (dsl_d (dr_of fun i => (de_var 1)) (dsl_d (dr_of fun i => (de_var 2)) dsl_nil))) (by omega)))) dbr_nil) (dbr_cons (dsr_if (dtr_of fun i => (dt_w (dw_or (dt_eq hr.units (de_var 5) de_int) (dw_or1 (dt_eq hr.units (de_var 2) de_str))))) (dbr_one (dsr_ret (dr_fnS (gs_self hf) F__law_call hr (dsl_raw 0 (dsl_d (dr_of fun i => (de_var 1)) (dsl_d (dr_of fun i => (de_var 2)) (dsl_d (dr_of fun i => (de_var 3)) (dsl_raw 4 dsl_nil))))) (by omega)))) dbr_nil) (dbr_cons (dsr_if (dtr_of fun i => (dt_eq hr.units (de_var 2) de_str)) (dbr_cons (dsr_if (dtr_of fun i => (dt_eq hr.units (de_var 5) de_int)) (dbr_one (dsr_ret (dr_tup (dar_cons (dr_of fun i => de_str) (dar_cons (dr_fnS ((gs_self hf).subS (sub_fst hdis)) F__law_whole hr (dsl_raw 0 dsl_nil) (by omega)) (dar_cons (dr_fnS (gs_self hf) F__law_term hr (dsl_raw 0 (dsl_d (dr_of fun i => (de_var 1)) (dsl_d (dr_of fun i => de_str) (dsl_d (dr_of fun i => (de_sub (de_var 3) de_int)) (dsl_raw 4 dsl_nil))))) (by omega)) dar_nil)))))) dbr_nil) (dbr_one (dsr_ret (dr_tup (dar_cons (dr_of fun i => de_str) (dar_cons (dr_fnS (gs_self hf) F__law_term hr (dsl_raw 0 (dsl_d (dr_of fun i => (de_var 1)) (dsl_d (dr_of fun i => de_str) (dsl_d (dr_of fun i => (de_sub (de_var 3) de_int)) (dsl_raw 4 dsl_nil))))) (by omega)) (dar_cons (dr_fnS (gs_self hf) F__law_term hr (dsl_raw 0 (dsl_d (dr_of fun i => (de_var 1)) (dsl_d (dr_of fun i => de_str) (dsl_d (dr_of fun i => (de_sub (de_var 3) de_int)) (dsl_raw 4 dsl_nil))))) (by omega)) dar_nil))))))) dbr_nil) (dbr_cons (dsr_if (dtr_of fun i => (dt_eq hr.units (de_var 2) de_str)) (dbr_cons (dsr_if (dtr_of fun i => (dt_lt (de_var 5) de_int)) (dbr_one (dsr_ret (dr_tup (dar_cons (dr_of fun i => de_str) (dar_cons (dr_fnS (gs_self hf) F__law_term hr (dsl_raw 0 (dsl_d (dr_of fun i => (de_var 1)) (dsl_d (dr_of fun i => de_str) (dsl_d (dr_of fun i => (de_sub (de_var 3) de_int)) (dsl_raw 4 dsl_nil))))) (by omega)) dar_nil))))) dbr_nil) (dbr_one (dsr_ret (dr_tup (dar_cons (dr_of fun i => de_str) (dar_cons (dr_fnS (gs_self hf) F__law_term hr (dsl_raw 0 (dsl_d (dr_of fun i => (de_var 1)) (dsl_d (dr_of fun i => de_str) (dsl_d (dr_of fun i => (de_sub (de_var 3) de_int)) (dsl_raw 4 dsl_nil))))) (by omega)) (dar_cons (dr_fnS (gs_self hf) F__law_term hr (dsl_raw 0 (dsl_d (dr_of fun i => (de_var 1)) (dsl_d (dr_of fun i => de_str) (dsl_d (dr_of fun i => (de_sub (de_var 3) de_int)) (dsl_raw 4 dsl_nil))))) (by omega)) dar_nil))))))) dbr_nil) (dbr_cons (dsr_if (dtr_of fun i => (dt_eq hr.units (de_var 2) de_str)) (dbr_cons (dsr_if (dtr_of fun i => (dt_eq hr.units (de_var 5) de_int)) (dbr_one (dsr_ret (dr_tup (dar_cons (dr_of fun i => de_str) (dar_cons (dr_fnS (gs_self hf) F__law_term hr (dsl_raw 0 (dsl_d (dr_of fun i => (de_var 1)) (dsl_d (dr_of fun i => de_str) (dsl_d (dr_of fun i => (de_sub (de_var 3) de_int)) (dsl_raw 4 dsl_nil))))) (by omega)) dar_nil))))) dbr_nil) (dbr_cons (dsr_set 6 (dr_tup (dar_cons (dr_fnS (gs_self hf) F__law_term hr (dsl_raw 0 (dsl_d (dr_of fun i => (de_var 1)) (dsl_d (dr_of fun i => de_str) (dsl_d (dr_of fun i => (de_sub (de_var 3) de_int)) (dsl_raw 4 dsl_nil))))) (by omega)) (dar_cons (dr_fnS (gs_self hf) F__law_term hr (dsl_raw 0 (dsl_d (dr_of fun i => (de_var 1)) (dsl_d (dr_of fun i => de_str) (dsl_d (dr_of fun i => (de_sub (de_var 3) de_int)) (dsl_raw 4 dsl_nil))))) (by omega)) dar_nil))) nd) (dbr_one (dsr_ret (dr_add (dr_tup (dar_cons (dr_ix (dr_of fun i => (de_lst (da_cons de_str (da_cons de_str (da_cons de_str da_nil))))) (dr_fnS ((gs_self hf).subS (sub_fst hdis)) F__law_draw hr (dsl_raw 0 (dsl_d (dr_of fun i => de_int) dsl_nil)) (by omega))) dar_nil)) (dr_of fun i => (de_var 6))))))) dbr_nil) (dbr_cons (dsr_if (dtr_of fun i => (dt_eq hr.units (de_var 5) de_int)) (dbr_one (dsr_ret (dr_tup (dar_cons (dr_of fun i => de_str) (dar_cons (dr_fnS (gs_self hf) F__law_term hr (dsl_raw 0 (dsl_d (dr_of fun i => (de_var 1)) (dsl_d (dr_of fun i => de_str) (dsl_d (dr_of fun i => (de_sub (de_var 3) de_int)) (dsl_raw 4 dsl_nil))))) (by omega)) dar_nil))))) dbr_nil) (dbr_cons (dsr_set 6 (dr_tup (dar_cons (dr_fnS (gs_self hf) F__law_term hr (dsl_raw 0 (dsl_d (dr_of fun i => (de_var 1)) (dsl_d (dr_of fun i => de_str) (dsl_d (dr_of fun i => (de_sub (de_var 3) de_int)) (dsl_raw 4 dsl_nil))))) (by omega)) (dar_cons (dr_fnS (gs_self hf) F__law_term hr (dsl_raw 0 (dsl_d (dr_of fun i => (de_var 1)) (dsl_d (dr_of fun i => de_str) (dsl_d (dr_of fun i => (de_sub (de_var 3) de_int)) (dsl_raw 4 dsl_nil))))) (by omega)) dar_nil))) nd) (dbr_one (dsr_ret (dr_add (dr_tup (dar_cons (dr_ix (dr_of fun i => (de_lst (da_cons de_str (da_cons de_str (da_cons de_str da_nil))))) (dr_fnS ((gs_self hf).subS (sub_fst hdis)) F__law_draw hr (dsl_raw 0 (dsl_d (dr_of fun i => de_int) dsl_nil)) (by omega))) dar_nil)) (dr_of fun i => (de_var 6)))))))))))))), ?_⟩
  have c1 := cost_pos deep
  have c100 : 100 ≤ cost deep := cost_100 hd1
  repeat (first | refine rd_here rfl ?_ | refine ownL_here rfl ?_ | rw [isI_int] | rw [addD_int] | rw [int0_int] | rw [someD_some] | refine rdRaw_here rfl ?_ | rw [isB_bl] | rw [eqD_str] | rw [eqD_int] | refine And.intro (show CPow _ _ from ⟨by decide, by decide, by decide⟩) ?_ | refine And.intro (show 2 ≤ sizeLine by decide) ?_ | refine And.intro (show 1 ≤ sizeLine by decide) ?_ | refine And.intro (show 3 ≤ sizeLine by decide) ?_ | refine And.intro (show 4 ≤ sizeLine by decide) ?_ | refine And.intro (show 5 ≤ sizeLine by decide) ?_ | dsimp only)
  refine draw_use hd (by decide) (by decide) (by omega) fun road hx0 hx1 => ?_
  repeat (first | refine rd_here rfl ?_ | refine ownL_here rfl ?_ | rw [isI_int] | rw [addD_int] | rw [int0_int] | rw [someD_some] | refine rdRaw_here rfl ?_ | rw [isB_bl] | rw [eqD_str] | rw [eqD_int] | refine And.intro (show CPow _ _ from ⟨by decide, by decide, by decide⟩) ?_ | refine And.intro (show 2 ≤ sizeLine by decide) ?_ | refine And.intro (show 1 ≤ sizeLine by decide) ?_ | refine And.intro (show 3 ≤ sizeLine by decide) ?_ | refine And.intro (show 4 ≤ sizeLine by decide) ?_ | refine And.intro (show 5 ≤ sizeLine by decide) ?_ | dsimp only)
  refine ⟨rfl, ?_⟩
  repeat (first | refine rd_here rfl ?_ | refine ownL_here rfl ?_ | rw [isI_int] | rw [addD_int] | rw [int0_int] | rw [someD_some] | refine rdRaw_here rfl ?_ | rw [isB_bl] | rw [eqD_str] | rw [eqD_int] | refine And.intro (show CPow _ _ from ⟨by decide, by decide, by decide⟩) ?_ | refine And.intro (show 2 ≤ sizeLine by decide) ?_ | refine And.intro (show 1 ≤ sizeLine by decide) ?_ | refine And.intro (show 3 ≤ sizeLine by decide) ?_ | refine And.intro (show 4 ≤ sizeLine by decide) ?_ | refine And.intro (show 5 ≤ sizeLine by decide) ?_ | dsimp only)
  refine ⟨rfl, ?_⟩
  repeat (first | refine rd_here rfl ?_ | refine ownL_here rfl ?_ | rw [isI_int] | rw [addD_int] | rw [int0_int] | rw [someD_some] | refine rdRaw_here rfl ?_ | rw [isB_bl] | rw [eqD_str] | rw [eqD_int] | refine And.intro (show CPow _ _ from ⟨by decide, by decide, by decide⟩) ?_ | refine And.intro (show 2 ≤ sizeLine by decide) ?_ | refine And.intro (show 1 ≤ sizeLine by decide) ?_ | refine And.intro (show 3 ≤ sizeLine by decide) ?_ | refine And.intro (show 4 ≤ sizeLine by decide) ?_ | refine And.intro (show 5 ≤ sizeLine by decide) ?_ | dsimp only)
  refine ⟨fun b j => j = (i0.1 + 1, i0.2 - 1) ∧ (b = false → 2 ≤ deep ∧ 4 ≤ i0.2 - 1), ?_, ?_, ?_⟩
  · repeat (first | refine rd_here rfl ?_ | refine ownL_here rfl ?_ | rw [isI_int] | rw [addD_int] | rw [int0_int] | rw [someD_some] | refine rdRaw_here rfl ?_ | rw [isB_bl] | rw [eqD_str] | rw [eqD_int] | refine And.intro (show CPow _ _ from ⟨by decide, by decide, by decide⟩) ?_ | refine And.intro (show 2 ≤ sizeLine by decide) ?_ | refine And.intro (show 1 ≤ sizeLine by decide) ?_ | refine And.intro (show 3 ≤ sizeLine by decide) ?_ | refine And.intro (show 4 ≤ sizeLine by decide) ?_ | refine And.intro (show 5 ≤ sizeLine by decide) ?_ | dsimp only)
    by_cases h1 : (deep : Int) < 2
    · rw [if_pos (decide_eq_true h1)]
      exact ⟨rfl, fun z => nomatch z⟩
    rw [if_neg (fun z => h1 (of_decide_eq_true z))]
    repeat (first | refine rd_here rfl ?_ | refine ownL_here rfl ?_ | rw [isI_int] | rw [addD_int] | rw [int0_int] | rw [someD_some] | refine rdRaw_here rfl ?_ | rw [isB_bl] | rw [eqD_str] | rw [eqD_int] | refine And.intro (show CPow _ _ from ⟨by decide, by decide, by decide⟩) ?_ | refine And.intro (show 2 ≤ sizeLine by decide) ?_ | refine And.intro (show 1 ≤ sizeLine by decide) ?_ | refine And.intro (show 3 ≤ sizeLine by decide) ?_ | refine And.intro (show 4 ≤ sizeLine by decide) ?_ | refine And.intro (show 5 ≤ sizeLine by decide) ?_ | dsimp only)
    refine ⟨rfl, ?_⟩
    repeat (first | refine rd_here rfl ?_ | refine ownL_here rfl ?_ | rw [isI_int] | rw [addD_int] | rw [int0_int] | rw [someD_some] | refine rdRaw_here rfl ?_ | rw [isB_bl] | rw [eqD_str] | rw [eqD_int] | refine And.intro (show CPow _ _ from ⟨by decide, by decide, by decide⟩) ?_ | refine And.intro (show 2 ≤ sizeLine by decide) ?_ | refine And.intro (show 1 ≤ sizeLine by decide) ?_ | refine And.intro (show 3 ≤ sizeLine by decide) ?_ | refine And.intro (show 4 ≤ sizeLine by decide) ?_ | refine And.intro (show 5 ≤ sizeLine by decide) ?_ | dsimp only)
    by_cases h2 : i0.2 - 1 < 4
    · rw [if_pos (decide_eq_true h2)]
      exact ⟨rfl, fun z => nomatch z⟩
    rw [if_neg (fun z => h2 (of_decide_eq_true z))]
    repeat (first | refine rd_here rfl ?_ | refine ownL_here rfl ?_ | rw [isI_int] | rw [addD_int] | rw [int0_int] | rw [someD_some] | refine rdRaw_here rfl ?_ | rw [isB_bl] | rw [eqD_str] | rw [eqD_int] | refine And.intro (show CPow _ _ from ⟨by decide, by decide, by decide⟩) ?_ | refine And.intro (show 2 ≤ sizeLine by decide) ?_ | refine And.intro (show 1 ≤ sizeLine by decide) ?_ | refine And.intro (show 3 ≤ sizeLine by decide) ?_ | refine And.intro (show 4 ≤ sizeLine by decide) ?_ | refine And.intro (show 5 ≤ sizeLine by decide) ?_ | dsimp only)
    exact ⟨rfl, fun _ => ⟨by omega, by omega⟩⟩
  · rintro j ⟨rfl, _⟩
    repeat (first | refine rd_here rfl ?_ | refine ownL_here rfl ?_ | rw [isI_int] | rw [addD_int] | rw [int0_int] | rw [someD_some] | refine rdRaw_here rfl ?_ | rw [isB_bl] | rw [eqD_str] | rw [eqD_int] | refine And.intro (show CPow _ _ from ⟨by decide, by decide, by decide⟩) ?_ | refine And.intro (show 2 ≤ sizeLine by decide) ?_ | refine And.intro (show 1 ≤ sizeLine by decide) ?_ | refine And.intro (show 3 ≤ sizeLine by decide) ?_ | refine And.intro (show 4 ≤ sizeLine by decide) ?_ | refine And.intro (show 5 ≤ sizeLine by decide) ?_ | dsimp only)
    refine ⟨v, ws, kd, hd, rfl, hws, hkd, by omega, fun d j ht hj => ?_⟩
    exact h d 1 _ (ht.up hd1) (bnd_0 hd1) (by first | omega | (dsimp only; omega)) rfl
  rintro j ⟨rfl, hp⟩
  obtain ⟨hd2, hr4⟩ := hp rfl
  obtain ⟨e, rfl⟩ : ∃ e, deep = e + 1 := ⟨deep - 1, by omega⟩
  have ce := cost_succ e
  have ce1 := cost_pos e
  repeat (first | refine rd_here rfl ?_ | refine ownL_here rfl ?_ | rw [isI_int] | rw [addD_int] | rw [int0_int] | rw [someD_some] | refine rdRaw_here rfl ?_ | rw [isB_bl] | rw [eqD_str] | rw [eqD_int] | refine And.intro (show CPow _ _ from ⟨by decide, by decide, by decide⟩) ?_ | refine And.intro (show 2 ≤ sizeLine by decide) ?_ | refine And.intro (show 1 ≤ sizeLine by decide) ?_ | refine And.intro (show 3 ≤ sizeLine by decide) ?_ | refine And.intro (show 4 ≤ sizeLine by decide) ?_ | refine And.intro (show 5 ≤ sizeLine by decide) ?_ | dsimp only)
  refine ⟨fun b j => j = (i0.1 + 1, i0.2 - 1) ∧ (b = false → kd ≠ "thing"), ?_, ?_, ?_⟩
  · repeat (first | refine rd_here rfl ?_ | refine ownL_here rfl ?_ | rw [isI_int] | rw [addD_int] | rw [int0_int] | rw [someD_some] | refine rdRaw_here rfl ?_ | rw [isB_bl] | rw [eqD_str] | rw [eqD_int] | refine And.intro (show CPow _ _ from ⟨by decide, by decide, by decide⟩) ?_ | refine And.intro (show 2 ≤ sizeLine by decide) ?_ | refine And.intro (show 1 ≤ sizeLine by decide) ?_ | refine And.intro (show 3 ≤ sizeLine by decide) ?_ | refine And.intro (show 4 ≤ sizeLine by decide) ?_ | refine And.intro (show 5 ≤ sizeLine by decide) ?_ | dsimp only)
    by_cases h1 : road = 1
    · rw [if_pos (decide_eq_true h1)]
      exact ⟨rfl, fun z => nomatch z⟩
    rw [if_neg (fun z => h1 (of_decide_eq_true z))]
    repeat (first | refine rd_here rfl ?_ | refine ownL_here rfl ?_ | rw [isI_int] | rw [addD_int] | rw [int0_int] | rw [someD_some] | refine rdRaw_here rfl ?_ | rw [isB_bl] | rw [eqD_str] | rw [eqD_int] | refine And.intro (show CPow _ _ from ⟨by decide, by decide, by decide⟩) ?_ | refine And.intro (show 2 ≤ sizeLine by decide) ?_ | refine And.intro (show 1 ≤ sizeLine by decide) ?_ | refine And.intro (show 3 ≤ sizeLine by decide) ?_ | refine And.intro (show 4 ≤ sizeLine by decide) ?_ | refine And.intro (show 5 ≤ sizeLine by decide) ?_ | dsimp only)
    exact ⟨rfl, fun z => of_decide_eq_false z⟩
  · rintro j ⟨rfl, _⟩
    repeat (first | refine rd_here rfl ?_ | refine ownL_here rfl ?_ | rw [isI_int] | rw [addD_int] | rw [int0_int] | rw [someD_some] | refine rdRaw_here rfl ?_ | rw [isB_bl] | rw [eqD_str] | rw [eqD_int] | refine And.intro (show CPow _ _ from ⟨by decide, by decide, by decide⟩) ?_ | refine And.intro (show 2 ≤ sizeLine by decide) ?_ | refine And.intro (show 1 ≤ sizeLine by decide) ?_ | refine And.intro (show 3 ≤ sizeLine by decide) ?_ | refine And.intro (show 4 ≤ sizeLine by decide) ?_ | refine And.intro (show 5 ≤ sizeLine by decide) ?_ | dsimp only)
    refine ⟨sd, ra, v, ws, kd, e, rfl, hdis, hd, rfl, hws, hkd, by omega, by omega, hr4, by first | omega | (dsimp only; omega), fun d m j ht hb hj1 hj2 => ?_⟩
    dsimp only at hb hj1 hj2
    exact h d (m + 1) j ht (by rw [Int.sub_add_cancel] at hb; exact hb) (by omega) (by omega)
  rintro j ⟨rfl, hnt⟩
  have hnt := hnt rfl
  refine ⟨fun b j => j = (i0.1 + 1, i0.2 - 1) ∧ b = decide (kd = "num"), ?_, ?_, ?_⟩
  · repeat (first | refine rd_here rfl ?_ | refine ownL_here rfl ?_ | rw [isI_int] | rw [addD_int] | rw [int0_int] | rw [someD_some] | refine rdRaw_here rfl ?_ | rw [isB_bl] | rw [eqD_str] | rw [eqD_int] | refine And.intro (show CPow _ _ from ⟨by decide, by decide, by decide⟩) ?_ | refine And.intro (show 2 ≤ sizeLine by decide) ?_ | refine And.intro (show 1 ≤ sizeLine by decide) ?_ | refine And.intro (show 3 ≤ sizeLine by decide) ?_ | refine And.intro (show 4 ≤ sizeLine by decide) ?_ | refine And.intro (show 5 ≤ sizeLine by decide) ?_ | dsimp only)
    exact ⟨rfl, rfl⟩
  · rintro j ⟨rfl, hb⟩
    obtain rfl := of_decide_eq_true hb.symm
    refine ⟨fun b j => j = (i0.1 + 1, i0.2 - 1), ?_, ?_, ?_⟩
    · repeat (first | refine rd_here rfl ?_ | refine ownL_here rfl ?_ | rw [isI_int] | rw [addD_int] | rw [int0_int] | rw [someD_some] | refine rdRaw_here rfl ?_ | rw [isB_bl] | rw [eqD_str] | rw [eqD_int] | refine And.intro (show CPow _ _ from ⟨by decide, by decide, by decide⟩) ?_ | refine And.intro (show 2 ≤ sizeLine by decide) ?_ | refine And.intro (show 1 ≤ sizeLine by decide) ?_ | refine And.intro (show 3 ≤ sizeLine by decide) ?_ | refine And.intro (show 4 ≤ sizeLine by decide) ?_ | refine And.intro (show 5 ≤ sizeLine by decide) ?_ | dsimp only)
    · rintro j rfl
      repeat (first | refine rd_here rfl ?_ | refine ownL_here rfl ?_ | rw [isI_int] | rw [addD_int] | rw [int0_int] | rw [someD_some] | refine rdRaw_here rfl ?_ | rw [isB_bl] | rw [eqD_str] | rw [eqD_int] | refine And.intro (show CPow _ _ from ⟨by decide, by decide, by decide⟩) ?_ | refine And.intro (show 2 ≤ sizeLine by decide) ?_ | refine And.intro (show 1 ≤ sizeLine by decide) ?_ | refine And.intro (show 3 ≤ sizeLine by decide) ?_ | refine And.intro (show 4 ≤ sizeLine by decide) ?_ | refine And.intro (show 5 ≤ sizeLine by decide) ?_ | dsimp only)
      refine ⟨v, hd, rfl, by first | omega | (dsimp only; omega), fun z j hz hj => ?_⟩
      repeat (first | refine rd_here rfl ?_ | refine ownL_here rfl ?_ | rw [isI_int] | rw [addD_int] | rw [int0_int] | rw [someD_some] | refine rdRaw_here rfl ?_ | rw [isB_bl] | rw [eqD_str] | rw [eqD_int] | refine And.intro (show CPow _ _ from ⟨by decide, by decide, by decide⟩) ?_ | refine And.intro (show 2 ≤ sizeLine by decide) ?_ | refine And.intro (show 1 ≤ sizeLine by decide) ?_ | refine And.intro (show 3 ≤ sizeLine by decide) ?_ | refine And.intro (show 4 ≤ sizeLine by decide) ?_ | refine And.intro (show 5 ≤ sizeLine by decide) ?_ | dsimp only)
      refine term_use (deep := e) (by omega) hdis hd hws (by decide) (by omega) (by omega) (by first | omega | (dsimp only; omega)) fun d m j ht hb hj1 hj2 => ?_
      repeat (first | refine rd_here rfl ?_ | refine ownL_here rfl ?_ | rw [isI_int] | rw [addD_int] | rw [int0_int] | rw [someD_some] | refine rdRaw_here rfl ?_ | rw [isB_bl] | rw [eqD_str] | rw [eqD_int] | refine And.intro (show CPow _ _ from ⟨by decide, by decide, by decide⟩) ?_ | refine And.intro (show 2 ≤ sizeLine by decide) ?_ | refine And.intro (show 1 ≤ sizeLine by decide) ?_ | refine And.intro (show 3 ≤ sizeLine by decide) ?_ | refine And.intro (show 4 ≤ sizeLine by decide) ?_ | refine And.intro (show 5 ≤ sizeLine by decide) ?_ | dsimp only)
      dsimp only at hb hj1 hj2
      exact h _ (m + 1) _ (tm_times hz ht) (bnd_1 hb (by omega)) (by omega) (by omega)
    rintro j rfl
    repeat (first | refine rd_here rfl ?_ | refine ownL_here rfl ?_ | rw [isI_int] | rw [addD_int] | rw [int0_int] | rw [someD_some] | refine rdRaw_here rfl ?_ | rw [isB_bl] | rw [eqD_str] | rw [eqD_int] | refine And.intro (show CPow _ _ from ⟨by decide, by decide, by decide⟩) ?_ | refine And.intro (show 2 ≤ sizeLine by decide) ?_ | refine And.intro (show 1 ≤ sizeLine by decide) ?_ | refine And.intro (show 3 ≤ sizeLine by decide) ?_ | refine And.intro (show 4 ≤ sizeLine by decide) ?_ | refine And.intro (show 5 ≤ sizeLine by decide) ?_ | dsimp only)
    refine term_use (deep := e) (by omega) hdis hd hws (by decide) (by omega) (by omega) (by first | omega | (dsimp only; omega)) fun d m j ht hb hj1 hj2 => ?_
    repeat (first | refine rd_here rfl ?_ | refine ownL_here rfl ?_ | rw [isI_int] | rw [addD_int] | rw [int0_int] | rw [someD_some] | refine rdRaw_here rfl ?_ | rw [isB_bl] | rw [eqD_str] | rw [eqD_int] | refine And.intro (show CPow _ _ from ⟨by decide, by decide, by decide⟩) ?_ | refine And.intro (show 2 ≤ sizeLine by decide) ?_ | refine And.intro (show 1 ≤ sizeLine by decide) ?_ | refine And.intro (show 3 ≤ sizeLine by decide) ?_ | refine And.intro (show 4 ≤ sizeLine by decide) ?_ | refine And.intro (show 5 ≤ sizeLine by decide) ?_ | dsimp only)
    dsimp only at hb hj1 hj2
    refine term_use (deep := e) (by omega) hdis hd hws (by decide) (by omega) (by omega) (by omega) fun d2 m2 j2 ht2 hb2 hk1 hk2 => ?_
    repeat (first | refine rd_here rfl ?_ | refine ownL_here rfl ?_ | rw [isI_int] | rw [addD_int] | rw [int0_int] | rw [someD_some] | refine rdRaw_here rfl ?_ | rw [isB_bl] | rw [eqD_str] | rw [eqD_int] | refine And.intro (show CPow _ _ from ⟨by decide, by decide, by decide⟩) ?_ | refine And.intro (show 2 ≤ sizeLine by decide) ?_ | refine And.intro (show 1 ≤ sizeLine by decide) ?_ | refine And.intro (show 3 ≤ sizeLine by decide) ?_ | refine And.intro (show 4 ≤ sizeLine by decide) ?_ | refine And.intro (show 5 ≤ sizeLine by decide) ?_ | dsimp only)
    rw [hj2] at hb2
    exact h _ (m + m2 + 1) _ (tm_w2 (by decide) (by decide) (by decide +kernel) (okB_w (by decide)) ht ht2) (bnd_2 hb hb2 (by omega)) (by first | omega | (dsimp only; omega)) (by first | omega | (dsimp only; omega))
  rintro j ⟨rfl, hb1⟩
  have hn1 : kd ≠ "num" := of_decide_eq_false hb1.symm
  refine ⟨fun b j => j = (i0.1 + 1, i0.2 - 1) ∧ b = decide (kd = "tree"), ?_, ?_, ?_⟩
  · repeat (first | refine rd_here rfl ?_ | refine ownL_here rfl ?_ | rw [isI_int] | rw [addD_int] | rw [int0_int] | rw [someD_some] | refine rdRaw_here rfl ?_ | rw [isB_bl] | rw [eqD_str] | rw [eqD_int] | refine And.intro (show CPow _ _ from ⟨by decide, by decide, by decide⟩) ?_ | refine And.intro (show 2 ≤ sizeLine by decide) ?_ | refine And.intro (show 1 ≤ sizeLine by decide) ?_ | refine And.intro (show 3 ≤ sizeLine by decide) ?_ | refine And.intro (show 4 ≤ sizeLine by decide) ?_ | refine And.intro (show 5 ≤ sizeLine by decide) ?_ | dsimp only)
    exact ⟨rfl, rfl⟩
  · rintro j ⟨rfl, hb⟩
    obtain rfl := of_decide_eq_true hb.symm
    refine ⟨fun b j => j = (i0.1 + 1, i0.2 - 1), ?_, ?_, ?_⟩
    · repeat (first | refine rd_here rfl ?_ | refine ownL_here rfl ?_ | rw [isI_int] | rw [addD_int] | rw [int0_int] | rw [someD_some] | refine rdRaw_here rfl ?_ | rw [isB_bl] | rw [eqD_str] | rw [eqD_int] | refine And.intro (show CPow _ _ from ⟨by decide, by decide, by decide⟩) ?_ | refine And.intro (show 2 ≤ sizeLine by decide) ?_ | refine And.intro (show 1 ≤ sizeLine by decide) ?_ | refine And.intro (show 3 ≤ sizeLine by decide) ?_ | refine And.intro (show 4 ≤ sizeLine by decide) ?_ | refine And.intro (show 5 ≤ sizeLine by decide) ?_ | dsimp only)
    · rintro j rfl
      repeat (first | refine rd_here rfl ?_ | refine ownL_here rfl ?_ | rw [isI_int] | rw [addD_int] | rw [int0_int] | rw [someD_some] | refine rdRaw_here rfl ?_ | rw [isB_bl] | rw [eqD_str] | rw [eqD_int] | refine And.intro (show CPow _ _ from ⟨by decide, by decide, by decide⟩) ?_ | refine And.intro (show 2 ≤ sizeLine by decide) ?_ | refine And.intro (show 1 ≤ sizeLine by decide) ?_ | refine And.intro (show 3 ≤ sizeLine by decide) ?_ | refine And.intro (show 4 ≤ sizeLine by decide) ?_ | refine And.intro (show 5 ≤ sizeLine by decide) ?_ | dsimp only)
      refine term_use (deep := e) (by omega) hdis hd hws (by decide) (by omega) (by omega) (by first | omega | (dsimp only; omega)) fun d m j ht hb hj1 hj2 => ?_
      repeat (first | refine rd_here rfl ?_ | refine ownL_here rfl ?_ | rw [isI_int] | rw [addD_int] | rw [int0_int] | rw [someD_some] | refine rdRaw_here rfl ?_ | rw [isB_bl] | rw [eqD_str] | rw [eqD_int] | refine And.intro (show CPow _ _ from ⟨by decide, by decide, by decide⟩) ?_ | refine And.intro (show 2 ≤ sizeLine by decide) ?_ | refine And.intro (show 1 ≤ sizeLine by decide) ?_ | refine And.intro (show 3 ≤ sizeLine by decide) ?_ | refine And.intro (show 4 ≤ sizeLine by decide) ?_ | refine And.intro (show 5 ≤ sizeLine by decide) ?_ | dsimp only)
      dsimp only at hb hj1 hj2
      exact h _ (m + 1) _ (tm_w1 (by decide) (by decide) (by decide +kernel) (okB_w (by decide)) ht) (bnd_1 hb (by omega)) (by omega) (by omega)
    rintro j rfl
    repeat (first | refine rd_here rfl ?_ | refine ownL_here rfl ?_ | rw [isI_int] | rw [addD_int] | rw [int0_int] | rw [someD_some] | refine rdRaw_here rfl ?_ | rw [isB_bl] | rw [eqD_str] | rw [eqD_int] | refine And.intro (show CPow _ _ from ⟨by decide, by decide, by decide⟩) ?_ | refine And.intro (show 2 ≤ sizeLine by decide) ?_ | refine And.intro (show 1 ≤ sizeLine by decide) ?_ | refine And.intro (show 3 ≤ sizeLine by decide) ?_ | refine And.intro (show 4 ≤ sizeLine by decide) ?_ | refine And.intro (show 5 ≤ sizeLine by decide) ?_ | dsimp only)
    refine term_use (deep := e) (by omega) hdis hd hws (by decide) (by omega) (by omega) (by first | omega | (dsimp only; omega)) fun d m j ht hb hj1 hj2 => ?_
    repeat (first | refine rd_here rfl ?_ | refine ownL_here rfl ?_ | rw [isI_int] | rw [addD_int] | rw [int0_int] | rw [someD_some] | refine rdRaw_here rfl ?_ | rw [isB_bl] | rw [eqD_str] | rw [eqD_int] | refine And.intro (show CPow _ _ from ⟨by decide, by decide, by decide⟩) ?_ | refine And.intro (show 2 ≤ sizeLine by decide) ?_ | refine And.intro (show 1 ≤ sizeLine by decide) ?_ | refine And.intro (show 3 ≤ sizeLine by decide) ?_ | refine And.intro (show 4 ≤ sizeLine by decide) ?_ | refine And.intro (show 5 ≤ sizeLine by decide) ?_ | dsimp only)
    dsimp only at hb hj1 hj2
    refine term_use (deep := e) (by omega) hdis hd hws (by decide) (by omega) (by omega) (by omega) fun d2 m2 j2 ht2 hb2 hk1 hk2 => ?_
    repeat (first | refine rd_here rfl ?_ | refine ownL_here rfl ?_ | rw [isI_int] | rw [addD_int] | rw [int0_int] | rw [someD_some] | refine rdRaw_here rfl ?_ | rw [isB_bl] | rw [eqD_str] | rw [eqD_int] | refine And.intro (show CPow _ _ from ⟨by decide, by decide, by decide⟩) ?_ | refine And.intro (show 2 ≤ sizeLine by decide) ?_ | refine And.intro (show 1 ≤ sizeLine by decide) ?_ | refine And.intro (show 3 ≤ sizeLine by decide) ?_ | refine And.intro (show 4 ≤ sizeLine by decide) ?_ | refine And.intro (show 5 ≤ sizeLine by decide) ?_ | dsimp only)
    rw [hj2] at hb2
    exact h _ (m + m2 + 1) _ (tm_w2 (by decide) (by decide) (by decide +kernel) (okB_w (by decide)) ht ht2) (bnd_2 hb hb2 (by omega)) (by first | omega | (dsimp only; omega)) (by first | omega | (dsimp only; omega))
  rintro j ⟨rfl, hb2⟩
  have hn2 : kd ≠ "tree" := of_decide_eq_false hb2.symm
  refine ⟨fun b j => j = (i0.1 + 1, i0.2 - 1) ∧ b = decide (kd = "set"), ?_, ?_, ?_⟩
  · repeat (first | refine rd_here rfl ?_ | refine ownL_here rfl ?_ | rw [isI_int] | rw [addD_int] | rw [int0_int] | rw [someD_some] | refine rdRaw_here rfl ?_ | rw [isB_bl] | rw [eqD_str] | rw [eqD_int] | refine And.intro (show CPow _ _ from ⟨by decide, by decide, by decide⟩) ?_ | refine And.intro (show 2 ≤ sizeLine by decide) ?_ | refine And.intro (show 1 ≤ sizeLine by decide) ?_ | refine And.intro (show 3 ≤ sizeLine by decide) ?_ | refine And.intro (show 4 ≤ sizeLine by decide) ?_ | refine And.intro (show 5 ≤ sizeLine by decide) ?_ | dsimp only)
    exact ⟨rfl, rfl⟩
  · rintro j ⟨rfl, hb⟩
    obtain rfl := of_decide_eq_true hb.symm
    refine ⟨fun b j => j = (i0.1 + 1, i0.2 - 1), ?_, ?_, ?_⟩
    · repeat (first | refine rd_here rfl ?_ | refine ownL_here rfl ?_ | rw [isI_int] | rw [addD_int] | rw [int0_int] | rw [someD_some] | refine rdRaw_here rfl ?_ | rw [isB_bl] | rw [eqD_str] | rw [eqD_int] | refine And.intro (show CPow _ _ from ⟨by decide, by decide, by decide⟩) ?_ | refine And.intro (show 2 ≤ sizeLine by decide) ?_ | refine And.intro (show 1 ≤ sizeLine by decide) ?_ | refine And.intro (show 3 ≤ sizeLine by decide) ?_ | refine And.intro (show 4 ≤ sizeLine by decide) ?_ | refine And.intro (show 5 ≤ sizeLine by decide) ?_ | dsimp only)
    · rintro j rfl
      repeat (first | refine rd_here rfl ?_ | refine ownL_here rfl ?_ | rw [isI_int] | rw [addD_int] | rw [int0_int] | rw [someD_some] | refine rdRaw_here rfl ?_ | rw [isB_bl] | rw [eqD_str] | rw [eqD_int] | refine And.intro (show CPow _ _ from ⟨by decide, by decide, by decide⟩) ?_ | refine And.intro (show 2 ≤ sizeLine by decide) ?_ | refine And.intro (show 1 ≤ sizeLine by decide) ?_ | refine And.intro (show 3 ≤ sizeLine by decide) ?_ | refine And.intro (show 4 ≤ sizeLine by decide) ?_ | refine And.intro (show 5 ≤ sizeLine by decide) ?_ | dsimp only)
      refine term_use (deep := e) (by omega) hdis hd hws (by decide) (by omega) (by omega) (by first | omega | (dsimp only; omega)) fun d m j ht hb hj1 hj2 => ?_
      repeat (first | refine rd_here rfl ?_ | refine ownL_here rfl ?_ | rw [isI_int] | rw [addD_int] | rw [int0_int] | rw [someD_some] | refine rdRaw_here rfl ?_ | rw [isB_bl] | rw [eqD_str] | rw [eqD_int] | refine And.intro (show CPow _ _ from ⟨by decide, by decide, by decide⟩) ?_ | refine And.intro (show 2 ≤ sizeLine by decide) ?_ | refine And.intro (show 1 ≤ sizeLine by decide) ?_ | refine And.intro (show 3 ≤ sizeLine by decide) ?_ | refine And.intro (show 4 ≤ sizeLine by decide) ?_ | refine And.intro (show 5 ≤ sizeLine by decide) ?_ | dsimp only)
      dsimp only at hb hj1 hj2
      exact h _ (m + 1) _ (tm_w1 (by decide) (by decide) (by decide +kernel) (okB_w (by decide)) ht) (bnd_1 hb (by omega)) (by omega) (by omega)
    rintro j rfl
    repeat (first | refine rd_here rfl ?_ | refine ownL_here rfl ?_ | rw [isI_int] | rw [addD_int] | rw [int0_int] | rw [someD_some] | refine rdRaw_here rfl ?_ | rw [isB_bl] | rw [eqD_str] | rw [eqD_int] | refine And.intro (show CPow _ _ from ⟨by decide, by decide, by decide⟩) ?_ | refine And.intro (show 2 ≤ sizeLine by decide) ?_ | refine And.intro (show 1 ≤ sizeLine by decide) ?_ | refine And.intro (show 3 ≤ sizeLine by decide) ?_ | refine And.intro (show 4 ≤ sizeLine by decide) ?_ | refine And.intro (show 5 ≤ sizeLine by decide) ?_ | dsimp only)
    refine term_use (deep := e) (by omega) hdis hd hws (by decide) (by omega) (by omega) (by first | omega | (dsimp only; omega)) fun d m j ht hb hj1 hj2 => ?_
    repeat (first | refine rd_here rfl ?_ | refine ownL_here rfl ?_ | rw [isI_int] | rw [addD_int] | rw [int0_int] | rw [someD_some] | refine rdRaw_here rfl ?_ | rw [isB_bl] | rw [eqD_str] | rw [eqD_int] | refine And.intro (show CPow _ _ from ⟨by decide, by decide, by decide⟩) ?_ | refine And.intro (show 2 ≤ sizeLine by decide) ?_ | refine And.intro (show 1 ≤ sizeLine by decide) ?_ | refine And.intro (show 3 ≤ sizeLine by decide) ?_ | refine And.intro (show 4 ≤ sizeLine by decide) ?_ | refine And.intro (show 5 ≤ sizeLine by decide) ?_ | dsimp only)
    dsimp only at hb hj1 hj2
    refine term_use (deep := e) (by omega) hdis hd hws (by decide) (by omega) (by omega) (by omega) fun d2 m2 j2 ht2 hb2 hk1 hk2 => ?_
    repeat (first | refine rd_here rfl ?_ | refine ownL_here rfl ?_ | rw [isI_int] | rw [addD_int] | rw [int0_int] | rw [someD_some] | refine rdRaw_here rfl ?_ | rw [isB_bl] | rw [eqD_str] | rw [eqD_int] | refine And.intro (show CPow _ _ from ⟨by decide, by decide, by decide⟩) ?_ | refine And.intro (show 2 ≤ sizeLine by decide) ?_ | refine And.intro (show 1 ≤ sizeLine by decide) ?_ | refine And.intro (show 3 ≤ sizeLine by decide) ?_ | refine And.intro (show 4 ≤ sizeLine by decide) ?_ | refine And.intro (show 5 ≤ sizeLine by decide) ?_ | dsimp only)
    rw [hj2] at hb2
    refine draw_use hd (by decide) (by decide) (by omega) fun x hy0 hy1 => ?_
    repeat (first | refine rd_here rfl ?_ | refine ownL_here rfl ?_ | rw [isI_int] | rw [addD_int] | rw [int0_int] | rw [someD_some] | refine rdRaw_here rfl ?_ | rw [isB_bl] | rw [eqD_str] | rw [eqD_int] | refine And.intro (show CPow _ _ from ⟨by decide, by decide, by decide⟩) ?_ | refine And.intro (show 2 ≤ sizeLine by decide) ?_ | refine And.intro (show 1 ≤ sizeLine by decide) ?_ | refine And.intro (show 3 ≤ sizeLine by decide) ?_ | refine And.intro (show 4 ≤ sizeLine by decide) ?_ | refine And.intro (show 5 ≤ sizeLine by decide) ?_ | dsimp only)
    have h3 : x = 0 ∨ x = 1 ∨ x = 2 := by omega
    rcases h3 with rfl | rfl | rfl
    · rw [ixD_lst, at0, someD_some]
      repeat (first | refine rd_here rfl ?_ | refine ownL_here rfl ?_ | rw [isI_int] | rw [addD_int] | rw [int0_int] | rw [someD_some] | refine rdRaw_here rfl ?_ | rw [isB_bl] | rw [eqD_str] | rw [eqD_int] | refine And.intro (show CPow _ _ from ⟨by decide, by decide, by decide⟩) ?_ | refine And.intro (show 2 ≤ sizeLine by decide) ?_ | refine And.intro (show 1 ≤ sizeLine by decide) ?_ | refine And.intro (show 3 ≤ sizeLine by decide) ?_ | refine And.intro (show 4 ≤ sizeLine by decide) ?_ | refine And.intro (show 5 ≤ sizeLine by decide) ?_ | dsimp only)
      exact h _ (m + m2 + 1) _ (tm_w2 (by decide) (by decide) (by decide +kernel) (okB_w (by decide)) ht ht2) (bnd_2 hb hb2 (by omega)) (by first | omega | (dsimp only; omega)) (by first | omega | (dsimp only; omega))
    · rw [ixD_lst, at1, someD_some]
      repeat (first | refine rd_here rfl ?_ | refine ownL_here rfl ?_ | rw [isI_int] | rw [addD_int] | rw [int0_int] | rw [someD_some] | refine rdRaw_here rfl ?_ | rw [isB_bl] | rw [eqD_str] | rw [eqD_int] | refine And.intro (show CPow _ _ from ⟨by decide, by decide, by decide⟩) ?_ | refine And.intro (show 2 ≤ sizeLine by decide) ?_ | refine And.intro (show 1 ≤ sizeLine by decide) ?_ | refine And.intro (show 3 ≤ sizeLine by decide) ?_ | refine And.intro (show 4 ≤ sizeLine by decide) ?_ | refine And.intro (show 5 ≤ sizeLine by decide) ?_ | dsimp only)
      exact h _ (m + m2 + 1) _ (tm_w2 (by decide) (by decide) (by decide +kernel) (okB_w (by decide)) ht ht2) (bnd_2 hb hb2 (by omega)) (by first | omega | (dsimp only; omega)) (by first | omega | (dsimp only; omega))
    · rw [ixD_lst, at2, someD_some]
      repeat (first | refine rd_here rfl ?_ | refine ownL_here rfl ?_ | rw [isI_int] | rw [addD_int] | rw [int0_int] | rw [someD_some] | refine rdRaw_here rfl ?_ | rw [isB_bl] | rw [eqD_str] | rw [eqD_int] | refine And.intro (show CPow _ _ from ⟨by decide, by decide, by decide⟩) ?_ | refine And.intro (show 2 ≤ sizeLine by decide) ?_ | refine And.intro (show 1 ≤ sizeLine by decide) ?_ | refine And.intro (show 3 ≤ sizeLine by decide) ?_ | refine And.intro (show 4 ≤ sizeLine by decide) ?_ | refine And.intro (show 5 ≤ sizeLine by decide) ?_ | dsimp only)
      exact h _ (m + m2 + 1) _ (tm_w2 (by decide) (by decide) (by decide +kernel) (okB_w (by decide)) ht ht2) (bnd_2 hb hb2 (by omega)) (by first | omega | (dsimp only; omega)) (by first | omega | (dsimp only; omega))
  rintro j ⟨rfl, hb3⟩
  have hn3 : kd ≠ "set" := of_decide_eq_false hb3.symm
  have hbits : kd = "bits" := by
    have q : kd = "thing" ∨ kd = "num" ∨ kd = "tree" ∨ kd = "set" ∨ kd = "bits" := by simpa [sorts] using hkd
    rcases q with q | q | q | q | q
    · exact absurd q hnt
    · exact absurd q hn1
    · exact absurd q hn2
    · exact absurd q hn3
    · exact q
  subst hbits
  refine ⟨fun b j => j = (i0.1 + 1, i0.2 - 1), ?_, ?_, ?_⟩
  · repeat (first | refine rd_here rfl ?_ | refine ownL_here rfl ?_ | rw [isI_int] | rw [addD_int] | rw [int0_int] | rw [someD_some] | refine rdRaw_here rfl ?_ | rw [isB_bl] | rw [eqD_str] | rw [eqD_int] | refine And.intro (show CPow _ _ from ⟨by decide, by decide, by decide⟩) ?_ | refine And.intro (show 2 ≤ sizeLine by decide) ?_ | refine And.intro (show 1 ≤ sizeLine by decide) ?_ | refine And.intro (show 3 ≤ sizeLine by decide) ?_ | refine And.intro (show 4 ≤ sizeLine by decide) ?_ | refine And.intro (show 5 ≤ sizeLine by decide) ?_ | dsimp only)
  · rintro j rfl
    repeat (first | refine rd_here rfl ?_ | refine ownL_here rfl ?_ | rw [isI_int] | rw [addD_int] | rw [int0_int] | rw [someD_some] | refine rdRaw_here rfl ?_ | rw [isB_bl] | rw [eqD_str] | rw [eqD_int] | refine And.intro (show CPow _ _ from ⟨by decide, by decide, by decide⟩) ?_ | refine And.intro (show 2 ≤ sizeLine by decide) ?_ | refine And.intro (show 1 ≤ sizeLine by decide) ?_ | refine And.intro (show 3 ≤ sizeLine by decide) ?_ | refine And.intro (show 4 ≤ sizeLine by decide) ?_ | refine And.intro (show 5 ≤ sizeLine by decide) ?_ | dsimp only)
    refine term_use (deep := e) (by omega) hdis hd hws (by decide) (by omega) (by omega) (by first | omega | (dsimp only; omega)) fun d m j ht hb hj1 hj2 => ?_
    repeat (first | refine rd_here rfl ?_ | refine ownL_here rfl ?_ | rw [isI_int] | rw [addD_int] | rw [int0_int] | rw [someD_some] | refine rdRaw_here rfl ?_ | rw [isB_bl] | rw [eqD_str] | rw [eqD_int] | refine And.intro (show CPow _ _ from ⟨by decide, by decide, by decide⟩) ?_ | refine And.intro (show 2 ≤ sizeLine by decide) ?_ | refine And.intro (show 1 ≤ sizeLine by decide) ?_ | refine And.intro (show 3 ≤ sizeLine by decide) ?_ | refine And.intro (show 4 ≤ sizeLine by decide) ?_ | refine And.intro (show 5 ≤ sizeLine by decide) ?_ | dsimp only)
    dsimp only at hb hj1 hj2
    exact h _ (m + 1) _ (tm_w1 (by decide) (by decide) (by decide +kernel) (okB_w (by decide)) ht) (bnd_1 hb (by omega)) (by omega) (by omega)
  · rintro j rfl
    repeat (first | refine rd_here rfl ?_ | refine ownL_here rfl ?_ | rw [isI_int] | rw [addD_int] | rw [int0_int] | rw [someD_some] | refine rdRaw_here rfl ?_ | rw [isB_bl] | rw [eqD_str] | rw [eqD_int] | refine And.intro (show CPow _ _ from ⟨by decide, by decide, by decide⟩) ?_ | refine And.intro (show 2 ≤ sizeLine by decide) ?_ | refine And.intro (show 1 ≤ sizeLine by decide) ?_ | refine And.intro (show 3 ≤ sizeLine by decide) ?_ | refine And.intro (show 4 ≤ sizeLine by decide) ?_ | refine And.intro (show 5 ≤ sizeLine by decide) ?_ | dsimp only)
    refine term_use (deep := e) (by omega) hdis hd hws (by decide) (by omega) (by omega) (by first | omega | (dsimp only; omega)) fun d m j ht hb hj1 hj2 => ?_
    repeat (first | refine rd_here rfl ?_ | refine ownL_here rfl ?_ | rw [isI_int] | rw [addD_int] | rw [int0_int] | rw [someD_some] | refine rdRaw_here rfl ?_ | rw [isB_bl] | rw [eqD_str] | rw [eqD_int] | refine And.intro (show CPow _ _ from ⟨by decide, by decide, by decide⟩) ?_ | refine And.intro (show 2 ≤ sizeLine by decide) ?_ | refine And.intro (show 1 ≤ sizeLine by decide) ?_ | refine And.intro (show 3 ≤ sizeLine by decide) ?_ | refine And.intro (show 4 ≤ sizeLine by decide) ?_ | refine And.intro (show 5 ≤ sizeLine by decide) ?_ | dsimp only)
    dsimp only at hb hj1 hj2
    refine term_use (deep := e) (by omega) hdis hd hws (by decide) (by omega) (by omega) (by omega) fun d2 m2 j2 ht2 hb2 hk1 hk2 => ?_
    repeat (first | refine rd_here rfl ?_ | refine ownL_here rfl ?_ | rw [isI_int] | rw [addD_int] | rw [int0_int] | rw [someD_some] | refine rdRaw_here rfl ?_ | rw [isB_bl] | rw [eqD_str] | rw [eqD_int] | refine And.intro (show CPow _ _ from ⟨by decide, by decide, by decide⟩) ?_ | refine And.intro (show 2 ≤ sizeLine by decide) ?_ | refine And.intro (show 1 ≤ sizeLine by decide) ?_ | refine And.intro (show 3 ≤ sizeLine by decide) ?_ | refine And.intro (show 4 ≤ sizeLine by decide) ?_ | refine And.intro (show 5 ≤ sizeLine by decide) ?_ | dsimp only)
    rw [hj2] at hb2
    refine draw_use hd (by decide) (by decide) (by omega) fun x hy0 hy1 => ?_
    repeat (first | refine rd_here rfl ?_ | refine ownL_here rfl ?_ | rw [isI_int] | rw [addD_int] | rw [int0_int] | rw [someD_some] | refine rdRaw_here rfl ?_ | rw [isB_bl] | rw [eqD_str] | rw [eqD_int] | refine And.intro (show CPow _ _ from ⟨by decide, by decide, by decide⟩) ?_ | refine And.intro (show 2 ≤ sizeLine by decide) ?_ | refine And.intro (show 1 ≤ sizeLine by decide) ?_ | refine And.intro (show 3 ≤ sizeLine by decide) ?_ | refine And.intro (show 4 ≤ sizeLine by decide) ?_ | refine And.intro (show 5 ≤ sizeLine by decide) ?_ | dsimp only)
    have h3 : x = 0 ∨ x = 1 ∨ x = 2 := by omega
    rcases h3 with rfl | rfl | rfl
    · rw [ixD_lst, at0, someD_some]
      repeat (first | refine rd_here rfl ?_ | refine ownL_here rfl ?_ | rw [isI_int] | rw [addD_int] | rw [int0_int] | rw [someD_some] | refine rdRaw_here rfl ?_ | rw [isB_bl] | rw [eqD_str] | rw [eqD_int] | refine And.intro (show CPow _ _ from ⟨by decide, by decide, by decide⟩) ?_ | refine And.intro (show 2 ≤ sizeLine by decide) ?_ | refine And.intro (show 1 ≤ sizeLine by decide) ?_ | refine And.intro (show 3 ≤ sizeLine by decide) ?_ | refine And.intro (show 4 ≤ sizeLine by decide) ?_ | refine And.intro (show 5 ≤ sizeLine by decide) ?_ | dsimp only)
      exact h _ (m + m2 + 1) _ (tm_w2 (by decide) (by decide) (by decide +kernel) (okB_w (by decide)) ht ht2) (bnd_2 hb hb2 (by omega)) (by first | omega | (dsimp only; omega)) (by first | omega | (dsimp only; omega))
    · rw [ixD_lst, at1, someD_some]
      repeat (first | refine rd_here rfl ?_ | refine ownL_here rfl ?_ | rw [isI_int] | rw [addD_int] | rw [int0_int] | rw [someD_some] | refine rdRaw_here rfl ?_ | rw [isB_bl] | rw [eqD_str] | rw [eqD_int] | refine And.intro (show CPow _ _ from ⟨by decide, by decide, by decide⟩) ?_ | refine And.intro (show 2 ≤ sizeLine by decide) ?_ | refine And.intro (show 1 ≤ sizeLine by decide) ?_ | refine And.intro (show 3 ≤ sizeLine by decide) ?_ | refine And.intro (show 4 ≤ sizeLine by decide) ?_ | refine And.intro (show 5 ≤ sizeLine by decide) ?_ | dsimp only)
      exact h _ (m + m2 + 1) _ (tm_w2 (by decide) (by decide) (by decide +kernel) (okB_w (by decide)) ht ht2) (bnd_2 hb hb2 (by omega)) (by first | omega | (dsimp only; omega)) (by first | omega | (dsimp only; omega))
    · rw [ixD_lst, at2, someD_some]
      repeat (first | refine rd_here rfl ?_ | refine ownL_here rfl ?_ | rw [isI_int] | rw [addD_int] | rw [int0_int] | rw [someD_some] | refine rdRaw_here rfl ?_ | rw [isB_bl] | rw [eqD_str] | rw [eqD_int] | refine And.intro (show CPow _ _ from ⟨by decide, by decide, by decide⟩) ?_ | refine And.intro (show 2 ≤ sizeLine by decide) ?_ | refine And.intro (show 1 ≤ sizeLine by decide) ?_ | refine And.intro (show 3 ≤ sizeLine by decide) ?_ | refine And.intro (show 4 ≤ sizeLine by decide) ?_ | refine And.intro (show 5 ≤ sizeLine by decide) ?_ | dsimp only)
      exact h _ (m + m2 + 1) _ (tm_w2 (by decide) (by decide) (by decide +kernel) (okB_w (by decide)) ht ht2) (bnd_2 hb hb2 (by omega)) (by first | omega | (dsimp only; omega)) (by first | omega | (dsimp only; omega))
end
end K01
namespace K01
open PySem PySem.Spec PyProof.Rows L2 DL
/-- what a term of at most forty parts costs -/
def conAny : ConS Nat := ⟨fun st n sl P => ∃ (v : V) (ws : List Str) (k : Str), IsDraw st v ∧ sl = [.raw v, .d (.lst (ws.map Dat.str)), .d (.str k)] ∧ wordsOk ws ∧ k ∈ sorts ∧ n + 2000000000000 < manyDraws ∧ ∀ (d : Dat) (m j : Nat), Tm 6 k m d → m ≤ 40 → j ≤ n + 2000000000000 → P d j,
  fun _ _ _ _ _ ⟨v, ws, k, h0, e, h1, h2, h3, h⟩ q => ⟨v, ws, k, h0, e, h1, h2, h3, fun x m j a b c => q _ _ (h x m j a b c)⟩⟩
theorem cost_le {deep : Nat} (h : deep ≤ 6) : cost deep ≤ 1000000000000 := Nat.le_trans (Nat.pow_le_pow_right (by decide) h) (by decide)
section
variable {P : Program} {w : World} {K : PySem.W.Frag} {mg : Str → Option Value} {base : Heap} {f f2 : Addr} {fd fd2 : FuncData} {k : Nat}
abbrev s__law_any_term : Stmt := topS 55
theorem sc__law_any_term : FnScope ["m", "w", "kind"] ["m", "w", "kind"] (defScope s__law_any_term) := ⟨rfl, rfl, rfl, by decide +kernel, rfl, by decide +kernel, by decide +kernel⟩
-- calls ['_law_term', '_law_draw'] consts []
theorem ok_law_any_term (F__law_draw : CalleeS P w K mg base "_law_draw" k ["m", "top"] conDraw) (F__law_term : CalleeS P w K mg base "_law_term" k ["m", "w", "kind", "deep", "room"] (conTerm 6)) (F : Fun K "_law_any_term" "_law_any_term" s__law_any_term f fd) : FnOk P w K mg base CX0 (k + 1) f fd ["m", "w", "kind"] (spS K conAny) := by
  refine fn_pureS F sc__law_any_term (fun st i sl P ⟨v, _, _, _, e, _⟩ => by rw [e]; rfl) fun cdv A outer s H S hS st i0 h0 hf hr sl R hc => ?_
  have nd := sc__law_any_term.nd
  obtain ⟨v, ws, kd, hd, rfl, hws, hkd, hn, h⟩ := hc
  refine ⟨_, (dbr_one (dsr_ret (dr_fnSF (gs_self hf) F__law_term hr (dslF_raw 0 (dslF_d (dr_of fun i => (de_var 1)) (dslF_d (dr_of fun i => (de_var 2)) (dslF_d (dr_add (dr_of fun i => de_int) (dr_fnS (gs_self hf) F__law_draw hr (dsl_raw 0 (dsl_d (dr_of fun i => de_int) dsl_nil)) (by omega))) (dslF_last (dr_ix (dr_of fun i => (de_lst (da_cons de_int (da_cons de_int (da_cons de_int da_nil))))) (dr_fnS (gs_self hf) F__law_draw hr (dsl_raw 0 (dsl_d (dr_of fun i => de_int) dsl_nil)) (by omega)))))))) (by omega)))), ?_⟩
  repeat (first | refine rd_here rfl ?_ | refine ownL_here rfl ?_ | rw [isI_int] | rw [addD_int] | rw [int0_int] | rw [someD_some] | refine rdRaw_here rfl ?_ | rw [isB_bl] | rw [eqD_str] | rw [eqD_int] | refine And.intro (show CPow _ _ from ⟨by decide, by decide, by decide⟩) ?_ | refine And.intro (show 2 ≤ sizeLine by decide) ?_ | refine And.intro (show 1 ≤ sizeLine by decide) ?_ | refine And.intro (show 3 ≤ sizeLine by decide) ?_ | refine And.intro (show 4 ≤ sizeLine by decide) ?_ | refine And.intro (show 5 ≤ sizeLine by decide) ?_ | dsimp only)
  refine draw_use hd (by decide) (by decide) (by omega) fun x hx0 hx1 => ?_
  repeat (first | refine rd_here rfl ?_ | refine ownL_here rfl ?_ | rw [isI_int] | rw [addD_int] | rw [int0_int] | rw [someD_some] | refine rdRaw_here rfl ?_ | rw [isB_bl] | rw [eqD_str] | rw [eqD_int] | refine And.intro (show CPow _ _ from ⟨by decide, by decide, by decide⟩) ?_ | refine And.intro (show 2 ≤ sizeLine by decide) ?_ | refine And.intro (show 1 ≤ sizeLine by decide) ?_ | refine And.intro (show 3 ≤ sizeLine by decide) ?_ | refine And.intro (show 4 ≤ sizeLine by decide) ?_ | refine And.intro (show 5 ≤ sizeLine by decide) ?_ | dsimp only)
  refine draw_use hd (by decide) (by decide) (by omega) fun y hy0 hy1 => ?_
  repeat (first | refine rd_here rfl ?_ | refine ownL_here rfl ?_ | rw [isI_int] | rw [addD_int] | rw [int0_int] | rw [someD_some] | refine rdRaw_here rfl ?_ | rw [isB_bl] | rw [eqD_str] | rw [eqD_int] | refine And.intro (show CPow _ _ from ⟨by decide, by decide, by decide⟩) ?_ | refine And.intro (show 2 ≤ sizeLine by decide) ?_ | refine And.intro (show 1 ≤ sizeLine by decide) ?_ | refine And.intro (show 3 ≤ sizeLine by decide) ?_ | refine And.intro (show 4 ≤ sizeLine by decide) ?_ | refine And.intro (show 5 ≤ sizeLine by decide) ?_ | dsimp only)
  have fin : ∀ r : Int, r ≤ 24 → (isI (.int r) fun r => ∀ ra, ¬ st.fp ra → (conTerm 6).C (staAnd st (roomSta ra)) (i0 + 1 + 1, r) ([.raw v, .d (.lst (ws.map Dat.str)), .d (.str kd), .d (.int (1 + x))] ++ [.raw (.ref ra)]) fun d j' => R d j'.1) := fun r hr ra hra => by
    have hcost := cost_le (deep := 1 + x.toNat) (by omega)
    refine term_use (deep := 1 + x.toNat) (by omega) (fun a ha => by rw [show a = ra from ha]; exact hra) hd hws hkd (by omega) (by omega) (by first | omega | (dsimp only; omega)) fun d m j ht hb hj1 hj2 => ?_
    dsimp only at hb hj1
    exact h d m j.1 (ht.up (by omega)) (hb.2.2.2 (by omega) hr) (by omega)
  have h3 : y = 0 ∨ y = 1 ∨ y = 2 := by omega
  rcases h3 with rfl | rfl | rfl
  · exact fin 3 (by decide)
  · exact fin 9 (by decide)
  · exact fin 24 (by decide)
end
end K01
namespace K01
open PySem PySem.Spec PyProof.Rows L2 DL
/-- a text of small letters -/
def Small (z : Str) : Prop := ∀ c ∈ z.cps.toList, small c = true
def conCalled : ConS Nat := ⟨fun st n sl P => ∃ (v : V) (top : Nat), IsDraw st v ∧ sl = [.raw v, .d (.int (top : Nat))] ∧ top ≤ 100 ∧ n + 100000 < manyDraws ∧ ∀ (ws : List Str) (j : Nat), ws.length = top → (∀ z ∈ ws, isName (.str z) = true) → j ≤ n + 100000 → P (.lst (ws.map Dat.str)) j,
  fun _ _ _ _ _ ⟨v, t, h0, e, h1, h2, h⟩ q => ⟨v, t, h0, e, h1, h2, fun x j a b c => q _ _ (h x j a b c)⟩⟩
theorem small_app {x y : Str} (hx : Small x) (hy : Small y) : Small (x ++ y) := fun c hc => by
  rw [Str.cps_append, Array.toList_append, List.mem_append] at hc
  exact hc.elim (hx c) (hy c)
theorem small_one {c : Nat} (h : small c = true) : Small ⟨#[c]⟩ := fun d hd => by
  have e : d = c := by simpa using hd
  rw [e]; exact h
theorem len_one (c : Nat) : (⟨#[c]⟩ : Str).length = 1 := rfl
theorem small_nil : Small "" := fun c hc => by
  have e : ("" : Str).cps.toList = [] := by decide +kernel
  rw [e] at hc; cases hc
theorem letter_at {i : Int} (h0 : 0 ≤ i) (h1 : i < 26) : ∃ c, small c = true ∧ atI (Str.ofString "abcdefghijklmnopqrstuvwxyz").cps.toList i = some c := by
  have hl : (Str.ofString "abcdefghijklmnopqrstuvwxyz").cps.toList.length = 26 := by decide +kernel
  have hi : i.toNat < (Str.ofString "abcdefghijklmnopqrstuvwxyz").cps.toList.length := by rw [hl]; omega
  refine ⟨(Str.ofString "abcdefghijklmnopqrstuvwxyz").cps.toList[i.toNat], ?_, ?_⟩
  · rw [← alpha_small]
    exact decide_eq_true (List.getElem_mem hi)
  · have e : atI (Str.ofString "abcdefghijklmnopqrstuvwxyz").cps.toList ((i.toNat : Nat) : Int) = some ((Str.ofString "abcdefghijklmnopqrstuvwxyz").cps.toList[i.toNat]) := atI_nat (List.getElem?_eq_getElem hi)
    rw [Int.toNat_of_nonneg h0] at e
    exact e
theorem alpha_line : (Str.ofString "abcdefghijklmnopqrstuvwxyz").length ≤ sizeLine := by
  have hl : (Str.ofString "abcdefghijklmnopqrstuvwxyz").length = 26 := by decide +kernel
  rw [hl]; decide
theorem line_of {n : Nat} (h : n ≤ 100) : n ≤ sizeLine := Nat.le_trans h (by decide)
theorem name_of {z : Str} (h : Small z) (h1 : 1 ≤ z.length) (h6 : z.length ≤ 6) : isName (.str z) = true := by
  unfold isName
  simp only [Bool.and_eq_true, decide_eq_true_eq, List.all_eq_true]
  exact ⟨⟨h1, h6⟩, h⟩
theorem of_name {z : Str} (h : isName (.str z) = true) : Small z ∧ 1 ≤ z.length ∧ z.length ≤ 6 := by
  unfold isName at h
  simp only [Bool.and_eq_true, decide_eq_true_eq, List.all_eq_true] at h
  exact ⟨h.2, h.1.1, h.1.2⟩
theorem cut6 {z : Str} (h : Small z) (h1 : 1 ≤ z.length) : isName (.str (cutS z none (some 6))) = true := by
  have e : cutS z none (some 6) = ⟨(z.cps.toList.take 6).toArray⟩ := by
    unfold cutS
    rw [HT.sIx_none, show HT.sIx z.length z.length (some 6) = min 6 z.length from HT.sIx_nat _ _ 6, List.drop_zero, Nat.sub_zero]
    congr 2
    have hz : z.length = z.cps.toList.length := by simp [Str.length]
    rw [hz, ← List.take_take, List.take_length]
  have hz : z.length = z.cps.toList.length := by simp [Str.length]
  rw [e]
  refine name_of (fun c hc => h c (List.mem_of_mem_take hc)) ?_ ?_
  · show 1 ≤ (z.cps.toList.take 6).toArray.size
    rw [List.size_toArray, List.length_take]; omega
  · show (z.cps.toList.take 6).toArray.size ≤ 6
    rw [List.size_toArray, List.length_take]; omega
theorem negD_int {i : Int} {P : Dat → Prop} : negD (.int i) P = P (.int (-i)) := rfl
theorem stride_at {x : Int} (h0 : 0 ≤ x) (h1 : x < 12) : ∃ y : Int, (0 ≤ y ∧ y ≤ 25) ∧ atI [Dat.int 1, Dat.int 3, Dat.int 5, Dat.int 7, Dat.int 9, Dat.int 11, Dat.int 15, Dat.int 17, Dat.int 19, Dat.int 21, Dat.int 23, Dat.int 25] x = some (.int y) := by
  obtain ⟨y, ey, hat, _⟩ := atI_map (cells := [1, 3, 5, 7, 9, 11, 15, 17, 19, 21, 23, 25]) h0 h1
  have q : ∀ z ∈ ([1, 3, 5, 7, 9, 11, 15, 17, 19, 21, 23, 25] : List Int), 0 ≤ z ∧ z ≤ 25 := by decide
  exact ⟨y, q y (List.mem_of_getElem? ey), hat⟩
section
variable {P : Program} {w : World} {K : PySem.W.Frag} {mg : Str → Option Value} {base : Heap} {f f2 : Addr} {fd fd2 : FuncData} {k : Nat}
abbrev s__law_called : Stmt := topS 49
theorem sc__law_called : FnScope ["m", "top", "letters", "found", "shift", "stem", "k", "stride", "bit", "j"] ["m", "top"] (defScope s__law_called) := ⟨rfl, rfl, rfl, by decide +kernel, rfl, by decide +kernel, by decide +kernel⟩
-- calls ['_law_draw'] consts []
theorem ok_law_called (B : Bt mg) (F__law_draw : CalleeS P w K mg base "_law_draw" k ["m", "top"] conDraw) (F : Fun K "_law_called" "_law_called" s__law_called f fd) : FnOk P w K mg base CX0 (k + 1) f fd ["m", "top"] (spS K conCalled) := by
  refine fn_pureS F sc__law_called (fun st i sl P ⟨v, _, _, e, _⟩ => by rw [e]; rfl) fun cdv A outer s H S hS st i0 h0 hf hr sl R hc => ?_
  have nd := sc__law_called.nd
  obtain ⟨v, top, hd, rfl, htop, hn, h⟩ := hc
  refine ⟨_, (dbr_cons (dsr_parOwn 2 3 (dr_of fun i => de_str) nd) (dbr_cons (dsr_par 4 5 (dar_cons (dr_fnS (gs_self hf) F__law_draw hr (dsl_raw 0 (dsl_d (dr_of fun i => de_int) dsl_nil)) (by omega)) (dar_cons (dr_of fun i => de_str) dar_nil)) nd) (dbr_cons (dsr_forRange 6 B.range PassesOwn.never rfl (dar_cons (dr_ix (dr_lst (dar_cons (dr_of fun i => de_int) (dar_cons (dr_of fun i => de_int) (dar_cons (dr_of fun i => de_int) (dar_cons (dr_fnS (gs_self hf) F__law_draw hr (dsl_raw 0 (dsl_d (dr_of fun i => de_int) dsl_nil)) (by omega)) dar_nil))))) (dr_fnS (gs_self hf) F__law_draw hr (dsl_raw 0 (dsl_d (dr_of fun i => de_int) dsl_nil)) (by omega))) dar_nil) (dbr_one (dsr_set 5 (dr_add (dr_of fun i => (de_var 5)) (dr_ix (dr_of fun i => (de_var 2)) (dr_fnS (gs_self hf) F__law_draw hr (dsl_raw 0 (dsl_d (dr_of fun i => de_int) dsl_nil)) (by omega)))) nd)) nd) (dbr_cons (dsr_set 7 (dr_ix (dr_of fun i => (de_lst (da_cons de_int (da_cons de_int (da_cons de_int (da_cons de_int (da_cons de_int (da_cons de_int (da_cons de_int (da_cons de_int (da_cons de_int (da_cons de_int (da_cons de_int (da_cons de_int da_nil)))))))))))))) (dr_fnS (gs_self hf) F__law_draw hr (dsl_raw 0 (dsl_d (dr_of fun i => de_int) dsl_nil)) (by omega))) nd) (dbr_cons (dsr_forRange 6 B.range PassesOwn.never rfl (dar_cons (dr_of fun i => (de_var 1)) dar_nil) (dbr_cons (dsr_set 8 (dr_of fun i => (de_add (de_var 5) (de_ix (de_var 2) (de_mod (de_add (de_var 4) (de_mulI (de_var 7) (de_var 6))) de_int)))) nd) (dbr_cons (dsr_forRange 9 B.range PassesOwn.never rfl (dar_cons (dr_ix (dr_lst (dar_cons (dr_of fun i => de_int) (dar_cons (dr_of fun i => de_int) (dar_cons (dr_of fun i => de_int) (dar_cons (dr_fnS (gs_self hf) F__law_draw hr (dsl_raw 0 (dsl_d (dr_of fun i => de_int) dsl_nil)) (by omega)) dar_nil))))) (dr_fnS (gs_self hf) F__law_draw hr (dsl_raw 0 (dsl_d (dr_of fun i => de_int) dsl_nil)) (by omega))) dar_nil) (dbr_one (dsr_set 8 (dr_add (dr_of fun i => (de_var 8)) (dr_ix (dr_of fun i => (de_var 2)) (dr_fnS (gs_self hf) F__law_draw hr (dsl_raw 0 (dsl_d (dr_of fun i => de_int) dsl_nil)) (by omega)))) nd)) nd) (dbr_cons (dsr_if (dtr_w (dwr_and (dtr_of fun i => (dt_eq hr.units (de_mod (de_var 6) de_int) de_int)) (dwr_and (dtr_of fun i => (dt_lt (de_len B.len (da_cons (de_ixOwn 3 (de_neg de_int)) da_nil)) de_int)) (dwr_and1 (dtr_eq hr.units (dr_fnS (gs_self hf) F__law_draw hr (dsl_raw 0 (dsl_d (dr_of fun i => de_int) dsl_nil)) (by omega)) (dr_of fun i => de_int)))))) (dbr_one (dsr_set 8 (dr_add (dr_of fun i => (de_ixOwn 3 (de_neg de_int))) (dr_ix (dr_of fun i => (de_var 2)) (dr_fnS (gs_self hf) F__law_draw hr (dsl_raw 0 (dsl_d (dr_of fun i => de_int) dsl_nil)) (by omega)))) nd)) dbr_nil) (dbr_one (dsr_of fun i => (ds_append 3 (he := (de_sl (de_var 8) do_none (do_some de_int))))))))) nd) (dbr_one (dsr_freeze (dsr_ret (dr_of fun i => (de_var 3)))))))))), ?_⟩
  repeat (first | refine rd_here rfl ?_ | refine ownL_here rfl ?_ | rw [isI_int] | rw [addD_int] | rw [int0_int] | rw [someD_some] | refine rdRaw_here rfl ?_ | rw [isB_bl] | rw [eqD_str] | rw [eqD_int] | refine And.intro (show CPow _ _ from ⟨by decide, by decide, by decide⟩) ?_ | refine And.intro (show 2 ≤ sizeLine by decide) ?_ | refine And.intro (show 1 ≤ sizeLine by decide) ?_ | refine And.intro (show 3 ≤ sizeLine by decide) ?_ | refine And.intro (show 4 ≤ sizeLine by decide) ?_ | refine And.intro (show 5 ≤ sizeLine by decide) ?_ | dsimp only)
  refine draw_use hd (by decide) (by decide) (by omega) fun shift hx0 hx1 => ?_
  refine ⟨fun items ρ j => ∃ (stem : Str) (a : DL.Slot), ρ = [.raw v, .d (.int (top : Nat)), .d (.str (Str.ofString "abcdefghijklmnopqrstuvwxyz")), .own [], .d (.int shift), .d (.str stem), a, .un, .un, .un] ∧ Small stem ∧ stem.length + items.length ≤ 4 ∧ j + items.length ≤ i0 + 7, ?_, ?_, ?_⟩
  · repeat (first | refine rd_here rfl ?_ | refine ownL_here rfl ?_ | rw [isI_int] | rw [addD_int] | rw [int0_int] | rw [someD_some] | refine rdRaw_here rfl ?_ | rw [isB_bl] | rw [eqD_str] | rw [eqD_int] | refine And.intro (show CPow _ _ from ⟨by decide, by decide, by decide⟩) ?_ | refine And.intro (show 2 ≤ sizeLine by decide) ?_ | refine And.intro (show 1 ≤ sizeLine by decide) ?_ | refine And.intro (show 3 ≤ sizeLine by decide) ?_ | refine And.intro (show 4 ≤ sizeLine by decide) ?_ | refine And.intro (show 5 ≤ sizeLine by decide) ?_ | dsimp only)
    refine draw_use hd (by decide) (by decide) (by omega) fun x hy0 hy1 => ?_
    repeat (first | refine rd_here rfl ?_ | refine ownL_here rfl ?_ | rw [isI_int] | rw [addD_int] | rw [int0_int] | rw [someD_some] | refine rdRaw_here rfl ?_ | rw [isB_bl] | rw [eqD_str] | rw [eqD_int] | refine And.intro (show CPow _ _ from ⟨by decide, by decide, by decide⟩) ?_ | refine And.intro (show 2 ≤ sizeLine by decide) ?_ | refine And.intro (show 1 ≤ sizeLine by decide) ?_ | refine And.intro (show 3 ≤ sizeLine by decide) ?_ | refine And.intro (show 4 ≤ sizeLine by decide) ?_ | refine And.intro (show 5 ≤ sizeLine by decide) ?_ | dsimp only)
    refine draw_use hd (by decide) (by decide) (by omega) fun y hz0 hz1 => ?_
    repeat (first | refine rd_here rfl ?_ | refine ownL_here rfl ?_ | rw [isI_int] | rw [addD_int] | rw [int0_int] | rw [someD_some] | refine rdRaw_here rfl ?_ | rw [isB_bl] | rw [eqD_str] | rw [eqD_int] | refine And.intro (show CPow _ _ from ⟨by decide, by decide, by decide⟩) ?_ | refine And.intro (show 2 ≤ sizeLine by decide) ?_ | refine And.intro (show 1 ≤ sizeLine by decide) ?_ | refine And.intro (show 3 ≤ sizeLine by decide) ?_ | refine And.intro (show 4 ≤ sizeLine by decide) ?_ | refine And.intro (show 5 ≤ sizeLine by decide) ?_ | dsimp only)
    have fin : ∀ n : Int, 0 ≤ n → n ≤ 4 → (int1 [.int n] fun n => (-(2 ^ 62) ≤ n ∧ n < 2 ^ 62) ∧ ∃ (stem : Str) (a : DL.Slot), ([.raw v, .d (.int (top : Nat)), .d (.str (Str.ofString "abcdefghijklmnopqrstuvwxyz")), .own [], .d (.int shift), .d (.str ""), .un, .un, .un, .un] : List DL.Slot) = [.raw v, .d (.int (top : Nat)), .d (.str (Str.ofString "abcdefghijklmnopqrstuvwxyz")), .own [], .d (.int shift), .d (.str stem), a, .un, .un, .un] ∧ Small stem ∧ stem.length + (rints 0 n.toNat).length ≤ 4 ∧ i0 + 1 + 1 + 1 + (rints 0 n.toNat).length ≤ i0 + 7) := fun n h0 h4 => by
      refine ⟨⟨by omega, by omega⟩, "", .un, rfl, small_nil, ?_, ?_⟩
      · rw [show ("" : Str).length = 0 by decide +kernel]; simp [rints]; omega
      · simp [rints]; omega
    have h3 : y = 0 ∨ y = 1 ∨ y = 2 ∨ y = 3 := by omega
    rcases h3 with rfl | rfl | rfl | rfl
    · exact fin 0 (by decide) (by decide)
    · exact fin 0 (by decide) (by decide)
    · exact fin 1 (by decide) (by decide)
    · exact fin x hy0 (by omega)
  · rintro ρ j ⟨stem, a, rfl, hst, hsl, hj⟩
    refine ⟨(show 12 ≤ sizeLine by decide), ?_⟩
    repeat (first | refine rd_here rfl ?_ | refine ownL_here rfl ?_ | rw [isI_int] | rw [addD_int] | rw [int0_int] | rw [someD_some] | refine rdRaw_here rfl ?_ | rw [isB_bl] | rw [eqD_str] | rw [eqD_int] | refine And.intro (show CPow _ _ from ⟨by decide, by decide, by decide⟩) ?_ | refine And.intro (show 2 ≤ sizeLine by decide) ?_ | refine And.intro (show 1 ≤ sizeLine by decide) ?_ | refine And.intro (show 3 ≤ sizeLine by decide) ?_ | refine And.intro (show 4 ≤ sizeLine by decide) ?_ | refine And.intro (show 5 ≤ sizeLine by decide) ?_ | dsimp only)
    have hj' : j ≤ i0 + 7 := by simpa using hj
    have hsl' : stem.length ≤ 4 := by simpa using hsl
    refine draw_use hd (by decide) (by decide) (by omega) fun x hy0 hy1 => ?_
    obtain ⟨stride, hstr, hat⟩ := stride_at hy0 hy1
    rw [ixD_lst, hat, someD_some]
    refine ⟨fun items ρ j2 => ∃ (ws : List Str) (a8 a9 a6 : DL.Slot), ρ = [.raw v, .d (.int (top : Nat)), .d (.str (Str.ofString "abcdefghijklmnopqrstuvwxyz")), .own (ws.map Dat.str), .d (.int shift), .d (.str stem), a6, .d (.int stride), a8, a9] ∧ (∀ z ∈ ws, isName (.str z) = true) ∧ (∀ (q : Nat) (d : Dat), items[q]? = some d → d = .int ((ws.length + q : Nat) : Int)) ∧ ws.length + items.length = top ∧ j2 + 20 * items.length ≤ i0 + 20 + 20 * top, ?_, ?_, ?_⟩
    · repeat (first | refine rd_here rfl ?_ | refine ownL_here rfl ?_ | rw [isI_int] | rw [addD_int] | rw [int0_int] | rw [someD_some] | refine rdRaw_here rfl ?_ | rw [isB_bl] | rw [eqD_str] | rw [eqD_int] | refine And.intro (show CPow _ _ from ⟨by decide, by decide, by decide⟩) ?_ | refine And.intro (show 2 ≤ sizeLine by decide) ?_ | refine And.intro (show 1 ≤ sizeLine by decide) ?_ | refine And.intro (show 3 ≤ sizeLine by decide) ?_ | refine And.intro (show 4 ≤ sizeLine by decide) ?_ | refine And.intro (show 5 ≤ sizeLine by decide) ?_ | dsimp only)
      refine ⟨⟨by omega, by omega⟩, [], .un, .un, a, rfl, (fun z hz => by cases hz), (fun q d hq => ?_), (by simp [rints]), (by simp [rints]; omega)⟩
      have hq' : (rints 0 top)[q]? = some d := by simpa using hq
      rw [rints, List.getElem?_map] at hq'
      cases e : (List.range top)[q]? with
      | none => rw [e] at hq'; cases hq'
      | some y =>
        rw [e] at hq'
        cases hq'
        obtain ⟨h1, h2⟩ := List.getElem?_eq_some_iff.mp e
        rw [List.getElem_range] at h2
        rw [← h2]
        show Dat.int (0 + ((q : Nat) : Int)) = _
        congr 1
    · rintro ρ j2 ⟨ws, a8, a9, a6, rfl, hws, _, hlen, hj2⟩
      refine rd_here rfl ?_
      exact h ws j2 (by simpa using hlen) hws (by simp at hj2; omega)
    rintro d ds ρ j2 ⟨ws, a8, a9, a6, rfl, hws, hit, hlen, hj2⟩
    obtain rfl : d = .int ((ws.length : Nat) : Int) := by simpa using hit 0 d rfl
    rw [List.length_cons] at hlen hj2
    repeat (first | refine rd_here rfl ?_ | refine ownL_here rfl ?_ | rw [isI_int] | rw [addD_int] | rw [int0_int] | rw [someD_some] | refine rdRaw_here rfl ?_ | rw [isB_bl] | rw [eqD_str] | rw [eqD_int] | refine And.intro (show CPow _ _ from ⟨by decide, by decide, by decide⟩) ?_ | refine And.intro (show 2 ≤ sizeLine by decide) ?_ | refine And.intro (show 1 ≤ sizeLine by decide) ?_ | refine And.intro (show 3 ≤ sizeLine by decide) ?_ | refine And.intro (show 4 ≤ sizeLine by decide) ?_ | refine And.intro (show 5 ≤ sizeLine by decide) ?_ | dsimp only)
    refine ⟨.inl ⟨by omega, by omega⟩, ?_⟩
    repeat (first | refine rd_here rfl ?_ | refine ownL_here rfl ?_ | rw [isI_int] | rw [addD_int] | rw [int0_int] | rw [someD_some] | refine rdRaw_here rfl ?_ | rw [isB_bl] | rw [eqD_str] | rw [eqD_int] | refine And.intro (show CPow _ _ from ⟨by decide, by decide, by decide⟩) ?_ | refine And.intro (show 2 ≤ sizeLine by decide) ?_ | refine And.intro (show 1 ≤ sizeLine by decide) ?_ | refine And.intro (show 3 ≤ sizeLine by decide) ?_ | refine And.intro (show 4 ≤ sizeLine by decide) ?_ | refine And.intro (show 5 ≤ sizeLine by decide) ?_ | dsimp only)
    refine ⟨(show (0 : Int) < 26 by decide), ?_⟩
    repeat (first | refine rd_here rfl ?_ | refine ownL_here rfl ?_ | rw [isI_int] | rw [addD_int] | rw [int0_int] | rw [someD_some] | refine rdRaw_here rfl ?_ | rw [isB_bl] | rw [eqD_str] | rw [eqD_int] | refine And.intro (show CPow _ _ from ⟨by decide, by decide, by decide⟩) ?_ | refine And.intro (show 2 ≤ sizeLine by decide) ?_ | refine And.intro (show 1 ≤ sizeLine by decide) ?_ | refine And.intro (show 3 ≤ sizeLine by decide) ?_ | refine And.intro (show 4 ≤ sizeLine by decide) ?_ | refine And.intro (show 5 ≤ sizeLine by decide) ?_ | dsimp only)
    obtain ⟨c, hc, hat2⟩ := letter_at (i := (shift + stride * ((ws.length : Nat) : Int)) % 26) (Int.emod_nonneg _ (by decide)) (Int.emod_lt_of_pos _ (by decide))
    refine ⟨alpha_line, ?_⟩
    rw [hat2, someD_some]
    repeat (first | refine rd_here rfl ?_ | refine ownL_here rfl ?_ | rw [isI_int] | rw [addD_int] | rw [int0_int] | rw [someD_some] | refine rdRaw_here rfl ?_ | rw [isB_bl] | rw [eqD_str] | rw [eqD_int] | refine And.intro (show CPow _ _ from ⟨by decide, by decide, by decide⟩) ?_ | refine And.intro (show 2 ≤ sizeLine by decide) ?_ | refine And.intro (show 1 ≤ sizeLine by decide) ?_ | refine And.intro (show 3 ≤ sizeLine by decide) ?_ | refine And.intro (show 4 ≤ sizeLine by decide) ?_ | refine And.intro (show 5 ≤ sizeLine by decide) ?_ | dsimp only)
    refine ⟨by rw [len_one]; exact line_of (by omega), ?_⟩
    have hb1 : Small (stem ++ ⟨#[c]⟩) := small_app hst (small_one hc)
    have hb2 : (stem ++ ⟨#[c]⟩ : Str).length = stem.length + 1 := by rw [Str.length_append, len_one]
    refine ⟨fun items ρ j3 => ∃ (bit : Str) (a9 : DL.Slot), ρ = [.raw v, .d (.int (top : Nat)), .d (.str (Str.ofString "abcdefghijklmnopqrstuvwxyz")), .own (ws.map Dat.str), .d (.int shift), .d (.str stem), .d (.int ((ws.length : Nat) : Int)), .d (.int stride), .d (.str bit), a9] ∧ Small bit ∧ 1 ≤ bit.length ∧ bit.length + items.length ≤ 10 ∧ j3 + items.length ≤ j2 + 7, ?_, ?_, ?_⟩
    · repeat (first | refine rd_here rfl ?_ | refine ownL_here rfl ?_ | rw [isI_int] | rw [addD_int] | rw [int0_int] | rw [someD_some] | refine rdRaw_here rfl ?_ | rw [isB_bl] | rw [eqD_str] | rw [eqD_int] | refine And.intro (show CPow _ _ from ⟨by decide, by decide, by decide⟩) ?_ | refine And.intro (show 2 ≤ sizeLine by decide) ?_ | refine And.intro (show 1 ≤ sizeLine by decide) ?_ | refine And.intro (show 3 ≤ sizeLine by decide) ?_ | refine And.intro (show 4 ≤ sizeLine by decide) ?_ | refine And.intro (show 5 ≤ sizeLine by decide) ?_ | dsimp only)
      refine draw_use hd (by decide) (by decide) (by omega) fun y hy0 hy1 => ?_
      repeat (first | refine rd_here rfl ?_ | refine ownL_here rfl ?_ | rw [isI_int] | rw [addD_int] | rw [int0_int] | rw [someD_some] | refine rdRaw_here rfl ?_ | rw [isB_bl] | rw [eqD_str] | rw [eqD_int] | refine And.intro (show CPow _ _ from ⟨by decide, by decide, by decide⟩) ?_ | refine And.intro (show 2 ≤ sizeLine by decide) ?_ | refine And.intro (show 1 ≤ sizeLine by decide) ?_ | refine And.intro (show 3 ≤ sizeLine by decide) ?_ | refine And.intro (show 4 ≤ sizeLine by decide) ?_ | refine And.intro (show 5 ≤ sizeLine by decide) ?_ | dsimp only)
      refine draw_use hd (by decide) (by decide) (by omega) fun y2 hz0 hz1 => ?_
      repeat (first | refine rd_here rfl ?_ | refine ownL_here rfl ?_ | rw [isI_int] | rw [addD_int] | rw [int0_int] | rw [someD_some] | refine rdRaw_here rfl ?_ | rw [isB_bl] | rw [eqD_str] | rw [eqD_int] | refine And.intro (show CPow _ _ from ⟨by decide, by decide, by decide⟩) ?_ | refine And.intro (show 2 ≤ sizeLine by decide) ?_ | refine And.intro (show 1 ≤ sizeLine by decide) ?_ | refine And.intro (show 3 ≤ sizeLine by decide) ?_ | refine And.intro (show 4 ≤ sizeLine by decide) ?_ | refine And.intro (show 5 ≤ sizeLine by decide) ?_ | dsimp only)
      have fin : ∀ n : Int, 0 ≤ n → n ≤ 5 → (int1 [.int n] fun n => (-(2 ^ 62) ≤ n ∧ n < 2 ^ 62) ∧ ∃ (bit : Str) (a9' : DL.Slot), ([.raw v, .d (.int (top : Nat)), .d (.str (Str.ofString "abcdefghijklmnopqrstuvwxyz")), .own (ws.map Dat.str), .d (.int shift), .d (.str stem), .d (.int ((ws.length : Nat) : Int)), .d (.int stride), .d (.str (stem ++ ⟨#[c]⟩)), a9] : List DL.Slot) = [.raw v, .d (.int (top : Nat)), .d (.str (Str.ofString "abcdefghijklmnopqrstuvwxyz")), .own (ws.map Dat.str), .d (.int shift), .d (.str stem), .d (.int ((ws.length : Nat) : Int)), .d (.int stride), .d (.str bit), a9'] ∧ Small bit ∧ 1 ≤ bit.length ∧ bit.length + (rints 0 n.toNat).length ≤ 10 ∧ j2 + 1 + 1 + (rints 0 n.toNat).length ≤ j2 + 7) := fun n h0 h4 => by
        refine ⟨⟨by omega, by omega⟩, _, _, rfl, hb1, by omega, ?_, ?_⟩
        · simp [rints]; omega
        · simp [rints]; omega
      have h3 : y2 = 0 ∨ y2 = 1 ∨ y2 = 2 ∨ y2 = 3 := by omega
      rcases h3 with rfl | rfl | rfl | rfl
      · exact fin 0 (by decide) (by decide)
      · exact fin 0 (by decide) (by decide)
      · exact fin 1 (by decide) (by decide)
      · exact fin y hy0 (by omega)
    · rintro ρ j3 ⟨bit, a9, rfl, hbit, hbl, hbu, hj3⟩
      have hbu' : bit.length ≤ 10 := by simpa using hbu
      have hj3' : j3 ≤ j2 + 7 := by simpa using hj3
      refine ⟨fun b j4 => j4 ≤ j3 + 1 ∧ (b = true → ∃ (init : List Str) (z : Str), ws = init ++ [z] ∧ z.length < 6), ?_, ?_, ?_⟩
      · repeat (first | refine rd_here rfl ?_ | refine ownL_here rfl ?_ | rw [isI_int] | rw [addD_int] | rw [int0_int] | rw [someD_some] | refine rdRaw_here rfl ?_ | rw [isB_bl] | rw [eqD_str] | rw [eqD_int] | refine And.intro (show CPow _ _ from ⟨by decide, by decide, by decide⟩) ?_ | refine And.intro (show 2 ≤ sizeLine by decide) ?_ | refine And.intro (show 1 ≤ sizeLine by decide) ?_ | refine And.intro (show 3 ≤ sizeLine by decide) ?_ | refine And.intro (show 4 ≤ sizeLine by decide) ?_ | refine And.intro (show 5 ≤ sizeLine by decide) ?_ | dsimp only)
        refine ⟨(show (0 : Int) < 2 by decide), ?_⟩
        repeat (first | refine rd_here rfl ?_ | refine ownL_here rfl ?_ | rw [isI_int] | rw [addD_int] | rw [int0_int] | rw [someD_some] | refine rdRaw_here rfl ?_ | rw [isB_bl] | rw [eqD_str] | rw [eqD_int] | refine And.intro (show CPow _ _ from ⟨by decide, by decide, by decide⟩) ?_ | refine And.intro (show 2 ≤ sizeLine by decide) ?_ | refine And.intro (show 1 ≤ sizeLine by decide) ?_ | refine And.intro (show 3 ≤ sizeLine by decide) ?_ | refine And.intro (show 4 ≤ sizeLine by decide) ?_ | refine And.intro (show 5 ≤ sizeLine by decide) ?_ | dsimp only)
        by_cases hk : ((ws.length : Nat) : Int) % 2 = 1
        · rw [if_pos (decide_eq_true hk)]
          have hne : ws ≠ [] := fun z => by rw [z] at hk; exact absurd hk (by decide)
          obtain ⟨init, z, rfl⟩ : ∃ init z, ws = init ++ [z] := by
            rcases List.eq_nil_or_concat ws with z | ⟨l, b, z⟩
            · exact absurd z hne
            · exact ⟨l, b, by rw [z, List.concat_eq_append]⟩
          have hz := of_name (hws z (by simp))
          repeat (first | refine rd_here rfl ?_ | refine ownL_here rfl ?_ | rw [isI_int] | rw [addD_int] | rw [int0_int] | rw [someD_some] | refine rdRaw_here rfl ?_ | rw [isB_bl] | rw [eqD_str] | rw [eqD_int] | refine And.intro (show CPow _ _ from ⟨by decide, by decide, by decide⟩) ?_ | refine And.intro (show 2 ≤ sizeLine by decide) ?_ | refine And.intro (show 1 ≤ sizeLine by decide) ?_ | refine And.intro (show 3 ≤ sizeLine by decide) ?_ | refine And.intro (show 4 ≤ sizeLine by decide) ?_ | refine And.intro (show 5 ≤ sizeLine by decide) ?_ | dsimp only)
          rw [negD_int, isI_int, List.map_append, show atI (init.map Dat.str ++ [z].map Dat.str) (-1) = some (.str z) from atI_last _ _, someD_some]
          refine ⟨line_of (by omega), ?_⟩
          repeat (first | refine rd_here rfl ?_ | refine ownL_here rfl ?_ | rw [isI_int] | rw [addD_int] | rw [int0_int] | rw [someD_some] | refine rdRaw_here rfl ?_ | rw [isB_bl] | rw [eqD_str] | rw [eqD_int] | refine And.intro (show CPow _ _ from ⟨by decide, by decide, by decide⟩) ?_ | refine And.intro (show 2 ≤ sizeLine by decide) ?_ | refine And.intro (show 1 ≤ sizeLine by decide) ?_ | refine And.intro (show 3 ≤ sizeLine by decide) ?_ | refine And.intro (show 4 ≤ sizeLine by decide) ?_ | refine And.intro (show 5 ≤ sizeLine by decide) ?_ | dsimp only)
          by_cases h6 : ((z.length : Nat) : Int) < 6
          · rw [if_pos (decide_eq_true h6)]
            repeat (first | refine rd_here rfl ?_ | refine ownL_here rfl ?_ | rw [isI_int] | rw [addD_int] | rw [int0_int] | rw [someD_some] | refine rdRaw_here rfl ?_ | rw [isB_bl] | rw [eqD_str] | rw [eqD_int] | refine And.intro (show CPow _ _ from ⟨by decide, by decide, by decide⟩) ?_ | refine And.intro (show 2 ≤ sizeLine by decide) ?_ | refine And.intro (show 1 ≤ sizeLine by decide) ?_ | refine And.intro (show 3 ≤ sizeLine by decide) ?_ | refine And.intro (show 4 ≤ sizeLine by decide) ?_ | refine And.intro (show 5 ≤ sizeLine by decide) ?_ | dsimp only)
            refine draw_use hd (by decide) (by decide) (by omega) fun y hy0 hy1 => ?_
            repeat (first | refine rd_here rfl ?_ | refine ownL_here rfl ?_ | rw [isI_int] | rw [addD_int] | rw [int0_int] | rw [someD_some] | refine rdRaw_here rfl ?_ | rw [isB_bl] | rw [eqD_str] | rw [eqD_int] | refine And.intro (show CPow _ _ from ⟨by decide, by decide, by decide⟩) ?_ | refine And.intro (show 2 ≤ sizeLine by decide) ?_ | refine And.intro (show 1 ≤ sizeLine by decide) ?_ | refine And.intro (show 3 ≤ sizeLine by decide) ?_ | refine And.intro (show 4 ≤ sizeLine by decide) ?_ | refine And.intro (show 5 ≤ sizeLine by decide) ?_ | dsimp only)
            exact ⟨by omega, fun _ => ⟨init, z, rfl, by omega⟩⟩
          · rw [if_neg (fun y => h6 (of_decide_eq_true y))]
            exact ⟨by omega, fun y => nomatch y⟩
        · rw [if_neg (fun y => hk (of_decide_eq_true y))]
          exact ⟨by omega, fun y => nomatch y⟩
      · rintro j4 ⟨hj4, hin⟩
        obtain ⟨init, z, rfl, hz6⟩ := hin rfl
        have hz := of_name (hws z (by simp))
        repeat (first | refine rd_here rfl ?_ | refine ownL_here rfl ?_ | rw [isI_int] | rw [addD_int] | rw [int0_int] | rw [someD_some] | refine rdRaw_here rfl ?_ | rw [isB_bl] | rw [eqD_str] | rw [eqD_int] | refine And.intro (show CPow _ _ from ⟨by decide, by decide, by decide⟩) ?_ | refine And.intro (show 2 ≤ sizeLine by decide) ?_ | refine And.intro (show 1 ≤ sizeLine by decide) ?_ | refine And.intro (show 3 ≤ sizeLine by decide) ?_ | refine And.intro (show 4 ≤ sizeLine by decide) ?_ | refine And.intro (show 5 ≤ sizeLine by decide) ?_ | dsimp only)
        rw [negD_int, isI_int, show atI ((init ++ [z]).map Dat.str) (-1) = some (.str z) from by rw [List.map_append]; exact atI_last _ _, someD_some]
        repeat (first | refine rd_here rfl ?_ | refine ownL_here rfl ?_ | rw [isI_int] | rw [addD_int] | rw [int0_int] | rw [someD_some] | refine rdRaw_here rfl ?_ | rw [isB_bl] | rw [eqD_str] | rw [eqD_int] | refine And.intro (show CPow _ _ from ⟨by decide, by decide, by decide⟩) ?_ | refine And.intro (show 2 ≤ sizeLine by decide) ?_ | refine And.intro (show 1 ≤ sizeLine by decide) ?_ | refine And.intro (show 3 ≤ sizeLine by decide) ?_ | refine And.intro (show 4 ≤ sizeLine by decide) ?_ | refine And.intro (show 5 ≤ sizeLine by decide) ?_ | dsimp only)
        refine draw_use hd (by decide) (by decide) (by omega) fun y hy0 hy1 => ?_
        repeat (first | refine rd_here rfl ?_ | refine ownL_here rfl ?_ | rw [isI_int] | rw [addD_int] | rw [int0_int] | rw [someD_some] | refine rdRaw_here rfl ?_ | rw [isB_bl] | rw [eqD_str] | rw [eqD_int] | refine And.intro (show CPow _ _ from ⟨by decide, by decide, by decide⟩) ?_ | refine And.intro (show 2 ≤ sizeLine by decide) ?_ | refine And.intro (show 1 ≤ sizeLine by decide) ?_ | refine And.intro (show 3 ≤ sizeLine by decide) ?_ | refine And.intro (show 4 ≤ sizeLine by decide) ?_ | refine And.intro (show 5 ≤ sizeLine by decide) ?_ | dsimp only)
        obtain ⟨c2, hc2, hat3⟩ := letter_at hy0 hy1
        refine ⟨alpha_line, ?_⟩
        rw [hat3, someD_some]
        repeat (first | refine rd_here rfl ?_ | refine ownL_here rfl ?_ | rw [isI_int] | rw [addD_int] | rw [int0_int] | rw [someD_some] | refine rdRaw_here rfl ?_ | rw [isB_bl] | rw [eqD_str] | rw [eqD_int] | refine And.intro (show CPow _ _ from ⟨by decide, by decide, by decide⟩) ?_ | refine And.intro (show 2 ≤ sizeLine by decide) ?_ | refine And.intro (show 1 ≤ sizeLine by decide) ?_ | refine And.intro (show 3 ≤ sizeLine by decide) ?_ | refine And.intro (show 4 ≤ sizeLine by decide) ?_ | refine And.intro (show 5 ≤ sizeLine by decide) ?_ | dsimp only)
        refine ⟨by rw [len_one]; exact line_of (by omega), ?_⟩
        have hbs : Small (z ++ ⟨#[c2]⟩) := small_app hz.1 (small_one hc2)
        have hbl2 : (z ++ ⟨#[c2]⟩ : Str).length = z.length + 1 := by rw [Str.length_append, len_one]
        generalize hW : init ++ [z] = ws at *
        repeat (first | refine rd_here rfl ?_ | refine ownL_here rfl ?_ | rw [isI_int] | rw [addD_int] | rw [int0_int] | rw [someD_some] | refine rdRaw_here rfl ?_ | rw [isB_bl] | rw [eqD_str] | rw [eqD_int] | refine And.intro (show CPow _ _ from ⟨by decide, by decide, by decide⟩) ?_ | refine And.intro (show 2 ≤ sizeLine by decide) ?_ | refine And.intro (show 1 ≤ sizeLine by decide) ?_ | refine And.intro (show 3 ≤ sizeLine by decide) ?_ | refine And.intro (show 4 ≤ sizeLine by decide) ?_ | refine And.intro (show 5 ≤ sizeLine by decide) ?_ | dsimp only)
        refine ⟨line_of (by omega), ?_⟩
        refine ⟨by rw [List.length_map]; exact Nat.lt_of_lt_of_le (show ws.length < 101 by omega) (by decide), ws ++ [cutS (z ++ ⟨#[c2]⟩) none (some 6)], .d (.str (z ++ ⟨#[c2]⟩)), a9, .d (.int ((ws.length : Nat) : Int)), by rw [List.map_append]; rfl, fun y hy => ?_, fun q d hq => ?_, by rw [List.length_append, List.length_singleton]; omega, by omega⟩
        · rcases List.mem_append.mp hy with hy | hy
          · exact hws y hy
          · rw [List.mem_singleton.mp hy]; exact cut6 hbs (by omega)
        · rw [hit (q + 1) d (by simpa using hq), List.length_append, List.length_singleton]
          congr 2
          omega
      · rintro j4 ⟨hj4, _⟩
        repeat (first | refine rd_here rfl ?_ | refine ownL_here rfl ?_ | rw [isI_int] | rw [addD_int] | rw [int0_int] | rw [someD_some] | refine rdRaw_here rfl ?_ | rw [isB_bl] | rw [eqD_str] | rw [eqD_int] | refine And.intro (show CPow _ _ from ⟨by decide, by decide, by decide⟩) ?_ | refine And.intro (show 2 ≤ sizeLine by decide) ?_ | refine And.intro (show 1 ≤ sizeLine by decide) ?_ | refine And.intro (show 3 ≤ sizeLine by decide) ?_ | refine And.intro (show 4 ≤ sizeLine by decide) ?_ | refine And.intro (show 5 ≤ sizeLine by decide) ?_ | dsimp only)
        refine ⟨line_of (by omega), ?_⟩
        refine ⟨by rw [List.length_map]; exact Nat.lt_of_lt_of_le (show ws.length < 101 by omega) (by decide), ws ++ [cutS bit none (some 6)], .d (.str bit), a9, .d (.int ((ws.length : Nat) : Int)), by rw [List.map_append]; rfl, fun y hy => ?_, fun q d hq => ?_, by rw [List.length_append, List.length_singleton]; omega, by omega⟩
        · rcases List.mem_append.mp hy with hy | hy
          · exact hws y hy
          · rw [List.mem_singleton.mp hy]; exact cut6 hbit (by omega)
        · rw [hit (q + 1) d (by simpa using hq), List.length_append, List.length_singleton]
          congr 2
          omega
    · rintro d2 ds2 ρ j3 ⟨bit, a9, rfl, hbit, hbl, hbu, hj3⟩
      repeat (first | refine rd_here rfl ?_ | refine ownL_here rfl ?_ | rw [isI_int] | rw [addD_int] | rw [int0_int] | rw [someD_some] | refine rdRaw_here rfl ?_ | rw [isB_bl] | rw [eqD_str] | rw [eqD_int] | refine And.intro (show CPow _ _ from ⟨by decide, by decide, by decide⟩) ?_ | refine And.intro (show 2 ≤ sizeLine by decide) ?_ | refine And.intro (show 1 ≤ sizeLine by decide) ?_ | refine And.intro (show 3 ≤ sizeLine by decide) ?_ | refine And.intro (show 4 ≤ sizeLine by decide) ?_ | refine And.intro (show 5 ≤ sizeLine by decide) ?_ | dsimp only)
      rw [List.length_cons] at hbu hj3
      refine draw_use hd (by decide) (by decide) (by omega) fun y hy0 hy1 => ?_
      repeat (first | refine rd_here rfl ?_ | refine ownL_here rfl ?_ | rw [isI_int] | rw [addD_int] | rw [int0_int] | rw [someD_some] | refine rdRaw_here rfl ?_ | rw [isB_bl] | rw [eqD_str] | rw [eqD_int] | refine And.intro (show CPow _ _ from ⟨by decide, by decide, by decide⟩) ?_ | refine And.intro (show 2 ≤ sizeLine by decide) ?_ | refine And.intro (show 1 ≤ sizeLine by decide) ?_ | refine And.intro (show 3 ≤ sizeLine by decide) ?_ | refine And.intro (show 4 ≤ sizeLine by decide) ?_ | refine And.intro (show 5 ≤ sizeLine by decide) ?_ | dsimp only)
      obtain ⟨c2, hc2, hat3⟩ := letter_at hy0 hy1
      refine ⟨alpha_line, ?_⟩
      rw [hat3, someD_some]
      repeat (first | refine rd_here rfl ?_ | refine ownL_here rfl ?_ | rw [isI_int] | rw [addD_int] | rw [int0_int] | rw [someD_some] | refine rdRaw_here rfl ?_ | rw [isB_bl] | rw [eqD_str] | rw [eqD_int] | refine And.intro (show CPow _ _ from ⟨by decide, by decide, by decide⟩) ?_ | refine And.intro (show 2 ≤ sizeLine by decide) ?_ | refine And.intro (show 1 ≤ sizeLine by decide) ?_ | refine And.intro (show 3 ≤ sizeLine by decide) ?_ | refine And.intro (show 4 ≤ sizeLine by decide) ?_ | refine And.intro (show 5 ≤ sizeLine by decide) ?_ | dsimp only)
      exact ⟨by rw [len_one]; exact line_of (by omega), bit ++ ⟨#[c2]⟩, .d d2, rfl, small_app hbit (small_one hc2), by rw [Str.length_append, len_one]; omega, by rw [Str.length_append, len_one]; omega, by omega⟩
  · rintro d ds ρ j ⟨stem, a, rfl, hst, hsl, hj⟩
    repeat (first | refine rd_here rfl ?_ | refine ownL_here rfl ?_ | rw [isI_int] | rw [addD_int] | rw [int0_int] | rw [someD_some] | refine rdRaw_here rfl ?_ | rw [isB_bl] | rw [eqD_str] | rw [eqD_int] | refine And.intro (show CPow _ _ from ⟨by decide, by decide, by decide⟩) ?_ | refine And.intro (show 2 ≤ sizeLine by decide) ?_ | refine And.intro (show 1 ≤ sizeLine by decide) ?_ | refine And.intro (show 3 ≤ sizeLine by decide) ?_ | refine And.intro (show 4 ≤ sizeLine by decide) ?_ | refine And.intro (show 5 ≤ sizeLine by decide) ?_ | dsimp only)
    have hj' : j + ds.length + 1 ≤ i0 + 7 := by simpa [Nat.add_assoc] using hj
    refine draw_use hd (by decide) (by decide) (by omega) fun x hy0 hy1 => ?_
    repeat (first | refine rd_here rfl ?_ | refine ownL_here rfl ?_ | rw [isI_int] | rw [addD_int] | rw [int0_int] | rw [someD_some] | refine rdRaw_here rfl ?_ | rw [isB_bl] | rw [eqD_str] | rw [eqD_int] | refine And.intro (show CPow _ _ from ⟨by decide, by decide, by decide⟩) ?_ | refine And.intro (show 2 ≤ sizeLine by decide) ?_ | refine And.intro (show 1 ≤ sizeLine by decide) ?_ | refine And.intro (show 3 ≤ sizeLine by decide) ?_ | refine And.intro (show 4 ≤ sizeLine by decide) ?_ | refine And.intro (show 5 ≤ sizeLine by decide) ?_ | dsimp only)
    obtain ⟨c, hc, hat⟩ := letter_at hy0 hy1
    refine ⟨alpha_line, ?_⟩
    rw [hat, someD_some]
    repeat (first | refine rd_here rfl ?_ | refine ownL_here rfl ?_ | rw [isI_int] | rw [addD_int] | rw [int0_int] | rw [someD_some] | refine rdRaw_here rfl ?_ | rw [isB_bl] | rw [eqD_str] | rw [eqD_int] | refine And.intro (show CPow _ _ from ⟨by decide, by decide, by decide⟩) ?_ | refine And.intro (show 2 ≤ sizeLine by decide) ?_ | refine And.intro (show 1 ≤ sizeLine by decide) ?_ | refine And.intro (show 3 ≤ sizeLine by decide) ?_ | refine And.intro (show 4 ≤ sizeLine by decide) ?_ | refine And.intro (show 5 ≤ sizeLine by decide) ?_ | dsimp only)
    rw [List.length_cons] at hsl
    refine ⟨by rw [len_one]; exact line_of (by omega), stem ++ ⟨#[c]⟩, .d d, rfl, small_app hst (small_one hc), by rw [Str.length_append, len_one]; omega, by omega⟩
end
end K01
namespace K01
open PySem PySem.Spec PyProof.Rows L2 DL
/-! ### terms bent -/
/-- tuples at most n deep, at most w wide -/
def bd : Nat → Nat → Dat → Prop
  | 0, _, d => ∀ ds, d ≠ .tup ds
  | n + 1, w, d => match d with
    | .tup ds => ds.length ≤ w ∧ ∀ x ∈ ds, bd n w x
    | _ => True
theorem bd_tup {n w : Nat} {ds : List Dat} : bd (n + 1) w (.tup ds) ↔ ds.length ≤ w ∧ ∀ x ∈ ds, bd n w x := Iff.rfl
theorem bd_not {d : Dat} (h : ∀ ds, d ≠ .tup ds) : ∀ {n w : Nat}, bd n w d
  | 0, _ => h
  | n + 1, w => by
    cases d with
    | tup ds => exact absurd rfl (h ds)
    | _ => exact trivial
theorem bd_up : ∀ {n n' w w' : Nat} {d : Dat}, bd n w d → n ≤ n' → w ≤ w' → bd n' w' d
  | 0, n', w, w', d, h, _, _ => bd_not h
  | n + 1, 0, w, w', d, h, a, _ => absurd a (by omega)
  | n + 1, n' + 1, w, w', d, h, a, b => by
    cases d with
    | tup ds => exact ⟨Nat.le_trans h.1 b, fun x hx => bd_up (h.2 x hx) (by omega) b⟩
    | _ => exact trivial
def conBent (D : Nat) : ConS Nat := ⟨fun st n sl P => ∃ (v : V) (d : Dat) (a b : Nat), IsDraw st v ∧ sl = [.raw v, .d d] ∧ okB d = true ∧ bd a b d ∧ a + 1 ≤ D ∧ b ≤ 90 ∧ n + 10 * D < manyDraws ∧ ∀ (r : Dat) (j : Nat), okB r = true → bd (a + 1) (b + 1) r → j ≤ n + 10 * D → P r j,
  fun _ _ _ _ _ ⟨v, d, a, b, h0, e, h1, h2, h3, h4, h5, h⟩ q => ⟨v, d, a, b, h0, e, h1, h2, h3, h4, h5, fun x j a b c => q _ _ (h x j a b c)⟩⟩
theorem okB_lst {ds : List Dat} (h : okB (.tup ds) = true) : okB (.lst ds) = true := by
  have q := okB_tup.mp h
  unfold okB
  exact okBs_all.mpr q
theorem tupD1_tup {ds : List Dat} {P : List Dat → Prop} : tupD1 (.tup ds) P = P ds := rfl
theorem not_tup {d : Dat} (h : ¬ ∃ ds, d = .tup ds) : isiB "tuple" d = false := by
  cases d with
  | tup ds => exact absurd ⟨ds, rfl⟩ h
  | _ => rfl
theorem atI_mem {l : List Dat} {i : Int} (h0 : 0 ≤ i) (h1 : i < l.length) : ∃ r ∈ l, atI l i = some r := by
  have hl : i.toNat < l.length := by omega
  refine ⟨l[i.toNat], List.getElem_mem hl, ?_⟩
  have e : atI l ((i.toNat : Nat) : Int) = some l[i.toNat] := atI_nat (List.getElem?_eq_getElem hl)
  rw [Int.toNat_of_nonneg h0] at e
  exact e
def menuL : List Dat := [.non, .bl true, .int 7, .int (-1), .str "x", .str "num", .str "thing", .str "plus", .str "toolong", .str "", .tup [], .lst [], .int (10 ^ 6 + 1), .int 16, .int 4]
theorem menu_ok : ∀ r ∈ menuL, okB r = true ∧ bd 1 1 r := fun r hr => by
  refine ⟨okBs_all.mp (show okBs menuL = true by decide +kernel) r hr, ?_⟩
  simp only [menuL, List.mem_cons, List.not_mem_nil, or_false] at hr
  rcases hr with rfl | rfl | rfl | rfl | rfl | rfl | rfl | rfl | rfl | rfl | rfl | rfl | rfl | rfl | rfl
  all_goals first | exact trivial | exact ⟨Nat.zero_le _, fun x hx => by cases hx⟩
theorem cutT_to (ds : List Dat) {s : Nat} (h : s ≤ ds.length) : cutG ds none (some ((s : Nat) : Int)) = ds.take s := by
  unfold cutG
  rw [HT.sIx_none, HT.sIx_nat, Nat.min_eq_left h, List.drop_zero, Nat.sub_zero]
theorem cutT_from (ds : List Dat) {s : Nat} (h : s ≤ ds.length) : cutG ds (some ((s : Nat) : Int)) none = ds.drop s := by
  unfold cutG
  rw [HT.sIx_none, HT.sIx_nat, Nat.min_eq_left h]
  rw [← List.length_drop, List.take_length]
section
variable {P : Program} {w : World} {K : PySem.W.Frag} {mg : Str → Option Value} {base : Heap} {f f2 : Addr} {fd fd2 : FuncData} {k : Nat}
abbrev s__law_bent : Stmt := topS 69
theorem sc__law_bent : FnScope ["m", "whole", "menu", "spot", "road"] ["m", "whole"] (defScope s__law_bent) := ⟨rfl, rfl, rfl, by decide +kernel, rfl, by decide +kernel, by decide +kernel⟩
-- calls ['_law_draw', '_law_bent'] consts []
theorem ok_law_bent {D : Nat} (B : Bt mg) (F__law_draw : CalleeS P w K mg base "_law_draw" k ["m", "top"] conDraw) (F__law_bent : CalleeS P w K mg base "_law_bent" k ["m", "whole"] (conBent D)) (F : Fun K "_law_bent" "_law_bent" s__law_bent f fd) : FnOk P w K mg base CX0 (k + 1) f fd ["m", "whole"] (spS K (conBent (D + 1))) := by
  refine fn_pureS F sc__law_bent (fun st i sl P ⟨v, _, _, _, _, e, _⟩ => by rw [e]; rfl) fun cdv A outer s H S hS st i0 h0 hf hr sl R hc => ?_
  have nd := sc__law_bent.nd
  obtain ⟨v, d, a, b, hd, rfl, hok, hbd, haD, hb, hn, h⟩ := hc
  refine ⟨_, (dbr_cons (dsr_if (dtr_w (dwr_or (dtr_of fun i => (dt_not (dt_val (de_isi (TT := "tuple") (he := (de_var 1)) (hm := B.isinstance) (hmT := B.tuple) (hv := by decide +kernel) (hn := by decide) (hd := by decide))))) (dwr_or (dtr_of fun i => (dt_eqM hr.units (de_var 1) (de_tup da_nil))) (dwr_or1 (dtr_eq hr.units (dr_fnS (gs_self hf) F__law_draw hr (dsl_raw 0 (dsl_d (dr_of fun i => de_int) dsl_nil)) (by omega)) (dr_of fun i => de_int)))))) (dbr_cons (dsr_set 2 (dr_of fun i => (de_lst (da_cons de_non (da_cons de_bl (da_cons de_int (da_cons (de_neg de_int) (da_cons de_str (da_cons de_str (da_cons de_str (da_cons de_str (da_cons de_str (da_cons de_str (da_cons (de_tup da_nil) (da_cons (de_lst da_nil) (da_cons (de_add (de_pow de_int de_int) de_int) (da_cons de_int (da_cons de_int da_nil))))))))))))))))) nd) (dbr_cons (dsr_if (dtr_gt (dr_fnS (gs_self hf) F__law_draw hr (dsl_raw 0 (dsl_d (dr_of fun i => de_int) dsl_nil)) (by omega)) (dr_of fun i => de_int)) (dbr_one (dsr_ret (dr_ix (dr_of fun i => (de_var 2)) (dr_fnS (gs_self hf) F__law_draw hr (dsl_raw 0 (dsl_d (dr_of fun i => de_int) dsl_nil)) (by omega))))) dbr_nil) (dbr_one (dsr_ret (dr_of fun i => (de_if (dt_val (de_isi (TT := "tuple") (he := (de_var 1)) (hm := B.isinstance) (hmT := B.tuple) (hv := by decide +kernel) (hn := by decide) (hd := by decide))) (de_list B.list (da_cons (de_var 1) da_nil)) (de_tup (da_cons (de_var 1) da_nil)))))))) dbr_nil) (dbr_cons (dsr_par 3 4 (dar_cons (dr_fnS (gs_self hf) F__law_draw hr (dsl_raw 0 (dsl_d (dr_of fun i => (de_len B.len (da_cons (de_var 1) da_nil))) dsl_nil)) (by omega)) (dar_cons (dr_fnS (gs_self hf) F__law_draw hr (dsl_raw 0 (dsl_d (dr_of fun i => de_int) dsl_nil)) (by omega)) dar_nil)) nd) (dbr_cons (dsr_if (dtr_of fun i => (dt_eq hr.units (de_var 4) de_int)) (dbr_one (dsr_ret (dr_of fun i => (de_add (de_sl (de_var 1) do_none (do_some (de_var 3))) (de_sl (de_var 1) (do_some (de_add (de_var 3) de_int)) do_none))))) dbr_nil) (dbr_cons (dsr_if (dtr_of fun i => (dt_eq hr.units (de_var 4) de_int)) (dbr_one (dsr_ret (dr_add (dr_add (dr_of fun i => (de_sl (de_var 1) do_none (do_some (de_var 3)))) (dr_tup (dar_cons (dr_ix (dr_of fun i => (de_var 1)) (dr_fnS (gs_self hf) F__law_draw hr (dsl_raw 0 (dsl_d (dr_of fun i => (de_len B.len (da_cons (de_var 1) da_nil))) dsl_nil)) (by omega))) dar_nil))) (dr_of fun i => (de_sl (de_var 1) (do_some (de_var 3)) do_none))))) dbr_nil) (dbr_cons (dsr_if (dtr_of fun i => (dt_eq hr.units (de_var 4) de_int)) (dbr_one (dsr_ret (dr_of fun i => (de_add (de_sl (de_var 1) do_none (do_some de_int)) (de_revT (de_sl (de_var 1) (do_some de_int) do_none)))))) dbr_nil) (dbr_one (dsr_ret (dr_add (dr_add (dr_of fun i => (de_sl (de_var 1) do_none (do_some (de_var 3)))) (dr_tup (dar_cons (dr_fnS (gs_self hf) F__law_bent hr (dsl_raw 0 (dsl_d (dr_of fun i => (de_ix (de_var 1) (de_var 3))) dsl_nil)) (by omega)) dar_nil))) (dr_of fun i => (de_sl (de_var 1) (do_some (de_add (de_var 3) de_int)) do_none)))))))))), ?_⟩
  have hlay : Lay d := okB_lay d hok
  refine ⟨fun c j => j ≤ i0 + 1 ∧ (c = false → ∃ ds, d = .tup ds ∧ ds ≠ []), ?_, ?_, ?_⟩
  · refine rd_here rfl ?_
    dsimp only
    rw [isB_bl]
    by_cases ht : ∃ ds, d = .tup ds
    · obtain ⟨ds, rfl⟩ := ht
      rw [show isiB "tuple" (Dat.tup ds) = true from rfl, if_neg (show ¬ (!true) = true by decide)]
      refine rd_here rfl ?_
      refine ⟨Nat.zero_le _, eqM_nil hlay ?_⟩
      repeat (first | refine rd_here rfl ?_ | refine ownL_here rfl ?_ | rw [isI_int] | rw [addD_int] | rw [int0_int] | rw [someD_some] | refine rdRaw_here rfl ?_ | rw [isB_bl] | rw [eqD_str] | rw [eqD_int] | refine And.intro (show CPow _ _ from ⟨by decide, by decide, by decide⟩) ?_ | refine And.intro (show 2 ≤ sizeLine by decide) ?_ | refine And.intro (show 1 ≤ sizeLine by decide) ?_ | refine And.intro (show 3 ≤ sizeLine by decide) ?_ | refine And.intro (show 4 ≤ sizeLine by decide) ?_ | refine And.intro (show 5 ≤ sizeLine by decide) ?_ | dsimp only)
      by_cases he : ds = []
      · subst he
        exact (if_pos (show ([] : List Dat).isEmpty = true by rfl)) ▸ ⟨by omega, fun z => nomatch z⟩
      · have hne : ds.isEmpty = false := by
          cases ds with
          | nil => exact absurd rfl he
          | cons _ _ => rfl
        rw [hne, if_neg (show ¬ false = true by decide)]
        repeat (first | refine rd_here rfl ?_ | refine ownL_here rfl ?_ | rw [isI_int] | rw [addD_int] | rw [int0_int] | rw [someD_some] | refine rdRaw_here rfl ?_ | rw [isB_bl] | rw [eqD_str] | rw [eqD_int] | refine And.intro (show CPow _ _ from ⟨by decide, by decide, by decide⟩) ?_ | refine And.intro (show 2 ≤ sizeLine by decide) ?_ | refine And.intro (show 1 ≤ sizeLine by decide) ?_ | refine And.intro (show 3 ≤ sizeLine by decide) ?_ | refine And.intro (show 4 ≤ sizeLine by decide) ?_ | refine And.intro (show 5 ≤ sizeLine by decide) ?_ | dsimp only)
        refine draw_use hd (by decide) (by decide) (by omega) fun x hx0 hx1 => ?_
        repeat (first | refine rd_here rfl ?_ | refine ownL_here rfl ?_ | rw [isI_int] | rw [addD_int] | rw [int0_int] | rw [someD_some] | refine rdRaw_here rfl ?_ | rw [isB_bl] | rw [eqD_str] | rw [eqD_int] | refine And.intro (show CPow _ _ from ⟨by decide, by decide, by decide⟩) ?_ | refine And.intro (show 2 ≤ sizeLine by decide) ?_ | refine And.intro (show 1 ≤ sizeLine by decide) ?_ | refine And.intro (show 3 ≤ sizeLine by decide) ?_ | refine And.intro (show 4 ≤ sizeLine by decide) ?_ | refine And.intro (show 5 ≤ sizeLine by decide) ?_ | dsimp only)
        exact ⟨by omega, fun _ => ⟨ds, rfl, he⟩⟩
    · rw [not_tup ht, if_pos (show (!false) = true by decide)]
      exact ⟨by omega, fun z => nomatch z⟩
  · rintro j ⟨hj, _⟩
    repeat (first | refine rd_here rfl ?_ | refine ownL_here rfl ?_ | rw [isI_int] | rw [addD_int] | rw [int0_int] | rw [someD_some] | refine rdRaw_here rfl ?_ | rw [isB_bl] | rw [eqD_str] | rw [eqD_int] | refine And.intro (show CPow _ _ from ⟨by decide, by decide, by decide⟩) ?_ | refine And.intro (show 2 ≤ sizeLine by decide) ?_ | refine And.intro (show 1 ≤ sizeLine by decide) ?_ | refine And.intro (show 3 ≤ sizeLine by decide) ?_ | refine And.intro (show 4 ≤ sizeLine by decide) ?_ | refine And.intro (show 5 ≤ sizeLine by decide) ?_ | dsimp only)
    rw [negD_int]
    refine ⟨Nat.zero_le _, Nat.zero_le _, ?_⟩
    repeat (first | refine rd_here rfl ?_ | refine ownL_here rfl ?_ | rw [isI_int] | rw [addD_int] | rw [int0_int] | rw [someD_some] | refine rdRaw_here rfl ?_ | rw [isB_bl] | rw [eqD_str] | rw [eqD_int] | refine And.intro (show CPow _ _ from ⟨by decide, by decide, by decide⟩) ?_ | refine And.intro (show 2 ≤ sizeLine by decide) ?_ | refine And.intro (show 1 ≤ sizeLine by decide) ?_ | refine And.intro (show 3 ≤ sizeLine by decide) ?_ | refine And.intro (show 4 ≤ sizeLine by decide) ?_ | refine And.intro (show 5 ≤ sizeLine by decide) ?_ | dsimp only)
    refine ⟨(show 15 ≤ sizeLine by decide), ?_⟩
    refine ⟨fun c j2 => j2 ≤ j + 1, ?_, ?_, ?_⟩
    · repeat (first | refine rd_here rfl ?_ | refine ownL_here rfl ?_ | rw [isI_int] | rw [addD_int] | rw [int0_int] | rw [someD_some] | refine rdRaw_here rfl ?_ | rw [isB_bl] | rw [eqD_str] | rw [eqD_int] | refine And.intro (show CPow _ _ from ⟨by decide, by decide, by decide⟩) ?_ | refine And.intro (show 2 ≤ sizeLine by decide) ?_ | refine And.intro (show 1 ≤ sizeLine by decide) ?_ | refine And.intro (show 3 ≤ sizeLine by decide) ?_ | refine And.intro (show 4 ≤ sizeLine by decide) ?_ | refine And.intro (show 5 ≤ sizeLine by decide) ?_ | dsimp only)
      refine draw_use hd (by decide) (by decide) (by omega) fun x hx0 hx1 => ?_
      repeat (first | refine rd_here rfl ?_ | refine ownL_here rfl ?_ | rw [isI_int] | rw [addD_int] | rw [int0_int] | rw [someD_some] | refine rdRaw_here rfl ?_ | rw [isB_bl] | rw [eqD_str] | rw [eqD_int] | refine And.intro (show CPow _ _ from ⟨by decide, by decide, by decide⟩) ?_ | refine And.intro (show 2 ≤ sizeLine by decide) ?_ | refine And.intro (show 1 ≤ sizeLine by decide) ?_ | refine And.intro (show 3 ≤ sizeLine by decide) ?_ | refine And.intro (show 4 ≤ sizeLine by decide) ?_ | refine And.intro (show 5 ≤ sizeLine by decide) ?_ | dsimp only)
      omega
    · intro j2 hj2
      repeat (first | refine rd_here rfl ?_ | refine ownL_here rfl ?_ | rw [isI_int] | rw [addD_int] | rw [int0_int] | rw [someD_some] | refine rdRaw_here rfl ?_ | rw [isB_bl] | rw [eqD_str] | rw [eqD_int] | refine And.intro (show CPow _ _ from ⟨by decide, by decide, by decide⟩) ?_ | refine And.intro (show 2 ≤ sizeLine by decide) ?_ | refine And.intro (show 1 ≤ sizeLine by decide) ?_ | refine And.intro (show 3 ≤ sizeLine by decide) ?_ | refine And.intro (show 4 ≤ sizeLine by decide) ?_ | refine And.intro (show 5 ≤ sizeLine by decide) ?_ | dsimp only)
      refine draw_use hd (by decide) (by decide) (by omega) fun x hx0 hx1 => ?_
      obtain ⟨r, hr, hat⟩ := atI_mem (l := menuL) hx0 (show x < 15 from hx1)
      rw [ixD_lst]
      refine (show someD (atI menuL x) _ from ?_)
      rw [hat, someD_some]
      obtain ⟨h1, h2⟩ := menu_ok r hr
      exact h r _ h1 (bd_up h2 (by omega) (by omega)) (by omega)
    · intro j2 hj2
      repeat (first | refine rd_here rfl ?_ | refine ownL_here rfl ?_ | rw [isI_int] | rw [addD_int] | rw [int0_int] | rw [someD_some] | refine rdRaw_here rfl ?_ | rw [isB_bl] | rw [eqD_str] | rw [eqD_int] | refine And.intro (show CPow _ _ from ⟨by decide, by decide, by decide⟩) ?_ | refine And.intro (show 2 ≤ sizeLine by decide) ?_ | refine And.intro (show 1 ≤ sizeLine by decide) ?_ | refine And.intro (show 3 ≤ sizeLine by decide) ?_ | refine And.intro (show 4 ≤ sizeLine by decide) ?_ | refine And.intro (show 5 ≤ sizeLine by decide) ?_ | dsimp only)
      by_cases ht : ∃ ds, d = .tup ds
      · obtain ⟨ds, rfl⟩ := ht
        rw [show isiB "tuple" (Dat.tup ds) = true from rfl, if_pos rfl]
        repeat (first | refine rd_here rfl ?_ | refine ownL_here rfl ?_ | rw [isI_int] | rw [addD_int] | rw [int0_int] | rw [someD_some] | refine rdRaw_here rfl ?_ | rw [isB_bl] | rw [eqD_str] | rw [eqD_int] | refine And.intro (show CPow _ _ from ⟨by decide, by decide, by decide⟩) ?_ | refine And.intro (show 2 ≤ sizeLine by decide) ?_ | refine And.intro (show 1 ≤ sizeLine by decide) ?_ | refine And.intro (show 3 ≤ sizeLine by decide) ?_ | refine And.intro (show 4 ≤ sizeLine by decide) ?_ | refine And.intro (show 5 ≤ sizeLine by decide) ?_ | dsimp only)
        exact h (.lst ds) _ (okB_lst hok) trivial (by omega)
      · rw [not_tup ht, if_neg (show ¬ false = true by decide)]
        repeat (first | refine rd_here rfl ?_ | refine ownL_here rfl ?_ | rw [isI_int] | rw [addD_int] | rw [int0_int] | rw [someD_some] | refine rdRaw_here rfl ?_ | rw [isB_bl] | rw [eqD_str] | rw [eqD_int] | refine And.intro (show CPow _ _ from ⟨by decide, by decide, by decide⟩) ?_ | refine And.intro (show 2 ≤ sizeLine by decide) ?_ | refine And.intro (show 1 ≤ sizeLine by decide) ?_ | refine And.intro (show 3 ≤ sizeLine by decide) ?_ | refine And.intro (show 4 ≤ sizeLine by decide) ?_ | refine And.intro (show 5 ≤ sizeLine by decide) ?_ | dsimp only)
        exact h (.tup [d]) _ (okB_p1 hok) ⟨by simp, one_in (bd_not fun ds z => ht ⟨ds, z⟩)⟩ (by omega)
  rintro j ⟨hj, hp⟩
  obtain ⟨ds, rfl, hne⟩ := hp rfl
  have hlen : 0 < ds.length := List.length_pos_iff.mpr hne
  have hbd' : ∃ a', a = a' + 1 ∧ ds.length ≤ b ∧ ∀ x ∈ ds, bd a' b x := by
    cases a with
    | zero => exact absurd rfl (hbd ds)
    | succ a' => exact ⟨a', rfl, hbd.1, hbd.2⟩
  obtain ⟨a', rfl, hw, hds⟩ := hbd'
  have hoks := okB_tup.mp hok
  have hl100 : ds.length ≤ 90 := Nat.le_trans hw hb
  repeat (first | refine rd_here rfl ?_ | refine ownL_here rfl ?_ | rw [isI_int] | rw [addD_int] | rw [int0_int] | rw [someD_some] | refine rdRaw_here rfl ?_ | rw [isB_bl] | rw [eqD_str] | rw [eqD_int] | refine And.intro (show CPow _ _ from ⟨by decide, by decide, by decide⟩) ?_ | refine And.intro (show 2 ≤ sizeLine by decide) ?_ | refine And.intro (show 1 ≤ sizeLine by decide) ?_ | refine And.intro (show 3 ≤ sizeLine by decide) ?_ | refine And.intro (show 4 ≤ sizeLine by decide) ?_ | refine And.intro (show 5 ≤ sizeLine by decide) ?_ | dsimp only)
  refine draw_use hd (by omega) (by omega) (by omega) fun x hx0 hx1 => ?_
  obtain ⟨sp, rfl⟩ : ∃ sp : Nat, x = (sp : Nat) := ⟨x.toNat, by omega⟩
  have hsp : sp < ds.length := by omega
  repeat (first | refine rd_here rfl ?_ | refine ownL_here rfl ?_ | rw [isI_int] | rw [addD_int] | rw [int0_int] | rw [someD_some] | refine rdRaw_here rfl ?_ | rw [isB_bl] | rw [eqD_str] | rw [eqD_int] | refine And.intro (show CPow _ _ from ⟨by decide, by decide, by decide⟩) ?_ | refine And.intro (show 2 ≤ sizeLine by decide) ?_ | refine And.intro (show 1 ≤ sizeLine by decide) ?_ | refine And.intro (show 3 ≤ sizeLine by decide) ?_ | refine And.intro (show 4 ≤ sizeLine by decide) ?_ | refine And.intro (show 5 ≤ sizeLine by decide) ?_ | dsimp only)
  refine draw_use hd (by decide) (by decide) (by omega) fun road hr0 hr1 => ?_
  have fin : ∀ (l : List Dat) (j2 : Nat), l.length ≤ ds.length + 1 → (∀ x ∈ l, okB x = true ∧ bd (a' + 1) (b + 1) x) → j2 ≤ i0 + 10 * (D + 1) → R (.tup l) j2 := fun l j2 h1 h2 h3 => h (.tup l) j2 (okB_tup.mpr fun x hx => (h2 x hx).1) ⟨by omega, fun x hx => (h2 x hx).2⟩ h3
  have old : ∀ x ∈ ds, okB x = true ∧ bd (a' + 1) (b + 1) x := fun x hx => ⟨hoks x hx, bd_up (hds x hx) (by omega) (by omega)⟩
  have e1 : (sp : Int) + 1 = ((sp + 1 : Nat) : Int) := by omega
  refine (show ∃ Pc, _ from ?_)
  refine ⟨fun c j2 => j2 = j + 1 + 1, ?_, ?_, ?_⟩
  · repeat (first | refine rd_here rfl ?_ | refine ownL_here rfl ?_ | rw [isI_int] | rw [addD_int] | rw [int0_int] | rw [someD_some] | refine rdRaw_here rfl ?_ | rw [isB_bl] | rw [eqD_str] | rw [eqD_int] | refine And.intro (show CPow _ _ from ⟨by decide, by decide, by decide⟩) ?_ | refine And.intro (show 2 ≤ sizeLine by decide) ?_ | refine And.intro (show 1 ≤ sizeLine by decide) ?_ | refine And.intro (show 3 ≤ sizeLine by decide) ?_ | refine And.intro (show 4 ≤ sizeLine by decide) ?_ | refine And.intro (show 5 ≤ sizeLine by decide) ?_ | dsimp only)
  · rintro j2 rfl
    repeat (first | refine rd_here rfl ?_ | refine ownL_here rfl ?_ | rw [isI_int] | rw [addD_int] | rw [int0_int] | rw [someD_some] | refine rdRaw_here rfl ?_ | rw [isB_bl] | rw [eqD_str] | rw [eqD_int] | refine And.intro (show CPow _ _ from ⟨by decide, by decide, by decide⟩) ?_ | refine And.intro (show 2 ≤ sizeLine by decide) ?_ | refine And.intro (show 1 ≤ sizeLine by decide) ?_ | refine And.intro (show 3 ≤ sizeLine by decide) ?_ | refine And.intro (show 4 ≤ sizeLine by decide) ?_ | refine And.intro (show 5 ≤ sizeLine by decide) ?_ | dsimp only)
    rw [slD_tup]
    repeat (first | refine rd_here rfl ?_ | refine ownL_here rfl ?_ | rw [isI_int] | rw [addD_int] | rw [int0_int] | rw [someD_some] | refine rdRaw_here rfl ?_ | rw [isB_bl] | rw [eqD_str] | rw [eqD_int] | refine And.intro (show CPow _ _ from ⟨by decide, by decide, by decide⟩) ?_ | refine And.intro (show 2 ≤ sizeLine by decide) ?_ | refine And.intro (show 1 ≤ sizeLine by decide) ?_ | refine And.intro (show 3 ≤ sizeLine by decide) ?_ | refine And.intro (show 4 ≤ sizeLine by decide) ?_ | refine And.intro (show 5 ≤ sizeLine by decide) ?_ | dsimp only)
    rw [slD_tup, addD_tup, cutT_to ds (by omega), e1, cutT_from ds (by omega)]
    refine ⟨line_of (by rw [List.length_take, List.length_drop]; omega), ?_⟩
    exact fin _ _ (by rw [List.length_append, List.length_take, List.length_drop]; omega) (fun x hx => old x ((List.mem_append.mp hx).elim List.mem_of_mem_take List.mem_of_mem_drop)) (by omega)
  intro j2 hj2
  subst hj2
  refine ⟨fun c j2 => j2 = j + 1 + 1, ?_, ?_, ?_⟩
  · repeat (first | refine rd_here rfl ?_ | refine ownL_here rfl ?_ | rw [isI_int] | rw [addD_int] | rw [int0_int] | rw [someD_some] | refine rdRaw_here rfl ?_ | rw [isB_bl] | rw [eqD_str] | rw [eqD_int] | refine And.intro (show CPow _ _ from ⟨by decide, by decide, by decide⟩) ?_ | refine And.intro (show 2 ≤ sizeLine by decide) ?_ | refine And.intro (show 1 ≤ sizeLine by decide) ?_ | refine And.intro (show 3 ≤ sizeLine by decide) ?_ | refine And.intro (show 4 ≤ sizeLine by decide) ?_ | refine And.intro (show 5 ≤ sizeLine by decide) ?_ | dsimp only)
  · rintro j2 rfl
    repeat (first | refine rd_here rfl ?_ | refine ownL_here rfl ?_ | rw [isI_int] | rw [addD_int] | rw [int0_int] | rw [someD_some] | refine rdRaw_here rfl ?_ | rw [isB_bl] | rw [eqD_str] | rw [eqD_int] | refine And.intro (show CPow _ _ from ⟨by decide, by decide, by decide⟩) ?_ | refine And.intro (show 2 ≤ sizeLine by decide) ?_ | refine And.intro (show 1 ≤ sizeLine by decide) ?_ | refine And.intro (show 3 ≤ sizeLine by decide) ?_ | refine And.intro (show 4 ≤ sizeLine by decide) ?_ | refine And.intro (show 5 ≤ sizeLine by decide) ?_ | dsimp only)
    rw [slD_tup]
    repeat (first | refine rd_here rfl ?_ | refine ownL_here rfl ?_ | rw [isI_int] | rw [addD_int] | rw [int0_int] | rw [someD_some] | refine rdRaw_here rfl ?_ | rw [isB_bl] | rw [eqD_str] | rw [eqD_int] | refine And.intro (show CPow _ _ from ⟨by decide, by decide, by decide⟩) ?_ | refine And.intro (show 2 ≤ sizeLine by decide) ?_ | refine And.intro (show 1 ≤ sizeLine by decide) ?_ | refine And.intro (show 3 ≤ sizeLine by decide) ?_ | refine And.intro (show 4 ≤ sizeLine by decide) ?_ | refine And.intro (show 5 ≤ sizeLine by decide) ?_ | dsimp only)
    refine draw_use hd (by omega) (by omega) (by omega) fun x hy0 hy1 => ?_
    repeat (first | refine rd_here rfl ?_ | refine ownL_here rfl ?_ | rw [isI_int] | rw [addD_int] | rw [int0_int] | rw [someD_some] | refine rdRaw_here rfl ?_ | rw [isB_bl] | rw [eqD_str] | rw [eqD_int] | refine And.intro (show CPow _ _ from ⟨by decide, by decide, by decide⟩) ?_ | refine And.intro (show 2 ≤ sizeLine by decide) ?_ | refine And.intro (show 1 ≤ sizeLine by decide) ?_ | refine And.intro (show 3 ≤ sizeLine by decide) ?_ | refine And.intro (show 4 ≤ sizeLine by decide) ?_ | refine And.intro (show 5 ≤ sizeLine by decide) ?_ | dsimp only)
    obtain ⟨r, hr, hat⟩ := atI_mem (l := ds) hy0 (by omega)
    rw [ixD_tup, hat, someD_some]
    repeat (first | refine rd_here rfl ?_ | refine ownL_here rfl ?_ | rw [isI_int] | rw [addD_int] | rw [int0_int] | rw [someD_some] | refine rdRaw_here rfl ?_ | rw [isB_bl] | rw [eqD_str] | rw [eqD_int] | refine And.intro (show CPow _ _ from ⟨by decide, by decide, by decide⟩) ?_ | refine And.intro (show 2 ≤ sizeLine by decide) ?_ | refine And.intro (show 1 ≤ sizeLine by decide) ?_ | refine And.intro (show 3 ≤ sizeLine by decide) ?_ | refine And.intro (show 4 ≤ sizeLine by decide) ?_ | refine And.intro (show 5 ≤ sizeLine by decide) ?_ | dsimp only)
    rw [addD_tup, cutT_to ds (by omega)]
    refine ⟨line_of (by rw [List.length_take, List.length_singleton]; omega), ?_⟩
    repeat (first | refine rd_here rfl ?_ | refine ownL_here rfl ?_ | rw [isI_int] | rw [addD_int] | rw [int0_int] | rw [someD_some] | refine rdRaw_here rfl ?_ | rw [isB_bl] | rw [eqD_str] | rw [eqD_int] | refine And.intro (show CPow _ _ from ⟨by decide, by decide, by decide⟩) ?_ | refine And.intro (show 2 ≤ sizeLine by decide) ?_ | refine And.intro (show 1 ≤ sizeLine by decide) ?_ | refine And.intro (show 3 ≤ sizeLine by decide) ?_ | refine And.intro (show 4 ≤ sizeLine by decide) ?_ | refine And.intro (show 5 ≤ sizeLine by decide) ?_ | dsimp only)
    rw [slD_tup, addD_tup, cutT_from ds (by omega)]
    refine ⟨line_of (by rw [List.length_append, List.length_take, List.length_drop, List.length_singleton]; omega), ?_⟩
    refine fin _ _ (by rw [List.length_append, List.length_append, List.length_take, List.length_drop, List.length_singleton]; omega) (fun x hx => old x ?_) (by omega)
    rcases List.mem_append.mp hx with hx | hx
    · rcases List.mem_append.mp hx with hx | hx
      · exact List.mem_of_mem_take hx
      · rw [List.mem_singleton.mp hx]; exact hr
    · exact List.mem_of_mem_drop hx
  intro j2 hj2
  subst hj2
  refine ⟨fun c j2 => j2 = j + 1 + 1, ?_, ?_, ?_⟩
  · repeat (first | refine rd_here rfl ?_ | refine ownL_here rfl ?_ | rw [isI_int] | rw [addD_int] | rw [int0_int] | rw [someD_some] | refine rdRaw_here rfl ?_ | rw [isB_bl] | rw [eqD_str] | rw [eqD_int] | refine And.intro (show CPow _ _ from ⟨by decide, by decide, by decide⟩) ?_ | refine And.intro (show 2 ≤ sizeLine by decide) ?_ | refine And.intro (show 1 ≤ sizeLine by decide) ?_ | refine And.intro (show 3 ≤ sizeLine by decide) ?_ | refine And.intro (show 4 ≤ sizeLine by decide) ?_ | refine And.intro (show 5 ≤ sizeLine by decide) ?_ | dsimp only)
  · rintro j2 rfl
    repeat (first | refine rd_here rfl ?_ | refine ownL_here rfl ?_ | rw [isI_int] | rw [addD_int] | rw [int0_int] | rw [someD_some] | refine rdRaw_here rfl ?_ | rw [isB_bl] | rw [eqD_str] | rw [eqD_int] | refine And.intro (show CPow _ _ from ⟨by decide, by decide, by decide⟩) ?_ | refine And.intro (show 2 ≤ sizeLine by decide) ?_ | refine And.intro (show 1 ≤ sizeLine by decide) ?_ | refine And.intro (show 3 ≤ sizeLine by decide) ?_ | refine And.intro (show 4 ≤ sizeLine by decide) ?_ | refine And.intro (show 5 ≤ sizeLine by decide) ?_ | dsimp only)
    refine (show slD (.tup ds) none (some ((1 : Nat) : Int)) _ from ?_)
    rw [slD_tup, cutT_to ds (by omega)]
    repeat (first | refine rd_here rfl ?_ | refine ownL_here rfl ?_ | rw [isI_int] | rw [addD_int] | rw [int0_int] | rw [someD_some] | refine rdRaw_here rfl ?_ | rw [isB_bl] | rw [eqD_str] | rw [eqD_int] | refine And.intro (show CPow _ _ from ⟨by decide, by decide, by decide⟩) ?_ | refine And.intro (show 2 ≤ sizeLine by decide) ?_ | refine And.intro (show 1 ≤ sizeLine by decide) ?_ | refine And.intro (show 3 ≤ sizeLine by decide) ?_ | refine And.intro (show 4 ≤ sizeLine by decide) ?_ | refine And.intro (show 5 ≤ sizeLine by decide) ?_ | dsimp only)
    refine (show slD (.tup ds) (some ((1 : Nat) : Int)) none _ from ?_)
    rw [slD_tup, cutT_from ds (by omega)]
    rw [tupD1_tup]
    rw [addD_tup]
    refine ⟨line_of (by rw [List.length_reverse, List.length_take, List.length_drop]; omega), ?_⟩
    refine fin _ _ (by rw [List.length_append, List.length_reverse, List.length_take, List.length_drop]; omega) (fun x hx => old x ?_) (by omega)
    rcases List.mem_append.mp hx with hx | hx
    · exact List.mem_of_mem_take hx
    · exact List.mem_of_mem_drop (List.mem_reverse.mp hx)
  intro j2 hj2
  subst hj2
  repeat (first | refine rd_here rfl ?_ | refine ownL_here rfl ?_ | rw [isI_int] | rw [addD_int] | rw [int0_int] | rw [someD_some] | refine rdRaw_here rfl ?_ | rw [isB_bl] | rw [eqD_str] | rw [eqD_int] | refine And.intro (show CPow _ _ from ⟨by decide, by decide, by decide⟩) ?_ | refine And.intro (show 2 ≤ sizeLine by decide) ?_ | refine And.intro (show 1 ≤ sizeLine by decide) ?_ | refine And.intro (show 3 ≤ sizeLine by decide) ?_ | refine And.intro (show 4 ≤ sizeLine by decide) ?_ | refine And.intro (show 5 ≤ sizeLine by decide) ?_ | dsimp only)
  rw [slD_tup, cutT_to ds (by omega)]
  repeat (first | refine rd_here rfl ?_ | refine ownL_here rfl ?_ | rw [isI_int] | rw [addD_int] | rw [int0_int] | rw [someD_some] | refine rdRaw_here rfl ?_ | rw [isB_bl] | rw [eqD_str] | rw [eqD_int] | refine And.intro (show CPow _ _ from ⟨by decide, by decide, by decide⟩) ?_ | refine And.intro (show 2 ≤ sizeLine by decide) ?_ | refine And.intro (show 1 ≤ sizeLine by decide) ?_ | refine And.intro (show 3 ≤ sizeLine by decide) ?_ | refine And.intro (show 4 ≤ sizeLine by decide) ?_ | refine And.intro (show 5 ≤ sizeLine by decide) ?_ | dsimp only)
  rw [ixD_tup, show atI ds ((sp : Nat) : Int) = some ds[sp] from atI_nat (List.getElem?_eq_getElem hsp), someD_some]
  have hmem : ds[sp] ∈ ds := List.getElem_mem hsp
  refine ⟨v, ds[sp], a', b, hd, rfl, hoks _ hmem, hds _ hmem, by omega, hb, by omega, fun r j3 hr1 hr2 hj3 => ?_⟩
  repeat (first | refine rd_here rfl ?_ | refine ownL_here rfl ?_ | rw [isI_int] | rw [addD_int] | rw [int0_int] | rw [someD_some] | refine rdRaw_here rfl ?_ | rw [isB_bl] | rw [eqD_str] | rw [eqD_int] | refine And.intro (show CPow _ _ from ⟨by decide, by decide, by decide⟩) ?_ | refine And.intro (show 2 ≤ sizeLine by decide) ?_ | refine And.intro (show 1 ≤ sizeLine by decide) ?_ | refine And.intro (show 3 ≤ sizeLine by decide) ?_ | refine And.intro (show 4 ≤ sizeLine by decide) ?_ | refine And.intro (show 5 ≤ sizeLine by decide) ?_ | dsimp only)
  rw [addD_tup]
  refine ⟨line_of (by rw [List.length_take, List.length_singleton]; omega), ?_⟩
  repeat (first | refine rd_here rfl ?_ | refine ownL_here rfl ?_ | rw [isI_int] | rw [addD_int] | rw [int0_int] | rw [someD_some] | refine rdRaw_here rfl ?_ | rw [isB_bl] | rw [eqD_str] | rw [eqD_int] | refine And.intro (show CPow _ _ from ⟨by decide, by decide, by decide⟩) ?_ | refine And.intro (show 2 ≤ sizeLine by decide) ?_ | refine And.intro (show 1 ≤ sizeLine by decide) ?_ | refine And.intro (show 3 ≤ sizeLine by decide) ?_ | refine And.intro (show 4 ≤ sizeLine by decide) ?_ | refine And.intro (show 5 ≤ sizeLine by decide) ?_ | dsimp only)
  rw [slD_tup, addD_tup, e1, cutT_from ds (by omega)]
  refine ⟨line_of (by rw [List.length_append, List.length_take, List.length_drop, List.length_singleton]; omega), ?_⟩
  refine fin _ _ (by rw [List.length_append, List.length_append, List.length_take, List.length_drop, List.length_singleton]; omega) (fun x hx => ?_) (by omega)
  rcases List.mem_append.mp hx with hx | hx
  · rcases List.mem_append.mp hx with hx | hx
    · exact old x (List.mem_of_mem_take hx)
    · rw [List.mem_singleton.mp hx]; exact ⟨hr1, hr2⟩
  · exact old x (List.mem_of_mem_drop hx)
end
end K01
namespace K01
open PySem PySem.Spec PyProof.Rows L2 DL
/-! ### the parts by their texts -/
def partRow (n : Nat) (t : Dat) : Key × Dat := (.inr (textOf n t), t)
def addParts (n : Nat) (l : Tab) (d : Dat) : Tab := mergeP l ((partsL n d).map (partRow n))
theorem mergeP_app (l a b : Tab) : mergeP l (a ++ b) = mergeP (mergeP l a) b := List.foldl_append
theorem addParts_all {n : Nat} : ∀ {ts : List Dat} {l : Tab}, (∀ t ∈ ts, Good n t) → mergeP l ((ts.flatMap (partsL n)).map (partRow (n + 1))) = ts.foldl (addParts n) l
  | [], l, _ => rfl
  | t :: ts, l, h => by
    have e : (partsL n t).map (partRow (n + 1)) = (partsL n t).map (partRow n) := List.map_congr_left fun x hx => by
      unfold partRow
      rw [textOf_up (parts_good (h t List.mem_cons_self) x hx)]
    rw [List.flatMap_cons, List.map_append, mergeP_app, e, List.foldl_cons, addParts_all fun x hx => h x (List.mem_cons_of_mem _ hx)]
    rfl
theorem addParts_succ {n : Nat} {l : Tab} {d : Dat} (h : Good (n + 1) d) : addParts (n + 1) l d = (innerOf d).foldl (addParts n) (putP l (.inr (textOf (n + 1) d)) d) := by
  unfold addParts
  rw [partsL, List.map_cons]
  exact addParts_all (good_inner h)
theorem addParts_tab {d : Dat} : addParts 6 [] d = tabOf d := by
  unfold addParts tabOf
  congr 1
  generalize partsL 6 d = l
  induction l with
  | nil => rfl
  | cons x l ih => rw [List.map_cons, List.map_cons, List.map_cons, List.zip_cons_cons, ih]; rfl
theorem addParts_len {n : Nat} {l : Tab} {d : Dat} : (addParts n l d).length ≤ l.length + (partsL n d).length := by
  have q := mergeP_len (m := (partsL n d).map (partRow n)) (l := l)
  rw [List.length_map] at q
  exact q
def c_partsO (n : Nat) : ConO := ⟨fun d l P => Good n d ∧ l.length + (partsL n d).length ≤ 10000 ∧ P (addParts n l d), fun _ _ _ _ h m => ⟨h.1, h.2.1, m _ h.2.2⟩⟩
section
variable {P : Program} {w : World} {K : PySem.W.Frag} {mg : Str → Option Value} {base : Heap} {f f2 : Addr} {fd fd2 : FuncData} {k : Nat}
abbrev s__law_parts : Stmt := topS 70
theorem sc__law_parts : FnScope ["it", "found", "part"] ["it", "found"] (defScope s__law_parts) := ⟨rfl, rfl, rfl, by decide +kernel, rfl, by decide +kernel, by decide +kernel⟩
theorem ok_law_parts {n : Nat} (F__law_text : Callee P w K mg base "_law_text" k ["it"] (c_text (n + 1))) (F__law_inner : Callee P w K mg base "_law_inner" k ["it"] c_law_inner) (F__law_parts : CalleeO P w K mg base "_law_parts" k ["it", "found"] (c_partsO n)) (F : Fun K "_law_parts" "_law_parts" s__law_parts f fd) : FnOk P w K mg base CX0 (k + 1) f fd ["it", "found"] (spO K (c_partsO (n + 1))) := by
  obtain ⟨ft, fdt, Ft, mt, kt, bt⟩ := F__law_text.ex
  obtain ⟨fi, fdi, Fi, mi, ki, bi⟩ := F__law_inner.ex
  obtain ⟨fp, fdp, Fp, mp, kp, bp⟩ := F__law_parts.ex
  refine F.ok sc__law_parts (fun vs H Q E ⟨S, p, kvs, l, d, v, _, _, e, _⟩ => by rw [e]; rfl) fun cdv A outer s H vs Q E hr h => ?_
  obtain ⟨S, p, kvs, l, d, v, hS, sp, rfl, hv, hp, rel, hg, hl, hq⟩ := h
  have nd := sc__law_parts.nd
  refine ⟨_, pss_cons (ps_dput (hu_of hr) (pv 1) (pe_call Ft hr (by rfl) mt kt bt .nil pass0 (pa_cons (pv 0) pa_nil)) (pv 0) rfl)
    (pss_cons (ps_for PassesOwn.never rfl (pi_list (pe_call Fi hr (by rfl) mi ki bi .nil pass0 (pa_cons (pv 0) pa_nil))) (pg_name (i := 2) nd rfl (Or.inl rfl)) (pss_one (ps_expr (pe_call Fp hr (by rfl) mp kp bp .nil pass0 (pa_cons (pv 2) (pa_cons (pv 1) pa_nil))) rfl)))
    (pss_one (ps_ret (pv 1)))), ?_⟩
  refine ⟨_, rfl, _, rfl, _, rfl, ?_⟩
  refine ⟨S, [d], hS, ⟨v, [], rfl, hv, rfl⟩, con1_C.mpr ⟨hg, fun vz H1 ex1 hz => ?_⟩⟩
  obtain rfl := dv_str hz
  have hp1 := ex1 p _ hp
  have mv1 : ∀ a o, ¬ S a → H a = some o → ¬ S a ∧ H1 a = some o := fun a o n e => ⟨n, ex1 a o e⟩
  have rel1 : RelP K S H1 kvs l := ⟨rel.1, rel.2.move mv1⟩
  have hv1 := hv.move mv1
  have lk : kvs.length = l.length := by
    have e := congrArg List.length rel.1
    rwa [List.length_map, List.length_map] at e
  refine ⟨p, _, rfl, DPut.k (k := Sum.inr (textOf (n + 1) d)) hp1 (Nat.lt_of_le_of_lt (show kvs.length ≤ 10000 by omega) (by decide)), ?_⟩
  let H2 : Hp := upd H1 p (.dK (putK kvs (Sum.inr (textOf (n + 1) d)) v))
  have k2 : ∀ b o, b ≠ p → H1 b = some o → H2 b = some o := fun b o nb e => by show upd H1 p _ b = _; rw [upd_ne nb]; exact e
  have nSp : ∀ b, ¬ S b → b ≠ p := fun b n z => n (by rw [z]; exact sp)
  have mv2 : ∀ a o, ¬ S a → H1 a = some o → ¬ S a ∧ H2 a = some o := fun a o n e => ⟨n, k2 a o (nSp a n) e⟩
  have rel2 : RelP K S H2 (putK kvs (Sum.inr (textOf (n + 1) d)) v) (putP l (.inr (textOf (n + 1) d)) d) := by
    have q := rel1.put (k := Sum.inr (textOf (n + 1) d)) hv1
    exact ⟨q.1, q.2.move mv2⟩
  have hv2 := hv1.move mv2
  have all2 : ∀ a, S a → ∃ o, H2 a = some o := fun a h => by
    by_cases z : a = p
    · exact ⟨_, by rw [z]; exact upd_same⟩
    · obtain ⟨o, e⟩ := hS a h
      exact ⟨o, k2 a o z (ex1 a o e)⟩
  refine ⟨_, rfl, S, [d], all2, ⟨v, [], rfl, hv2, rfl⟩, con1_C.mpr ⟨good_shape hg, fun vi H3 ex3 hi => ?_⟩⟩
  obtain ⟨a, xs, rfl, na, ea, hxs⟩ := dv_lst hi
  have hap : a ≠ p := nSp a na
  have hp3 : H3 p = some (.dK (putK kvs (Sum.inr (textOf (n + 1) d)) v)) := ex3 p _ upd_same
  have mv3 : ∀ a o, ¬ S a → H2 a = some o → ¬ S a ∧ H3 a = some o := fun a o n e => ⟨n, ex3 a o e⟩
  have hlenx := hxs.len
  have hgi := good_inner hg
  have hsum : (partsL (n + 1) d).length = 1 + ((innerOf d).flatMap (partsL n)).length := by rw [partsL, List.length_cons]; omega
  refine ⟨a, rfl, ⟨xs, .inl (.inl ea)⟩, for_list (K := K) (xs := xs) (fun i σ H' => σ[0]? = some (some v) ∧ σ[1]? = some (some (V.ref p)) ∧ σ.length = 3 ∧ (∀ b o, b ≠ p → H3 b = some o → H' b = some o) ∧ ∃ kv', H' p = some (.dK kv') ∧ RelP K S H' kv' (((innerOf d).take i).foldl (addParts n) (putP l (.inr (textOf (n + 1) d)) d))) ?_ ?_ ?_ ?_⟩
  · exact ⟨rfl, rfl, rfl, fun b o _ e => e, _, hp3, rel2.1, rel2.2.move mv3⟩
  · rintro i σ H' _ ⟨_, _, _, keep, _⟩
    exact .inl (.inl (keep a _ hap ea))
  · rintro i x σ H' hx ⟨s0, s1, s3, keep, kv', hp', rel'⟩
    obtain ⟨t, et, ht⟩ := hxs.getV hx
    have hil : i < (innerOf d).length := (List.getElem?_eq_some_iff.mp et).1
    have mv' : ∀ a o, ¬ S a → H3 a = some o → ¬ S a ∧ H' a = some o := fun a o n e => ⟨n, keep a o (nSp a n) e⟩
    have htk : (innerOf d).take (i + 1) = (innerOf d).take i ++ [t] := by rw [List.take_add_one, et]; rfl
    have hgt : Good n t := hgi t (List.mem_of_getElem? et)
    have all' : ∀ b, S b → ∃ o, H' b = some o := fun b hb => by
      by_cases z : b = p
      · exact ⟨_, by rw [z]; exact hp'⟩
      · obtain ⟨o, e⟩ := all2 b hb
        exact ⟨o, keep b o z (ex3 b o e)⟩
    have lenb : (((innerOf d).take i).foldl (addParts n) (putP l (.inr (textOf (n + 1) d)) d)).length + (partsL n t).length ≤ 10000 := by
      rw [← addParts_all fun x hx => hgi x (List.mem_of_mem_take hx)]
      have q1 := mergeP_len (m := (((innerOf d).take i).flatMap (partsL n)).map (partRow (n + 1))) (l := putP l (.inr (textOf (n + 1) d)) d)
      have q2 := putP_len (l := l) (k := .inr (textOf (n + 1) d)) (d := d)
      rw [List.length_map] at q1
      have q3 : ((innerOf d).flatMap (partsL n)).length = (((innerOf d).take i).flatMap (partsL n)).length + (partsL n t).length + (((innerOf d).drop (i + 1)).flatMap (partsL n)).length := by
        have e : innerOf d = (innerOf d).take i ++ [t] ++ (innerOf d).drop (i + 1) := by rw [← htk, List.take_append_drop]
        conv => lhs; rw [e]
        rw [List.flatMap_append, List.flatMap_append, List.length_append, List.length_append]
        simp
      omega
    have e2 : (σ.set 2 (some x))[2]? = some (some x) := by rw [List.getElem?_set_self (by omega)]
    have e1 : (σ.set 2 (some x))[1]? = some (some (V.ref p)) := by rw [List.getElem?_set_ne (by decide)]; exact s1
    have e0 : (σ.set 2 (some x))[0]? = some (some v) := by rw [List.getElem?_set_ne (by decide)]; exact s0
    refine ⟨x, e2, V.ref p, e1, S, p, kv', _, t, x, all', sp, rfl, ht.move mv', hp', rel', hgt, lenb, fun kv2 H4 keep4 hp4 rel4 => ?_⟩
    refine ⟨e0, e1, by rw [List.length_set]; exact s3, fun b o nb e => keep4 b o nb (keep b o nb e), kv2, hp4, ?_⟩
    rw [htk, List.foldl_append]
    exact rel4
  · rintro σ H' ⟨s0, s1, _, keep, kv', hp', rel'⟩
    refine ⟨_, s1, hq kv' H' (fun b o nb e => keep b o nb (ex3 b o (k2 b o nb (ex1 b o e)))) hp' ?_⟩
    rw [addParts_succ hg]
    rw [hlenx, List.take_length] at rel'
    exact rel'
end
end K01
namespace K01
open PySem PySem.Spec PyProof.Rows L2 DL
/-! ### two rising orders of the same texts are one -/
def notAfter (a b : Str) : Prop := ¬ b.cps.toList < a.cps.toList
theorem notAfter_of {a b : Str} (h : (!ltCps b.cps.toList a.cps.toList) = true) : notAfter a b := by
  rw [ltCps_eq] at h
  simpa [notAfter] using h
theorem notAfter_trans {a b c : Str} (h : notAfter a b) (h2 : notAfter b c) : notAfter a c := by
  unfold notAfter at *
  rw [List.not_lt] at *
  exact List.le_trans h h2
theorem rising_pw : ∀ {l : List Str} {p : Str}, risingS p l = true → (p :: l).Pairwise notAfter
  | [], p, _ => List.pairwise_singleton _ _
  | x :: l, p, h => by
    rw [risingS, Bool.and_eq_true] at h
    have q := rising_pw h.2
    have e := notAfter_of h.1
    refine List.pairwise_cons.mpr ⟨fun y hy => ?_, q⟩
    rcases List.mem_cons.mp hy with rfl | hy
    · exact e
    · exact notAfter_trans e ((List.pairwise_cons.mp q).1 y hy)
theorem sorted_pw : ∀ {l : List Str}, sortedS l = true → l.Pairwise notAfter
  | [], _ => List.Pairwise.nil
  | x :: l, h => rising_pw h
theorem sorted_one {a b : List Str} (h : a.Perm b) (ha : sortedS a = true) (hb : sortedS b = true) : a = b := by
  refine h.eq_of_pairwise (le := notAfter) (fun x y _ _ h1 h2 => ?_) (sorted_pw ha) (sorted_pw hb)
  unfold notAfter at h1 h2
  rw [List.not_lt] at h1 h2
  have e := List.le_antisymm h1 h2
  cases x with
  | mk cx =>
    cases y with
    | mk cy =>
      have : cx = cy := Array.toList_inj.mp e
      rw [this]
theorem inOrder_one {l : Tab} {a b : List Dat} (ha : InOrder l a) (hb : InOrder l b) : a = b := by
  obtain ⟨za, pa, sa, ea⟩ := ha
  obtain ⟨zb, pb, sb, eb⟩ := hb
  rw [ea, eb, sorted_one (pa.trans pb.symm) sa sb]
/-! ### terms are flat: no lists, not deep -/
theorem name_str {d : Dat} (h : isName d = true) : ∃ z, d = .str z := by
  cases d with
  | str z => exact ⟨z, rfl⟩
  | _ => cases h
theorem behind_of {b : Option (Int × Int)} {n : Nat} {r ts : List Dat} (h : behind b n r = some ts) : r = ts ∨ ∃ i, r = .int i :: ts := by
  unfold behind at h
  split at h
  · split at h
    · cases h; exact .inl rfl
    · cases h
  · split at h
    · split at h
      · cases h; exact .inr ⟨_, rfl⟩
      · cases h
    · cases h
theorem noLsts_all : ∀ {ds : List Dat}, (∀ d ∈ ds, noLst d = true) → noLsts ds = true
  | [], _ => by rw [noLsts]
  | d :: ds, h => by rw [noLsts, h d List.mem_cons_self, noLsts_all fun x hx => h x (List.mem_cons_of_mem _ hx)]; rfl
theorem depths_le {m : Nat} : ∀ {ds : List Dat}, (∀ d ∈ ds, (toP d).depth ≤ m) → PyData.depthAll (toPs ds) ≤ m
  | [], _ => by rw [toPs, PyData.depthAll]; omega
  | d :: ds, h => by
    have h1 := h d List.mem_cons_self
    have h2 := depths_le fun x hx => h x (List.mem_cons_of_mem _ hx)
    rw [toPs, PyData.depthAll]
    omega
theorem flat_tup {m : Nat} {ds : List Dat} (h : ∀ d ∈ ds, noLst d = true ∧ (toP d).depth ≤ m) : noLst (.tup ds) = true ∧ (toP (.tup ds)).depth ≤ m + 1 := by
  refine ⟨by rw [noLst]; exact noLsts_all fun d hd => (h d hd).1, ?_⟩
  have q := depths_le fun d hd => (h d hd).2
  rw [toP, PyData.depth]
  omega
theorem good_flat : ∀ {n : Nat} {d : Dat}, Good n d → noLst d = true ∧ (toP d).depth ≤ 2 * n
  | 0, _, h => by obtain ⟨_, _, e, _⟩ := h; cases e
  | n + 1, d, h => by
    have hi := good_inner h
    have str_ok : ∀ z : Str, noLst (.str z) = true ∧ ∀ m, (toP (.str z)).depth ≤ m := fun z => ⟨by rw [noLst]; all_goals (intros; rename_i e; cases e), fun m => by rw [toP, PyData.depth]; omega⟩
    have int_ok : ∀ z : Int, noLst (.int z) = true ∧ ∀ m, (toP (.int z)).depth ≤ m := fun z => ⟨by rw [noLst]; all_goals (intros; rename_i e; cases e), fun m => by rw [toP, PyData.depth]; omega⟩
    have inner : ∀ {ss ts k}, shape d = some (ss, ts, k) → ∀ t ∈ ts, noLst t = true ∧ (toP t).depth ≤ 2 * n := fun {ss ts k} e t ht => good_flat (hi t (by unfold innerOf; rw [e]; exact ht))
    rcases shape_cases (good_shape h) with ⟨nn, c, rfl, hn, hc, es⟩ | ⟨nn, ts, c, rfl, hn, hc, h1, h3, es⟩ | ⟨w, r, k, b, ss, ts, rfl, hn, hc, hw, hb, es⟩
    · obtain ⟨z, rfl⟩ := name_str hn
      refine flat_tup (m := 2 * n + 1) fun x hx => ?_
      simp only [List.mem_cons, List.not_mem_nil, or_false] at hx
      rcases hx with rfl | rfl | rfl
      · exact ⟨(str_ok _).1, (str_ok _).2 _⟩
      · exact ⟨(str_ok _).1, (str_ok _).2 _⟩
      · exact ⟨(str_ok _).1, (str_ok _).2 _⟩
    · obtain ⟨z, rfl⟩ := name_str hn
      refine flat_tup (m := 2 * n + 1) fun x hx => ?_
      simp only [List.mem_cons, List.not_mem_nil, or_false] at hx
      rcases hx with rfl | rfl | rfl | rfl
      · exact ⟨(str_ok _).1, (str_ok _).2 _⟩
      · exact ⟨(str_ok _).1, (str_ok _).2 _⟩
      · exact flat_tup (inner es)
      · exact ⟨(str_ok _).1, (str_ok _).2 _⟩
    · refine flat_tup (m := 2 * n + 1) fun x hx => ?_
      rcases List.mem_cons.mp hx with rfl | hx
      · exact ⟨(str_ok _).1, (str_ok _).2 _⟩
      · have it : ∀ t ∈ ts, noLst t = true ∧ (toP t).depth ≤ 2 * n + 1 := fun t ht => ⟨(inner es t ht).1, by have := (inner es t ht).2; omega⟩
        rcases behind_of hb with rfl | ⟨i, rfl⟩
        · exact it x hx
        · rcases List.mem_cons.mp hx with rfl | hx
          · exact ⟨(int_ok _).1, (int_ok _).2 _⟩
          · exact it x hx
/-! ### all of a term can be laid out -/
theorem lay_int {i : Int} : Lay (.int i) := rfl
theorem inner_sub {d t : Dat} (hs : (shape d).isSome = true) (ht : t ∈ innerOf d) (h : Lay d) : Lay t := by
  rcases shape_cases hs with ⟨nn, c, rfl, hn, hc, es⟩ | ⟨nn, ts, c, rfl, hn, hc, h1, h3, es⟩ | ⟨w, r, k, b, ss, ts, rfl, hn, hc, hw, hb, es⟩
  · unfold innerOf at ht; rw [es] at ht; cases ht
  · unfold innerOf at ht; rw [es] at ht
    have q := lay_tup.mp h
    exact lay_tup.mp (q (.tup ts) (by simp)) t ht
  · unfold innerOf at ht; rw [es] at ht
    have q := lay_tup.mp h
    rcases behind_of hb with rfl | ⟨i, rfl⟩
    · exact q t (List.mem_cons_of_mem _ ht)
    · exact q t (List.mem_cons_of_mem _ (List.mem_cons_of_mem _ ht))
theorem parts_lay : ∀ {n : Nat} {d : Dat}, Good n d → Lay d → ∀ p ∈ partsL n d, Lay p
  | 0, _, h, _, _, _ => by obtain ⟨_, _, e, _⟩ := h; cases e
  | n + 1, d, h, hl, p, hp => by
    rcases List.mem_cons.mp (show p ∈ d :: (innerOf d).flatMap (partsL n) from hp) with rfl | hp
    · exact hl
    · obtain ⟨t, ht, hp⟩ := List.mem_flatMap.mp hp
      exact parts_lay (good_inner h t ht) (inner_sub (good_shape h) ht hl) p hp
theorem depth_lst {m : Nat} {ds : List Dat} (h : ∀ d ∈ ds, (toP d).depth ≤ m) : (toP (.lst ds)).depth ≤ m + 1 := by
  have q := depths_le h
  rw [toP, PyData.depth]
  omega
theorem shaped_of {d : Dat} (h : Lay d) (hd : (toP d).depth ≤ 64) : SeqAt.shaped (toP d) = true := by
  unfold SeqAt.shaped
  rw [show (toP d).canLay0 = true from h, decide_eq_true hd]
  rfl
theorem shaped_terms {n : Nat} {ds : List Dat} (hn : n ≤ 20) (h : ∀ d ∈ ds, Good n d ∧ Lay d) : Lay (.lst ds) ∧ (toP (.lst ds)).depth ≤ 42 := by
  refine ⟨lay_lst.mpr fun d hd => (h d hd).2, ?_⟩
  have q := depth_lst (m := 2 * n) fun d hd => (good_flat (h d hd).1).2
  omega
theorem kind_sort {n : Nat} {d : Dat} {k : Str} {m : Nat} (h : kindOf n d = some (k, m)) : sortIs d = k := by
  cases n with
  | zero => cases h
  | succ n =>
    unfold kindOf at h
    unfold sortIs
    cases es : shape d with
    | none => rw [es] at h; cases h
    | some p =>
      obtain ⟨ss, ts, k'⟩ := p
      rw [es] at h
      simp only at h ⊢
      cases e2 : sizeP (kindOf n) ts ss with
      | none => rw [e2] at h; cases h
      | some r => rw [e2] at h; simp at h; exact h.1
theorem kind_in {n : Nat} {d : Dat} {k : Str} {m : Nat} (h : kindOf n d = some (k, m)) (hs : (shape d).isSome = true) : k ∈ sorts := by
  have e := kind_sort h
  rw [← e]
  unfold sortIs
  rcases shape_cases hs with ⟨nn, c, rfl, hn, hc, es⟩ | ⟨nn, ts, c, rfl, hn, hc, h1, h3, es⟩ | ⟨w, r, k, b, ss, ts, rfl, hn, hc, hw, hb, es⟩
  · rw [es]; exact hc
  · rw [es]; exact hc
  · rw [es]; exact (row_facts hw).2.1
theorem sort_lay : ∀ {k : Str}, k ∈ sorts → Lay (.str k) := fun {k} h => by
  have q : ∀ k ∈ sorts, (toP (.str k)).canLay0 = true := by decide +kernel
  exact q k h
/-- what stands in the table by its texts is a part -/
theorem putP_mem {l : Tab} {k : Key} {d x : Dat} (h : x ∈ (putP l k d).map (·.2)) : x = d ∨ x ∈ l.map (·.2) := by
  unfold putP at h
  split at h
  · rw [List.map_map] at h
    obtain ⟨y, hy, e⟩ := List.mem_map.mp h
    simp only [Function.comp] at e
    split at e
    · exact .inl e.symm
    · exact .inr (List.mem_map.mpr ⟨y, hy, e⟩)
  · rw [List.map_append] at h
    rcases List.mem_append.mp h with h | h
    · exact .inr h
    · simp at h; exact .inl h
theorem mergeP_mem : ∀ {m l : Tab} {x : Dat}, x ∈ (mergeP l m).map (·.2) → x ∈ m.map (·.2) ∨ x ∈ l.map (·.2)
  | [], l, x, h => .inr h
  | y :: m, l, x, h => by
    rcases mergeP_mem (m := m) (l := putP l y.1 y.2) h with h | h
    · exact .inl (List.mem_cons_of_mem _ h)
    · rcases putP_mem h with e | h
      · rw [e]; exact .inl List.mem_cons_self
      · exact .inr h
theorem tab_mem {d x : Dat} (h : x ∈ (tabOf d).map (·.2)) : x ∈ partsL 6 d := by
  rw [← addParts_tab] at h
  unfold addParts at h
  rcases mergeP_mem h with h | h
  · obtain ⟨y, hy, e⟩ := List.mem_map.mp h
    obtain ⟨t, ht, e2⟩ := List.mem_map.mp hy
    subst e2
    rw [← e]
    exact ht
  · cases h
theorem look_mem : ∀ {l : Tab} {k : Key} {x : Dat}, getK (l.map (·.1)) (l.map (·.2)) k = some x → x ∈ l.map (·.2)
  | [], _, _, h => by cases h
  | y :: l, k, x, h => by
    rw [List.map_cons, List.map_cons, getK] at h
    split at h
    · cases h; exact List.mem_cons_self
    · exact List.mem_cons_of_mem _ (look_mem h)
theorem tab_keys (d : Dat) : strTab (tabOf d) := strTab.merge ⟨[], rfl⟩
theorem inOrder_mem {d x : Dat} {out : List Dat} (h : InOrder (tabOf d) out) (hx : x ∈ out) : x ∈ partsL 6 d := by
  obtain ⟨zs, hp, _, rfl⟩ := h
  obtain ⟨z, hz, e⟩ := List.mem_map.mp hx
  obtain ⟨ek, _⟩ := keysS_eq (tab_keys d)
  have hm : (Sum.inr z : Key) ∈ (tabOf d).map (·.1) := by rw [ek]; exact List.mem_map.mpr ⟨z, hp.mem_iff.mp hz, rfl⟩
  obtain ⟨v, ev⟩ := getK_mem hm
  have e2 : v = x := by rw [← e]; show v = (getK _ _ _).getD _; rw [ev]; rfl
  rw [← e2]
  exact tab_mem (look_mem ev)
theorem inOrder_len {d : Dat} {out : List Dat} (h : InOrder (tabOf d) out) : out.length = (tabOf d).length := by
  obtain ⟨zs, hp, _, rfl⟩ := h
  obtain ⟨ek, _⟩ := keysS_eq (tab_keys d)
  have e := congrArg List.length ek
  rw [List.length_map, List.length_map] at e
  rw [List.length_map, hp.length_eq, e]
end K01
namespace K01
open PySem PySem.Spec PyProof.Rows L2 DL
/-! ### whether the program answers rightly on one thing -/
def conRefused (IsT : Sta Unit → Prop) : ConS Unit := ⟨fun st _ sl P => IsT st ∧ ∃ d, sl = [.d d] ∧ LawOk d ∧ isTerm d = false ∧ P (.bl true) (), fun _ _ _ _ _ ⟨h, d, e, h1, h2, h3⟩ m => ⟨h, d, e, h1, h2, m _ _ h3⟩⟩
def conRight (IsT : Sta Unit → Prop) : ConS Unit := ⟨fun st _ sl P => IsT st ∧ ∃ d, sl = [.d d] ∧ LawOk d ∧ P (.bl true) (), fun _ _ _ _ _ ⟨h, d, e, h1, h3⟩ m => ⟨h, d, e, h1, m _ _ h3⟩⟩
theorem repr_four (a b : Bool) {P : Dat → Prop} (h : P (.str (toP (.lst [.bl a, .bl a, .bl b, .bl b])).shown)) : reprD [.lst [.bl a, .bl a, .bl b, .bl b]] P := by
  refine ⟨by cases a <;> cases b <;> rfl, by cases a <;> cases b <;> rfl, by cases a <;> cases b <;> rfl, by cases a <;> cases b <;> decide, ?_, h⟩
  cases a <;> cases b <;> decide +kernel
theorem neD_same {ds : List Dat} {P : Dat → Prop} (h : Lay (.lst ds)) (hd : (toP (.lst ds)).depth ≤ 64) (q : P (.bl false)) : neD (.lst ds) (.lst ds) P := ⟨shaped_of h hd, shaped_of h hd, by rw [PySem.SeqAt.eqv_refl _ h]; exact q⟩
theorem eqD_same {ds : List Dat} {P : Dat → Prop} (h : Lay (.lst ds)) (hd : (toP (.lst ds)).depth ≤ 64) (q : P (.bl true)) : eqD (.lst ds) (.lst ds) P := ⟨shaped_of h hd, shaped_of h hd, by rw [PySem.SeqAt.eqv_refl _ h]; exact q⟩
section
variable {P : Program} {w : World} {K : PySem.W.Frag} {mg : Str → Option Value} {base : Heap} {f f2 : Addr} {fd fd2 : FuncData} {k : Nat}
abbrev s__law_right : Stmt := topS 72
theorem sc__law_right : FnScope ["odd", "good", "found", "parts", "inner", "told", "said"] ["odd"] (defScope s__law_right) := ⟨rfl, rfl, rfl, by decide +kernel, rfl, by decide +kernel, by decide +kernel⟩
theorem ok_law_right {CB : Addr} {IsT : Sta Unit → Prop} (B : Bt mg) (F__law_is_term : Callee P w K mg base "_law_is_term" k ["odd"] c_law_is_term) (F_is_term : Callee P w K mg base "is_term" k ["thing"] c_is_term) (K_is_term : CalleeK P w K mg base CX0 "is_term" k ["thing"] c_is_term)
    (F_is_name : Callee P w K mg base "is_name" k ["thing"] c_is_name) (K_is_name : CalleeK P w K mg base CX0 "is_name" k ["thing"] c_is_name) (F__law_is_name : Callee P w K mg base "_law_is_name" k ["odd"] c_law_is_name) (F_ref : CalleeS P w K mg base "_law_refused_right" k ["odd"] (conRefused IsT))
    (F_parts : CalleeO P w K mg base "_law_parts" k ["it", "found"] (c_partsO 6)) (F__law_inner : Callee P w K mg base "_law_inner" k ["it"] c_law_inner) (F_sort_of : CalleeX P w K mg base "sort_of" k ["term"] (c_sort_of CB)) (K_sort_of : CalleeK P w K mg base (L2.CX P w) "sort_of" k ["term"] (c_sort_of CB))
    (F_tk : Callee P w K mg base "_law_term_kind" k ["odd", "deep"] (c_law_tk 6)) (F_text_of : Callee P w K mg base "text_of" k ["thing"] c_text_of) (F__law_text : Callee P w K mg base "_law_text" k ["it"] (c_text 6)) (F_inner_of : CalleeX P w K mg base "inner_of" k ["term"] (c_inner_of CB)) (K_inner_of : CalleeK P w K mg base (L2.CX P w) "inner_of" k ["term"] (c_inner_of CB))
    (F_parts_of : CalleeX P w K mg base "parts_of" k ["term"] (c_parts_of CB)) (K_parts_of : CalleeK P w K mg base (L2.CX P w) "parts_of" k ["term"] (c_parts_of CB)) (F : Fun K "_law_right" "_law_right" s__law_right f fd) : FnG P w K mg base CX0 (k + 1) f fd ["odd"] (spS K (conRight IsT)) := by
  refine fn_pureSG F sc__law_right (fun st i sl P ⟨_, d, e, _⟩ => by rw [e]; rfl) fun cdv A outer s H S hS st i0 h0 hgd hf hr sl R hc => ?_
  have nd := sc__law_right.nd
  obtain ⟨hT, d, rfl, hok, hR⟩ := hc
  refine ⟨_, (dbr_cons (dsr_of fun i => ds_set 1 (de_fn F__law_is_term hr (da_cons (de_var 0) da_nil) (by omega)) nd)
    (dbr_cons (dsr_of fun i => ds_set 2 (de_lst (da_cons (de_fn F_is_term hr (da_cons (de_var 0) da_nil) (by omega)) (da_cons (de_fnK K_is_term hr (de_var 0) (by omega)) (da_cons (de_fn F_is_name hr (da_cons (de_var 0) da_nil) (by omega)) (da_cons (de_fnK K_is_name hr (de_var 0) (by omega)) da_nil))))) nd)
    (dbr_cons (dsr_of fun i => ds_ifc (dt_ne hr.units (de_repr hgd hr.units B.repr (da_cons (de_var 2) da_nil)) (de_repr hgd hr.units B.repr (da_cons (de_add (de_lst (da_cons (de_var 1) (da_cons (de_var 1) da_nil))) (de_repL (de_lst (da_cons (de_fn F__law_is_name hr (da_cons (de_var 0) da_nil) (by omega)) da_nil)) de_int)) da_nil))) (db_one (ds_ret de_bl)) db_nil)
    (dbr_cons (dsr_if (dtr_of fun i => dt_not (dt_val (de_var 1))) (dbr_one (dsr_ret (dr_fnS (gs_self hf) F_ref hr (dsl_d (dr_of fun i => de_var 0) dsl_nil) (by omega)))) dbr_nil)
    (dbr_of fun i => (db_cons (ds_asg (de_tup (da_cons (de_fnO F_parts hr (de_var 0) (by omega)) (da_cons (de_fn F__law_inner hr (da_cons (de_var 0) da_nil) (by omega)) da_nil))) (dg_tup 2 rfl (dgs_cons (dg_name 3 nd) (dgs_cons (dg_name 4 nd) dgs_nil))))
      (db_cons (ds_ifc (dt_w (dw_or (dt_ne hr.units (de_lst (da_cons (de_fnX0 F_sort_of hr (da_cons (de_var 0) da_nil) (by omega)) (da_cons (de_fnKX0 K_sort_of hr (de_var 0) (by omega)) da_nil))) (de_repL (de_lst (da_cons (de_ix (de_fn F_tk hr (da_cons (de_var 0) (da_cons de_int da_nil)) (by omega)) de_int) da_nil)) de_int)) (dw_or1 (dt_ne hr.units (de_fn F_text_of hr (da_cons (de_var 0) da_nil) (by omega)) (de_fn F__law_text hr (da_cons (de_var 0) da_nil) (by omega)))))) (db_one (ds_ret de_bl)) db_nil)
      (db_two 5 (dn_fnX0 F_inner_of hr (de_var 0) (by omega)) (dn_fnX0 F_parts_of hr (de_var 0) (by omega))
        (dt_w (dw_or (dt_ne hr.units (de_var 5) (de_lst (da_cons (de_var 4) (da_cons (de_lc 6 (x := "said") rfl nd (di_seq (de_sortedD rfl B.sorted (da_cons (de_var 3) da_nil))) (blkOk_by (own := [("said", 6)]) (N := ["odd", "good", "found", "parts", "inner", "told", "said"]) (sc := defScope s__law_right) (by decide +kernel)) (fun _ _ _ _ _ => pg_name (i := 6) nd rfl (Or.inl rfl)) (fun _ _ _ _ _ => dts_nil) (fun _ _ _ _ _ => (de_dget (hu_of hr) (de_var 3) (de_var 6)))) da_nil)))) (dw_or1 (dt_ne hr.units (de_fnKX0 K_parts_of hr (de_var 0) (by omega)) (de_ix (de_var 5) de_int)))))
        (db_one (ds_ret de_bl))
        (db_one (ds_ret (de_and (de_eq hr.units (de_fnKX0 K_inner_of hr (de_var 0) (by omega)) (de_var 4)) (de_one (de_eq hr.units (de_len B.len (da_cons (de_fnX0 F_parts_of hr (da_cons (de_var 0) da_nil) (by omega)) da_nil)) (de_lenDD B.len (da_cons (de_var 3) da_nil)))))))
        nd)))))))), ?_⟩
  have big := line_big
  ((try dsimp only); refine rd_here rfl ?_; (try dsimp only))
  refine con1_C.mpr ⟨hok, ?_⟩
  ((try dsimp only); refine rd_here rfl ?_; (try dsimp only))
  refine con1_C.mpr ⟨hok.1, ?_⟩
  ((try dsimp only); refine rd_here rfl ?_; (try dsimp only))
  refine con1_C.mpr ⟨hok.1, ?_⟩
  ((try dsimp only); refine rd_here rfl ?_; (try dsimp only))
  refine con1_C.mpr ⟨hok.1, ?_⟩
  ((try dsimp only); refine rd_here rfl ?_; (try dsimp only))
  refine con1_C.mpr ⟨hok.1, ?_⟩
  refine ⟨by simp; omega, ?_⟩
  refine ⟨(· = false), ?_, fun e => (nomatch e), fun _ => ?_⟩
  · ((try dsimp only); refine rd_here rfl ?_; (try dsimp only))
    refine repr_four (isTerm d) (isName d) ?_
    ((try dsimp only); refine rd_here rfl ?_; (try dsimp only))
    ((try dsimp only); refine rd_here rfl ?_; (try dsimp only))
    refine ⟨by simp; omega, ?_⟩
    ((try dsimp only); refine rd_here rfl ?_; (try dsimp only))
    refine con1_C.mpr ⟨hok, ?_⟩
    refine ⟨by simp; omega, ?_⟩
    refine ⟨by decide, by decide, by simp, ?_⟩
    show _ ∧ _
    refine ⟨by simp; omega, ?_⟩
    show reprD [.lst [.bl (isTerm d), .bl (isTerm d), .bl (isName d), .bl (isName d)]] _
    refine repr_four (isTerm d) (isName d) ?_
    rw [neD_str, isB_bl]
    simp
  refine ⟨fun b _ => b = !isTerm d, ?_, fun j e => ?_, fun j e => ?_⟩
  · ((try dsimp only); refine rd_here rfl ?_; (try dsimp only))
    rfl
  · ((try dsimp only); refine rd_here rfl ?_; (try dsimp only))
    exact ⟨hT, d, rfl, hok, by simpa using e, hR⟩
  · have e : isTerm d = true := by simpa using e
    have hg := isTerm_good e
    have hl : Lay d := by
      rcases hok.2 with ⟨ks, vs, rfl⟩ | h
      · cases e
      · exact h
    obtain ⟨kk, m, ek, hm⟩ := id hg
    have hpl := partsL_len ek
    have hgp := parts_good hg
    have hlp := parts_lay hg hl
    have hil := inner_len (good_shape hg)
    have hsi : ∀ t ∈ innerOf d, Good 6 t ∧ Lay t := fun t ht => ⟨(good_inner hg t ht).up, inner_sub (good_shape hg) ht hl⟩
    have flat := good_flat hg
    ((try dsimp only); refine rd_here rfl ?_; (try dsimp only))
    refine ⟨hg, by simp; omega, ?_⟩
    rw [addParts_tab]
    ((try dsimp only); refine rd_here rfl ?_; (try dsimp only))
    refine con1_C.mpr ⟨good_shape hg, ?_⟩
    refine ⟨by simp; omega, ?_⟩
    simp only [tupD_tup, consD_cons]
    refine ⟨by simp, by simp, ?_⟩
    have noX : isTerm d = false → False := fun z => by rw [e] at z; cases z
    refine ⟨(· = false), ?_, fun e => (nomatch e), fun _ => ?_⟩
    · ((try dsimp only); refine rd_here rfl ?_; (try dsimp only))
      refine ⟨d, rfl, hok.1, fun _ => ?_, noX⟩
      ((try dsimp only); refine rd_here rfl ?_; (try dsimp only))
      refine ⟨d, rfl, hok.1, fun _ => ?_, noX⟩
      refine ⟨by simp; omega, ?_⟩
      ((try dsimp only); refine rd_here rfl ?_; (try dsimp only))
      refine tk_use rfl hok ?_
      rw [ek, kind_sort ek]
      refine (show ∀ Q : Dat → Prop, Q (.str kk) → ixD (kindD (some (kk, m))) (.int 0) Q from fun Q q => ?_) _ ?_
      · show someD (atI [Dat.str kk, .int (m : Nat)] 0) Q
        rw [show atI [Dat.str kk, .int (m : Nat)] 0 = some (.str kk) from rfl, someD_some]
        exact q
      refine ⟨by simp; omega, by decide, by decide, by simp, ?_⟩
      have ls : Lay (.lst [.str kk, .str kk]) := lay_lst.mpr fun x hx => by
        have : x = .str kk := by simpa using hx
        rw [this]
        exact sort_lay (kind_in ek (good_shape hg))
      refine neD_same ls (by simp [toP, toPs, PyData.depth, PyData.depthAll]) ?_
      rw [isB_bl, if_neg Bool.false_ne_true]
      ((try dsimp only); refine rd_here rfl ?_; (try dsimp only))
      refine con1_C.mpr ⟨⟨hok.1, e⟩, ?_⟩
      ((try dsimp only); refine rd_here rfl ?_; (try dsimp only))
      refine con1_C.mpr ⟨hg, ?_⟩
      rw [neD_str, isB_bl]
      simp
    ((try dsimp only); refine rd_here rfl ?_; (try dsimp only))
    refine ⟨flat.1, d, rfl, hok.1, fun _ => ⟨_, rfl, ?_⟩, noX⟩
    ((try dsimp only); refine rd_here rfl ?_; (try dsimp only))
    refine ⟨flat.1, d, rfl, hok.1, fun _ out ho => ⟨_, rfl, ?_⟩, noX⟩
    have hlo := inOrder_len ho
    have htl : (tabOf d).length ≤ 40 := by
      have q := addParts_len (n := 6) (l := []) (d := d)
      rw [addParts_tab] at q
      simp at q
      omega
    have hso : ∀ t ∈ out, Good 6 t ∧ Lay t := fun t ht => ⟨hgp t (inOrder_mem ho ht), hlp t (inOrder_mem ho ht)⟩
    obtain ⟨li, di⟩ := shaped_terms (n := 6) (by decide) hsi
    obtain ⟨lo, dO⟩ := shaped_terms (n := 6) (by decide) hso
    refine ⟨by omega, by omega, by simp [startS], (· = false), ?_, fun e => (nomatch e), fun _ => ?_⟩
    · ((try dsimp only); refine rd_here rfl ?_; (try dsimp only))
      ((try dsimp only); refine rd_here rfl ?_; (try dsimp only))
      ((try dsimp only); refine rd_here rfl ?_; (try dsimp only))
      have st : strTab (tabOf d) := tab_keys d
      obtain ⟨ek1, ek2⟩ := keysS_eq st
      have hkl : (keysS (tabOf d)).length < 64 := by
        have := congrArg List.length ek1
        simp at this
        omega
      refine (show ∀ Q : Dat → Prop, (∀ ys : List Str, ys.Perm (keysS (tabOf d)) → sortedS ys = true → Q (.lst (ys.map Dat.str))) → sortedD [dicP (tabOf d)] Q from fun Q q => ?_) _ fun zs hp hs => ?_
      · show someD (keyStrs ((tabOf d).map (·.1))) _
        rw [ek2, someD_some]
        exact ⟨hkl, q⟩
      rw [seqOf_lst]
      have hzl : zs.length < 64 := by rw [hp.length_eq]; exact hkl
      refine compF_map (f := fun x => (lookS (tabOf d) (strOr x)).getD .non) (fun x hx Q hQ => ?_) (by simp; omega) ?_
      · obtain ⟨z, hz, rfl⟩ := List.mem_map.mp hx
        ((try dsimp only); refine rd_here rfl ?_; (try dsimp only))
        ((try dsimp only); refine rd_here rfl ?_; (try dsimp only))
        have hm : (Sum.inr z : Key) ∈ (tabOf d).map (·.1) := by rw [ek1]; exact List.mem_map.mpr ⟨z, hp.mem_iff.mp hz, rfl⟩
        obtain ⟨v, ev⟩ := getK_mem hm
        show someD (getK ((tabOf d).map (·.1)) ((tabOf d).map (·.2)) (.inr z)) Q
        rw [ev, someD_some]
        have : (lookS (tabOf d) (strOr (.str z))).getD .non = v := by show (getK _ _ _).getD _ = v; rw [show strOr (.str z) = z from rfl, ev]; rfl
        rw [this] at hQ
        exact hQ
      · rw [List.nil_append, List.map_map]
        have eo : List.map ((fun x => (lookS (tabOf d) (strOr x)).getD .non) ∘ Dat.str) zs = out := inOrder_one ⟨zs, hp, hs, rfl⟩ ho
        rw [eo]
        refine ⟨by simp; omega, ?_⟩
        have l2 : Lay (.lst [.lst (innerOf d), .lst out]) := lay_lst.mpr fun x hx => by
          rcases List.mem_cons.mp hx with rfl | hx
          · exact li
          · rcases List.mem_cons.mp hx with rfl | hx
            · exact lo
            · cases hx
        refine neD_same l2 (Nat.le_trans (depth_lst (m := 42) fun x hx => ?_) (by decide)) ?_
        · rcases List.mem_cons.mp hx with rfl | hx
          · exact di
          · rcases List.mem_cons.mp hx with rfl | hx
            · exact dO
            · cases hx
        rw [isB_bl, if_neg Bool.false_ne_true]
        ((try dsimp only); refine rd_here rfl ?_; (try dsimp only))
        refine ⟨d, rfl, hok.1, fun _ out2 ho2 => ?_, noX⟩
        ((try dsimp only); refine rd_here rfl ?_; (try dsimp only))
        rw [inOrder_one ho2 ho]
        refine (show ∀ Q : Dat → Prop, Q (.lst out) → ixD (.lst [.lst (innerOf d), .lst out]) (.int 1) Q from fun Q q => ?_) _ ?_
        · show someD (atI [Dat.lst (innerOf d), .lst out] 1) Q
          rw [show atI [Dat.lst (innerOf d), .lst out] 1 = some (.lst out) from rfl, someD_some]
          exact q
        exact neD_same lo (by omega) rfl
    ((try dsimp only); refine rd_here rfl ?_; (try dsimp only))
    refine ⟨d, rfl, hok.1, fun _ => ?_, noX⟩
    ((try dsimp only); refine rd_here rfl ?_; (try dsimp only))
    refine eqD_same li (by omega) ?_
    rw [isB_bl, if_pos rfl]
    ((try dsimp only); refine rd_here rfl ?_; (try dsimp only))
    refine ⟨d, rfl, hok.1, fun _ out2 ho2 => ?_, noX⟩
    dsimp only [lenD]
    ((try dsimp only); refine rd_here rfl ?_; (try dsimp only))
    refine (show ∀ Q : Dat → Prop, Q (.int ((tabOf d).length : Nat)) → lenDD [dicP (tabOf d)] Q from fun Q q => ?_) _ ?_
    · show Q (.int (((tabOf d).map (·.1)).length : Nat))
      rw [List.length_map]
      exact q
    rw [eqD_int, inOrder_len ho2, decide_eq_true rfl]
    exact hR
end
end K01
namespace K01
open PySem PySem.Spec PyProof.Rows L2 DL
/-! ### an error told by its class -/
/-- what the written part says of the error's class, CB, and of a class within it, CT -/
structure ErrC (K : PySem.W.Frag) (mg : Str → Option Value) (CB CT : Addr) : Prop where
  isi : mg "isinstance" = none
  ve : mg "ValueError" = none
  mB : mg "BadValue" = some (.ref CB)
  mT : mg "BadText" = some (.ref CT)
  exc : ExcC K CB
  xf : XfC K CB
  no : PySem.W.findIn K (.ref CB) "what" = some none
  notT : PySem.W.kitOne K (.ref CB) (.ref CT) = some false
  isV : PySem.W.kitOne K (.ref CB) (.type "ValueError") = some true
def spClass (CB : Addr) : Sp := fun vs H Q E => ∃ (a dd : Addr) (fs : List (Str × V)) (v : V), vs = [.ref a] ∧ H a = some (errO a (.ref CB) (some dd)) ∧ H dd = some (.xd fs) ∧ fs.lookup ("what" : Str) = some v ∧ ∀ p, H p = none → Q (.ref p) (upd H p (.tup [.str "value", v]))
section
variable {P : Program} {w : World} {K : PySem.W.Frag} {mg : Str → Option Value} {base : Heap} {f f2 : Addr} {fd fd2 : FuncData} {k : Nat}
abbrev s__law_class : Stmt := topS 58
theorem sc__law_class : FnScope ["error"] ["error"] (defScope s__law_class) := ⟨rfl, rfl, rfl, by decide +kernel, rfl, by decide +kernel, by decide +kernel⟩
theorem ok_law_class {CB CT : Addr} (C : ErrC K mg CB CT) (F : Fun K "_law_class" "_law_class" s__law_class f fd) : FnOk P w K mg base CX0 (k + 1) f fd ["error"] (spClass CB) := by
  refine F.ok sc__law_class (fun vs H Q E ⟨a, dd, fs, v, e, _⟩ => by rw [e]; rfl) fun cdv A outer s H vs Q E hr h => ?_
  obtain ⟨a, dd, fs, v, rfl, ea, ed, el, q⟩ := h
  refine ⟨_, pss_cons (ps_if (pt_val (pe_callB call_isK (by rfl) C.isi (by decide +kernel) (pa_cons (pv 0) (pa_cons (pe_glob (v := .ref CT) (by rfl) C.mT rfl) pa_nil)))) pss_never pss_nil)
    (pss_cons (ps_if (pt_val (pe_callB call_isK (by rfl) C.isi (by decide +kernel) (pa_cons (pv 0) (pa_cons (pe_glob (v := .ref CB) (by rfl) C.mB rfl) pa_nil))))
      (pss_one (ps_ret (pe_ifExp (pt_val (pe_callB call_isK (by rfl) C.isi (by decide +kernel) (pa_cons (pv 0) (pa_cons (pe_bltn (v := .ty "ValueError") (by rfl) C.ve (by decide +kernel) rfl) pa_nil)))) (pe_tup (pa_cons pe_str (pa_cons (pe_xk (pv 0)) pa_nil))) pe_never))) pss_nil) pss_never), ?_⟩
  refine ⟨_, rfl, a, CB, dd, fs, .ref CT, .ref CT, false, rfl, ea, ed, C.exc, fun u r => r, C.notT, ?_⟩
  refine ⟨false, rfl, ?_⟩
  refine ⟨_, rfl, a, CB, dd, fs, .ref CB, .ref CB, true, rfl, ea, ed, C.exc, fun u r => r, by simp [PySem.W.kitOne], true, rfl, ?_⟩
  refine ⟨_, rfl, a, CB, dd, fs, .ty "ValueError", .type "ValueError", true, rfl, ea, ed, C.exc, fun u r => r, C.isV, true, rfl, ?_⟩
  refine ⟨_, rfl, a, CB, dd, fs, v, rfl, ea, C.xf, C.no, ed, el, show 2 ≤ sizeLine by decide, fun p np => q p np⟩
end
end K01
namespace K01
open PySem PySem.Spec PyProof.Rows L2 DL LamX
/-! ### a deed that is refused, told -/
structure ErrN (K : PySem.W.Frag) (mg : Str → Option Value) (CB CN : Addr) : Prop where
  mB : mg "BadValue" = some (.ref CB)
  mN : mg "NoFit" = some (.ref CN)
  any : PySem.W.exmAny K (.ref CB) [.ref CB, .ref CN] = some true
/-- what is wished of an error that a deed raises: told by its class -/
def eTold (CB : Addr) (Q : VK) : XK := fun cls d H' => ∃ (dd : Addr) (fs : List (Str × V)) (v : V), cls = .ref CB ∧ d = some dd ∧ H' dd = some (.xd fs) ∧ fs.lookup ("what" : Str) = some v ∧
  ∀ a p, H' a = none → upd H' a (errO a (.ref CB) (some dd)) p = none → Q (.ref p) (upd (upd H' a (errO a (.ref CB) (some dd))) p (.tup [.str "value", v]))
def TTk (CB : Addr) : (XK → Hp → VK → Prop) → Hp → VK → Prop := fun tl H Q => ∀ l, H l = none → ∀ R : VK, tl (eTold CB Q) (upd H l (.lst [])) R
abbrev s__law_told : Stmt := topS 59
theorem sc__law_told : FnScope ["deed", "error", "found", "e"] ["deed"] (defScope s__law_told) := ⟨rfl, rfl, rfl, by decide +kernel, rfl, by decide +kernel, by decide +kernel⟩
theorem told_reads {X : Cx} {CB CN g fC : Addr} {cdg : Value} {fdC : FuncData} {q : Str} {k : Nat} (N : ErrN X.K X.mg CB CN) (FC : FnOk X.prog X.w X.K X.mg X.base CX0 k fC fdC ["error"] (spClass CB)) (mC : X.mg "_law_class" = some (.ref fC)) (kC : PySem.W.keepIn X.K (.ref fC) = true) (bC : L2.Binds X.K fdC ["error"] [])
    (hr : ∀ s : Shared, Room k (X.A.deeper (envOfC "_law_told" (defScope s__law_told) s.heap.objs.size g cdg))) : GivesTo X ["deed", "error", "found", "e"] "_law_told" (defScope s__law_told) g cdg (defBody s__law_told) "deed" q (TTk CB) := by
  intro f c' s H Q tl act hc h
  have nd := sc__law_told.nd
  refine ⟨_, pss_cons (ps_set (i := 1) nd rfl (Or.inl rfl) pe_non rfl (.inr rfl)) (pss_cons (ps_set (i := 2) nd rfl (Or.inl rfl) (pe_lst pa_nil) rfl (.inr rfl))
    (pss_cons (ps_try_keep (c1 := .ref CB) (c2 := .ref CN) (i := 3) (tb := fun W D σ H => ∃ Ech : XK, (∀ cls d σ' H', Ech cls d H' → W cls d σ' H') ∧ σ[0]? = some (some (.ref f)) ∧ H c' = some (CodeO c' q) ∧ ∀ R : VK, tl Ech H R) rfl rfl rfl nd rfl rfl ⟨rfl, by decide, .inl N.mB⟩ ⟨rfl, by decide, .inl N.mN⟩
        (fun W pn xe tk _ => ⟨fun pins s' σ H' D I h' => ?_⟩) (fun a oe cls d pn _ _ => pss_one (ps_set (i := 1) nd rfl (Or.inl rfl) (pv 3) rfl (.inr rfl))))
      (pss_one (ps_ret (pe_ifExp (pt_cmp (pc_isN (pv 1))) pe_never (pe_call FC (hr s) (by rfl) mC kC bC .nil pass0 (pa_cons (pv 1) pa_nil))))))), ?_⟩
  · obtain ⟨Ech, hW, h1, h2, h3⟩ := h'
    exact (pss_one (ps_set (i := 2) nd rfl (Or.inl rfl) (pe_lst (pa_cons (act W pn xe Ech _ _ tk hW) pa_nil)) rfl (.inr rfl))).run pins s' σ H' D I ⟨h1, h2, h3 _⟩
  · refine ⟨show 0 ≤ sizeLine by decide, fun l hl => ?_⟩
    have hcl : upd H l (.lst []) c' = some (CodeO c' q) := by rw [upd_ne (ne_of_none hc hl)]; exact hc
    refine ⟨eTold CB Q, ?_, rfl, hcl, h l hl⟩
    rintro cls d σ' H' ⟨dd, fs, v, rfl, rfl, ed, el, hq⟩
    refine ⟨N.any, fun hlen a na => ?_⟩
    have h4 : σ'.length = 4 := hlen
    refine ⟨.ref a, by rw [List.getElem?_set_self (by omega)], ?_⟩
    have e1 : (((σ'.set 3 (some (V.ref a))).set 1 (some (V.ref a))).set 3 none)[1]? = some (some (V.ref a)) := by
      rw [List.getElem?_set_ne (by decide), List.getElem?_set_self (by simp; omega)]
    have ne : dd ≠ a := ne_of_none ed na
    refine ⟨.ref a, e1, false, rfl, .ref a, e1, a, dd, fs, v, rfl, upd_same, by rw [upd_ne ne]; exact ed, el, fun p np => hq a p na np⟩
end K01
namespace K01
open PySem PySem.Spec PyProof.Rows L2 DL LamX
/-! ### a refused deed told, as an expression of the state -/
def oneX (kd : Str) (d : Dat) : Dat := .tup [.str "value", .str kd]
section
variable {ι : Type} {G : Fam ι} {π : ι → Unit} {u : ι → Unit → ι}
/-- what the caller of _law_told must know -/
structure ToldC (P : Program) (w : World) (K : PySem.W.Frag) (mg : Str → Option Value) (base : Heap) (CB CN : Addr) (k : Nat) : Prop where
  N : ErrN K mg CB CN
  cls : ∃ f fd, FnOk P w K mg base CX0 k f fd ["error"] (spClass CB) ∧ mg "_law_class" = some (.ref f) ∧ PySem.W.keepIn K (.ref f) = true ∧ Binds K fd ["error"] []
  told : ∃ f fd, Fun K "_law_told" "_law_told" s__law_told f fd ∧ mg "_law_told" = some (.ref f) ∧ PySem.W.keepIn K (.ref f) = true ∧ Binds K fd ["deed"] []
theorem dr_told {CB CN c Pt : Addr} {q y z : Str} {k m n : Nat} {Q0 : Dat → (Dat → Prop) → Prop} {hm0} {ps : List Str} {params : Arguments} {scope : Scope} {p p1 p2 p3 lpos pos : Pos} (gs : GS G (tabSta Pt q) π u) (T : ToldC G.X.prog G.X.w G.X.K G.X.mg G.X.base CB CN k) (D : CalleeX G.X.prog G.X.w G.X.K G.X.mg G.X.base y k ps (conX CB Q0 hm0)) (TB : TabB G.X.base G.X.mg c Pt) (hcode : G.X.env.code = .ref c)
    (hr : Room m G.X.A) (hN : G.X.N[n]? = some z) (L : LamS G.X.env.scope scope) (hk : k + 2 ≤ m := by omega) (hq : G.X.env.qual ++ "<lambda>" = q := by rfl) (hg : Gl G.X "_law_told" := by rfl) (hgy : scope.names.lookup y = some .globalImplicit := by rfl) (hvz : scope.names.lookup z = some .free := by rfl)
    (hdy : (y == ("__debug__" : Str)) = false := by decide) (hdz : (z == ("__debug__" : Str)) = false := by decide) (hcz : (z == ("__classdict__" : Str)) = false := by decide)
    (hdef : defaultsOf params G.X.env = ([], []) := by rfl) (hbind : ∀ (q : Str) (cl : List (Str × Addr)) (pm cv ctv : Value), bindArgs (PySem.W.kla_fn "<lambda>" q params (.Call (.Name y p1) [.Name z p2] [] p3) scope cl pm cv ctv) ⟨[], []⟩ = pure [] := by intro _ _ _ _ _; rfl) :
    DR G (.Call (.Name "_law_told" p) [.Lambda params (.Call (.Name y p1) [.Name z p2] [] p3) scope lpos] [] pos) (fun ρ i P => rd ρ n fun d => Fine d ∧ isTerm d = false ∧ P (.tup [.str "value", .str "term"]) (u i ())) := by
  obtain ⟨fC, fdC, FC, mC, kC, bC⟩ := T.cls
  obtain ⟨g, fd, FT, mT, kT, bT⟩ := T.told
  obtain ⟨oc, od, kV, doc, pm, an, cdv, ct, osl, rfl, lk, hcd⟩ := FT.ex
  obtain ⟨fy, fdy, FY, mY, kY, bY⟩ := D.ex
  refine ⟨⟨_, pe_lamP (P := Pt) (k := k) (t := fun E => tCall (spD G.X.K (conX CB Q0 hm0)) [] E (tCons (tVar n) tNil)) hg mT kT lk hcd bT sc__law_told rfl (Or.inl rfl) (told_reads T.N FC mC kC bC fun s => Room.mono ((hr.mono hk).deeper _) (Nat.le_succ k)) TB hcode hq (hr.mono hk) L hdef hbind (fun A outer s H E f c' hr' => ?_), fun S σ H ρ i P Q g h q' => ?_⟩⟩
  · exact pe_call FY hr' hgy mY kY bY .nil (passes_call (takes_of rfl rfl rfl rfl) fun _ _ _ _ z => z) (pa_cons (pe_var hN (Or.inr (Or.inr hvz)) hdz hcz) pa_nil) hdy
  · obtain ⟨d, es, hfine, hno, hp⟩ := rd_inv h
    obtain ⟨v, ev, hv⟩ := g.slot_d es
    have SP : S Pt := g.sub Pt (gs.sub Pt rfl)
    have nP : ∀ a, ¬ S a → a ≠ Pt := fun a n e => n (by rw [e]; exact SP)
    refine ⟨gs.get i H g.wld, fun H1 eP T1 l hl R => ⟨v, ev, S, [d], fun a hs => ?_, ⟨v, [], rfl, hv.move fun a o n e => ⟨n, ?_⟩, rfl⟩, d, rfl, hfine, fun z => ?_, fun _ => ?_⟩⟩
    · obtain ⟨o, e⟩ := g.all a hs
      by_cases ha : a = Pt
      · obtain ⟨ps, h1, _⟩ := id T1
        exact ⟨_, by rw [ha, upd_ne (ne_of_none h1 hl)]; exact h1⟩
      · exact ⟨o, by rw [upd_ne (ne_of_none (eP a o ha e) hl)]; exact eP a o ha e⟩
    · have e1 := eP a o (nP a n) e
      rw [upd_ne (ne_of_none e1 hl)]; exact e1
    · rw [hno] at z; cases z
    · intro fs dd H2 ex nd ed en hd
      have hfs : ∃ v0 : V, fs = [(("what" : Str), v0)] ∧ v0 = V.str "term" := by
        cases fs with
        | nil => cases en
        | cons x fs =>
          cases fs with
          | cons _ _ => exact absurd (congrArg List.length en) (by simp [badX])
          | nil =>
            obtain ⟨x1, x2⟩ := x
            obtain ⟨v0, r0, e1, e2, e3⟩ := (hd : ∃ v r, [x2] = v :: r ∧ Dv G.X.K S H2 (.str "term") v ∧ DvL G.X.K S H2 [] r)
            injection e1 with e1 _
            have en' : [x1] = [(("what" : Str))] := en
            injection en' with en' _
            exact ⟨x2, by rw [show x1 = _ from en'], (show x2 = v0 from e1).trans e2⟩
      obtain ⟨v0, hfs, hv0⟩ := hfs
      subst hfs
      subst hv0
      refine ⟨dd, _, V.str "term", rfl, rfl, ed, rfl, fun a p0 na np => ?_⟩
      have no : ∀ b o, H1 b = some o → upd H2 a (errO a (.ref CB) (some dd)) b = some o := fun b o e1 => by
        have e2 := ex b o (by rw [upd_ne (ne_of_none e1 hl)]; exact e1)
        rw [upd_ne (ne_of_none e2 na)]; exact e2
      have on : ∀ b o, H1 b = some o → upd (upd H2 a (errO a (.ref CB) (some dd))) p0 (.tup [.str "value", .str "term"]) b = some o := fun b o e1 => by
        have e3 := no b o e1
        rw [upd_ne (ne_of_none e3 np)]; exact e3
      have stp : StpI G (u i ()) H (upd (upd H2 a (errO a (.ref CB) (some dd))) p0 (.tup [.str "value", .str "term"])) := gs.stp (j := ()) g.wld (fun b o nb e => on b o (eP b o nb e)) (T1.ext on)
      have fresh : H p0 = none := by
        cases e : H p0 with
        | none => rfl
        | some o =>
          have e3 : ∃ o', H1 p0 = some o' := by
            by_cases hb : p0 = Pt
            · obtain ⟨ps, h1, _⟩ := id T1
              exact ⟨_, by rw [hb]; exact h1⟩
            · exact ⟨o, eP p0 o hb e⟩
          obtain ⟨o', e3⟩ := e3
          have e4 := no p0 o' e3
          rw [np] at e4
          cases e4
      exact q' _ (.tup [.str "value", .str "term"]) _ _ stp ⟨p0, _, rfl, .inl ⟨g.fresh fresh, upd_same⟩, _, _, rfl, rfl, _, _, rfl, rfl, rfl⟩ hp
end
end K01
namespace K01
open PySem PySem.Spec PyProof.Rows L2 DL LamX
/-! ### what is no term is refused thrice -/
def IsTab (Pt : Addr) (q : Str) (st : Sta Unit) : Prop := st = tabSta Pt q
section
variable {P : Program} {w : World} {K : PySem.W.Frag} {mg : Str → Option Value} {base : Heap} {f f2 : Addr} {fd fd2 : FuncData} {k : Nat}
abbrev s__law_refused_right : Stmt := topS 71
theorem sc__law_refused_right : FnScope ["odd", "found"] ["odd"] (defScope s__law_refused_right) := ⟨rfl, rfl, rfl, by decide +kernel, rfl, by decide +kernel, by decide +kernel⟩
abbrev qRef : Str := (envOfC "_law_refused_right" (defScope s__law_refused_right) 0 0 .none).qual ++ "<lambda>"
theorem ok_law_refused_right {CB CN c Pt : Addr} {j : Nat} (hj : j + 3 ≤ k) (T : ToldC P w K mg base CB CN j) (D_sort_of : CalleeX P w K mg base "sort_of" j ["term"] (c_sort_of CB)) (D_inner_of : CalleeX P w K mg base "inner_of" j ["term"] (c_inner_of CB)) (D_parts_of : CalleeX P w K mg base "parts_of" j ["term"] (c_parts_of CB))
    (TB : TabB base mg c Pt) (hcode : ∀ kV doc pm an cdv ct, fd = PySem.W.fnOf "_law_refused_right" "_law_refused_right" (defArgs s__law_refused_right) (defBody s__law_refused_right) (defScope s__law_refused_right) .none kV doc pm an cdv ct → cdv = .ref c)
    (F : Fun K "_law_refused_right" "_law_refused_right" s__law_refused_right f fd) : FnOk P w K mg base CX0 (k + 1) f fd ["odd"] (spS K (conRefused (IsTab Pt qRef))) := by
  refine fn_pureSC F sc__law_refused_right (fun st i sl P ⟨_, d, e, _⟩ => by rw [e]; rfl) hcode fun A outer s H S hS st i0 h0 hf hr sl R hc => ?_
  have nd := sc__law_refused_right.nd
  obtain ⟨hT, d, rfl, hok, hno, hR⟩ := hc
  cases hT
  refine ⟨_, (dbr_cons (dsr_setOwn 1 (dar_cons (dr_told (n := 0) (gs_self hf) T D_sort_of TB rfl hr rfl (show LamS (defScope s__law_refused_right) _ from lamS_by (by decide +kernel)) (hk := by omega) (hq := rfl)) dar_nil) nd)
    (dbr_cons (dsr_append 1 (he := dr_told (n := 0) (gs_self hf) T D_inner_of TB rfl hr rfl (show LamS (defScope s__law_refused_right) _ from lamS_by (by decide +kernel)) (hk := by omega) (hq := rfl)))
    (dbr_cons (dsr_append 1 (he := dr_told (n := 0) (gs_self hf) T D_parts_of TB rfl hr rfl (show LamS (defScope s__law_refused_right) _ from lamS_by (by decide +kernel)) (hk := by omega) (hq := rfl)))
    (dbr_one (dsr_freeze (dsr_ret (dr_of fun i => de_eq hr.units (de_var 1) (de_repL (de_lst (da_cons (de_tup (da_cons de_str (da_cons de_str da_nil))) da_nil)) de_int)))))))), ?_⟩
  have big := line_big
  (repeat first | (refine rd_here rfl ?_) | (refine ownL_here rfl ?_) | (dsimp only))
  refine ⟨hok.1, hno, ?_⟩
  refine ⟨by simp; omega, ?_⟩
  (repeat first | (refine rd_here rfl ?_) | (refine ownL_here rfl ?_) | (dsimp only))
  refine ⟨hok.1, hno, ?_⟩
  refine ⟨by simp; omega, ?_⟩
  (repeat first | (refine rd_here rfl ?_) | (refine ownL_here rfl ?_) | (dsimp only))
  refine ⟨hok.1, hno, ?_⟩
  refine ⟨by simp; omega, ?_⟩
  refine rd_here rfl ?_
  refine ⟨by simp; omega, by simp; omega, by decide, by decide, by simp, ?_⟩
  have two : Lay (.tup [.str "value", .str "term"]) := (by decide +kernel : (toP (.tup [.str "value", .str "term"])).canLay0 = true)
  have e3 : (List.replicate (Int.toNat 3) [Dat.tup [Dat.str "value", Dat.str "term"]]).flatten = [Dat.tup [Dat.str "value", Dat.str "term"]] ++ [Dat.tup [Dat.str "value", Dat.str "term"]] ++ [Dat.tup [Dat.str "value", Dat.str "term"]] := rfl
  rw [e3]
  refine eqD_same (lay_lst.mpr fun x hx => ?_) (by simp [toP, toPs, PyData.depth, PyData.depthAll]) hR
  have : x = Dat.tup [Dat.str "value", Dat.str "term"] := by simpa using hx
  rw [this]
  exact two
end
end K01
namespace K01
open PySem PySem.Spec PyProof.Rows L2 DL LamX
/-! ### the law -/
theorem behind_len {b : Option (Int × Int)} {n : Nat} {r ts : List Dat} (h : behind b n r = some ts) : ts.length = n := by
  unfold behind at h
  split at h
  · split at h
    · rename_i z; cases h; exact z
    · cases h
  · split at h
    · split at h
      · rename_i z; cases h; exact z.1
      · cases h
    · cases h
theorem tm_bd : ∀ {n : Nat} {d : Dat}, Good n d → bd (2 * n) 4 d
  | 0, _, h => by obtain ⟨_, _, e, _⟩ := h; cases e
  | n + 1, d, h => by
    have hi := good_inner h
    have str_ok : ∀ (z : Str) (m : Nat), bd m 4 (.str z) := fun z m => bd_not fun ds e => by cases e
    have int_ok : ∀ (z : Int) (m : Nat), bd m 4 (.int z) := fun z m => bd_not fun ds e => by cases e
    have inner : ∀ {ss ts k}, shape d = some (ss, ts, k) → ∀ t ∈ ts, bd (2 * n) 4 t := fun {ss ts k} e t ht => tm_bd (hi t (by unfold innerOf; rw [e]; exact ht))
    have len3 := inner_len (good_shape h)
    rcases shape_cases (good_shape h) with ⟨nn, c, rfl, hn, hc, es⟩ | ⟨nn, ts, c, rfl, hn, hc, h1, h3, es⟩ | ⟨w, r, k, b, ss, ts, rfl, hn, hc, hw, hb, es⟩
    · obtain ⟨z, rfl⟩ := name_str hn
      refine bd_tup.mpr ⟨by simp, fun x hx => ?_⟩
      simp only [List.mem_cons, List.not_mem_nil, or_false] at hx
      rcases hx with rfl | rfl | rfl <;> exact str_ok _ _
    · obtain ⟨z, rfl⟩ := name_str hn
      refine bd_tup.mpr ⟨by simp, fun x hx => ?_⟩
      simp only [List.mem_cons, List.not_mem_nil, or_false] at hx
      rcases hx with rfl | rfl | rfl | rfl
      · exact str_ok _ _
      · exact str_ok _ _
      · exact bd_tup.mpr ⟨by omega, inner es⟩
      · exact str_ok _ _
    · have len3' : ts.length ≤ 3 := by unfold innerOf at len3; rw [es] at len3; exact len3
      have it : ∀ t ∈ ts, bd (2 * n + 1) 4 t := fun t ht => bd_up (inner es t ht) (by omega) (Nat.le_refl _)
      have l2 : ss.length ≤ 2 := (row_facts hw).2.2.1
      rcases behind_of hb with rfl | ⟨i, rfl⟩
      · refine bd_tup.mpr ⟨by simp only [List.length_cons]; omega, fun x hx => ?_⟩
        rcases List.mem_cons.mp hx with rfl | hx
        · exact str_ok _ _
        · exact it x hx
      · refine bd_tup.mpr ⟨?_, fun x hx => ?_⟩
        · have lb : ts.length = ss.length := behind_len hb
          simp only [List.length_cons]
          omega
        · rcases List.mem_cons.mp hx with rfl | hx
          · exact str_ok _ _
          · rcases List.mem_cons.mp hx with rfl | hx
            · exact int_ok _ _
            · exact it x hx
theorem dvl_ints {K : PySem.W.Frag} {S : Addr → Prop} {H : Hp} : ∀ {l : List Int} {vs : List V}, DvL K S H (l.map Dat.int) vs → vs = l.map V.int
  | [], _, e => e
  | x :: l, vs, e => by
    obtain ⟨v, r, rfl, h1, h2⟩ := (e : ∃ v r, vs = v :: r ∧ Dv K S H (.int x) v ∧ DvL K S H (l.map Dat.int) r)
    rw [List.map_cons, dvl_ints h2, dv_int h1]
theorem zip_back {α β : Type} : ∀ l : List (α × β), (l.map (·.1)).zip (l.map (·.2)) = l
  | [] => rfl
  | x :: l => by rw [List.map_cons, List.map_cons, List.zip_cons_cons, zip_back l]
def spLaw (K : PySem.W.Frag) (Pt : Addr) (q : Str) : Sp := fun vs H Q E => ∃ (ns : List Int) (v : V), vs = [v] ∧ ns.length ≤ 63 ∧ ScrOk K (fun x => x = Pt) H ns v ∧ TabS H Pt q ∧ ∀ H', Q (.bl true) H'
section
variable {P : Program} {w : World} {K : PySem.W.Frag} {mg : Str → Option Value} {base : Heap} {f f2 : Addr} {fd fd2 : FuncData} {k : Nat}
abbrev s_law : Stmt := topS 75
theorem sc_law : FnScope ["script", "m", "odds", "odd", "bout", "w", "it", "time"] ["script"] (defScope s_law) := ⟨rfl, rfl, rfl, by decide +kernel, rfl, by decide +kernel, by decide +kernel⟩
theorem ok_law {Pt : Addr} {q : Str} (B : Bt mg) (C_SORTS : CT K mg "SORTS" (.tup (sorts.map Dat.str))) (F_begun : CalleeL P w K mg base "_law_begun" k ["script"] conBegun) (F_leaves : Callee P w K mg base "_law_leaves" k [] (conK (.lst leavesL))) (F_edges : Callee P w K mg base "_law_edges" k [] (conK (.lst edgesL)))
    (F_far : Callee P w K mg base "_law_far" k [] (conK (.lst farL))) (F_farterms : Callee P w K mg base "_law_far_terms" k [] (conK (.lst farTermsL))) (F_right : CalleeSG P w K mg base "_law_right" k ["odd"] (conRight (IsTab Pt q))) (F_called : CalleeS P w K mg base "_law_called" k ["m", "top"] conCalled)
    (F_any : CalleeS P w K mg base "_law_any_term" k ["m", "w", "kind"] conAny) (F_kind : Callee P w K mg base "_law_kind" k ["k"] c_law_kind) (F_law_is_term : Callee P w K mg base "_law_is_term" k ["odd"] c_law_is_term) (F_bent : CalleeS P w K mg base "_law_bent" k ["m", "whole"] (conBent 16))
    (F : Fun K "law" "law" s_law f fd) : FnG P w K mg base CX0 (k + 1) f fd ["script"] (spLaw K Pt q) := by
  obtain ⟨oc, od, kV, doc, pm, an, cdv, ct, osl, rfl, lk, hcd⟩ := F.ex
  obtain ⟨fb, fdb, Fb, mb, kb, bb⟩ := F_begun.ex
  refine fnG_of lk hcd sc_law (fun vs H Q E ⟨ns, v, e, _⟩ => by rw [e]; rfl) fun A outer s H vs Q E hgd hr h => ?_
  obtain ⟨ns, v, rfl, hns, hsc, hT, hQ⟩ := h
  have nd := sc_law.nd
  refine ⟨_, (pss_cons (ps_set (i := 1) nd rfl (Or.inl rfl) (pe_call Fb hr (by rfl) mb kb bb .nil pass0 (pa_cons (pv 0) pa_nil)) rfl (.inr rfl)) pss_any).nox, ?_⟩
  refine ⟨v, rfl, fun x => x = Pt, [.scr ns], fun a e => ?_, ⟨v, [], rfl, hsc, rfl⟩, ns, rfl, hns, fun cells left h64 hcell hleft => fun vm H1 ex1 hd => ?_⟩
  · obtain ⟨ps, h1, _⟩ := id hT
    exact ⟨_, by rw [e]; exact h1⟩
  obtain ⟨a, kvs, rfl, na, ea, ek, hkv⟩ := dv_dic hd
  obtain ⟨vb, r1, er1, hb, hr1⟩ := (hkv : ∃ v r, kvs.map (·.2) = v :: r ∧ Dv K (fun x => x = Pt) H1 (.lst (cells.map Dat.int)) v ∧ DvL K (fun x => x = Pt) H1 [.lst (left.map Dat.int), .int 0] r)
  obtain ⟨vc, r2, rfl, hc, hr2⟩ := (hr1 : ∃ v r, r1 = v :: r ∧ Dv K (fun x => x = Pt) H1 (.lst (left.map Dat.int)) v ∧ DvL K (fun x => x = Pt) H1 [.int 0] r)
  obtain ⟨v0, r3, rfl, h0, hr3⟩ := (hr2 : ∃ v r, r2 = v :: r ∧ Dv K (fun x => x = Pt) H1 (.int 0) v ∧ DvL K (fun x => x = Pt) H1 [] r)
  cases (hr3 : r3 = [])
  cases dv_int h0
  obtain ⟨b, xb, rfl, nb, eb, hxb⟩ := dv_lst hb
  obtain ⟨c, xc, rfl, nc, ec, hxc⟩ := dv_lst hc
  have exb : xb = cells.map V.int := dvl_ints hxb
  have exc : xc = left.map V.int := dvl_ints hxc
  subst exb
  subst exc
  have ekv : kvs = [(.inr "cells", .ref b), (.inr "left", .ref c), (.inr "spot", .int (0 : Nat))] := by
    rw [← zip_back kvs, ek, er1]
    rfl
  subst ekv
  have ab : a ≠ b := fun z => by rw [z, eb] at ea; cases ea
  have ac : a ≠ c := fun z => by rw [z, ec] at ea; cases ea
  have bc : b ≠ c := fun z => by
    rw [z, ec] at eb
    have := congrArg List.length (HO.lst.inj (Option.some.inj eb))
    simp at this
    omega
  let st : Sta (Nat × Unit) := staAnd (drawSta a b c left.length) (tabSta Pt q)
  have hT1 : TabS H1 Pt q := hT.ext ex1
  have m0 : st.M (0, ()) H1 := ⟨⟨0, cells, left, Nat.le_refl _, h64, hcell, rfl, ea, eb, ec⟩, hT1⟩
  have hdis : ∀ x, (tabSta Pt q).fp x → ¬ (drawSta a b c left.length).fp x := fun x e z => by
    have e : x = Pt := e
    subst e
    rcases z with z | z | z
    · exact na z.symm
    · exact nb z.symm
    · exact nc z.symm
  have hS : ∀ x, st.fp x → ∃ o, H1 x = some o := fun x z => st.dom _ _ m0 x z
  have hf : ∀ x, st.fp x → st.fp x := fun _ z => z
  have hd : IsDraw (drawSta a b c left.length) (V.ref a) := ⟨a, b, c, _, ab, ac, bc, rfl, rfl⟩
  let X : Cx := (cxOf CX0 P w K mg base ["script", "m", "odds", "odd", "bout", "w", "it", "time"] "law" (defScope s_law) f cdv A outer s H E0).nox
  let G : Fam (Nat × Unit) := famAt X H1 st.fp hS st (0, ()) m0
  have gs : GS G st (fun i => i) (fun _ j => j) := gs_at hf
  have gD := gs.subS (sub_fst hdis)
  have gT := gs.subS (sub_snd hdis)
  have rest : ∃ T, DBR G (defBody s_law).tail T ∧ T { nx := fun _ _ => False, rt := fun d _ => d = .bl true } [.un, .raw (.ref a), .un, .un, .un, .un, .un, .un] (0, ()) := by
    refine ⟨_, (dbr_cons (dsr_of fun i => ds_set 2 (de_add (de_add (de_add (de_fn0 F_leaves hr (by omega)) (de_fn0 F_edges hr (by omega))) (de_fn0 F_far hr (by omega))) (de_fn0 F_farterms hr (by omega))) nd)
      (dbr_cons (dsr_forLst 3 PassesOwn.never rfl (dr_of fun i => de_add (de_var 2) (de_lst (da_cons de_str (da_cons de_str (da_cons de_str (da_cons de_str (da_cons de_str da_nil))))))) (dbr_one (dsr_if (dtr_not (dtr_val (dr_fnSG gT F_right hr hgd (dsl_d (dr_of fun i => de_var 3) dsl_nil) (by omega)))) (dbr_one (dsr_ret (dr_of fun i => de_bl))) dbr_nil)) nd)
      (dbr_cons (dsr_forRange 4 B.range PassesOwn.never rfl (dar_cons (dr_of fun i => de_int) dar_nil) (dbr_cons (dsr_set 5 (dr_fnS gD F_called hr (dsl_raw 1 (dsl_d (dr_of fun i => de_int) dsl_nil)) (by omega)) nd)
          (dbr_cons (dsr_set 6 (dr_fnS gD F_any hr (dsl_raw 1 (dsl_d (dr_of fun i => de_var 5) (dsl_d (dr_of fun i => de_fn F_kind hr (da_cons (de_var 4) da_nil) (by omega)) dsl_nil))) (by omega)) nd)
          (dbr_cons (dsr_if (dtr_w (dwr_or (dtr_of fun i => dt_not (dt_val (de_fn F_law_is_term hr (da_cons (de_var 6) da_nil) (by omega)))) (dwr_or1 (dtr_not (dtr_val (dr_fnSG gT F_right hr hgd (dsl_d (dr_of fun i => de_var 6) dsl_nil) (by omega))))))) (dbr_one (dsr_ret (dr_of fun i => de_bl))) dbr_nil)
          (dbr_one (dsr_forRange 7 B.range PassesOwn.never rfl (dar_cons (dr_of fun i => de_int) dar_nil) (dbr_cons (dsr_set 6 (dr_fnS gD F_bent hr (dsl_raw 1 (dsl_d (dr_of fun i => de_var 6) dsl_nil)) (by omega)) nd) (dbr_one (dsr_if (dtr_not (dtr_val (dr_fnSG gT F_right hr hgd (dsl_d (dr_of fun i => de_var 6) dsl_nil) (by omega)))) (dbr_one (dsr_ret (dr_of fun i => de_bl))) dbr_nil))) nd))))) nd)
      (dbr_one (dsr_ret (dr_of fun i => de_eq hr.units (de_ctup C_SORTS) (de_tup (da_cons de_str (da_cons de_str (da_cons de_str (da_cons de_str (da_cons de_str da_nil))))))))))))  , ?_⟩
    have big := line_big
    have l1 : leavesL.length ≤ 100 := by decide
    have l2 : edgesL.length ≤ 100 := by decide
    have l3 : farL.length ≤ 100 := by simp [farL]
    have l4 : farTermsL.length ≤ 100 := by simp [farTermsL]
    have oddsOk : ∀ d ∈ ((((leavesL ++ edgesL) ++ farL) ++ farTermsL) ++ [.str "x", .str "abcdef", .str "abcdefg", .str "a b", .str "A"]), LawOk d := fun d hd => by
      simp only [List.mem_append] at hd
      rcases hd with (((hd | hd) | hd) | hd) | hd
      · exact okB_law (leaves_ok d hd)
      · exact okB_law (edges_ok d hd)
      · exact far_ok d hd
      · exact okB_law (farTerms_ok d hd)
      · have : okBs [.str "x", .str "abcdef", .str "abcdefg", .str "a b", .str "A"] = true := by decide +kernel
        exact okB_law (okBs_all.mp this d hd)
    have at_ : ∀ {ρ : List DL.Slot} {n : Nat} {d : Dat}, ρ.length = 8 → n < 8 → (ρ.set n (.d d))[n]? = some (.d d) := fun {ρ n d} h hn => by rw [List.getElem?_set_self (by omega)]
    have keep1 : ∀ {ρ : List DL.Slot} {n : Nat} {d : Dat}, ρ[1]? = some (.raw (.ref a)) → n ≠ 1 → (ρ.set n (.d d))[1]? = some (.raw (.ref a)) := fun {ρ n d} h hn => by rw [List.getElem?_set_ne hn]; exact h
    refine ⟨rfl, rfl, by omega, rfl, by rw [List.length_append]; omega, rfl, by rw [List.length_append, List.length_append]; omega, ?_⟩
    refine ⟨fun items ρ j => (∀ d ∈ items, LawOk d) ∧ j.1 = 0 ∧ ρ[1]? = some (.raw (.ref a)) ∧ ρ.length = 8, ?_, fun ρ j hi => ?_, fun d ds ρ j hi => ?_⟩
    · refine rd_here rfl ?_
      exact ⟨by simp; omega, by simp; omega, oddsOk, rfl, rfl, rfl⟩
    · obtain ⟨_, hj, h1, h8⟩ := hi
      refine ⟨fun items ρ j => (∀ d ∈ items, ∃ z : Nat, d = .int (z : Nat)) ∧ j.1 + items.length * 3000000000000 ≤ 30000000000000 ∧ ρ[1]? = some (.raw (.ref a)) ∧ ρ.length = 8, ?_, fun ρ j hi => ?_, fun d ds ρ j hi => ?_⟩
      · refine ⟨⟨by decide, by decide⟩, fun d hd => ?_, ?_, h1, h8⟩
        · obtain ⟨z, _, rfl⟩ := List.mem_map.mp hd
          exact ⟨z, by rw [Int.zero_add]⟩
        · rw [hj]
          simp [rints]
      · obtain ⟨_, _, h1, h8⟩ := hi
        refine ⟨by simp; omega, ?_⟩
        show SeqAt.shaped _ = true ∧ SeqAt.shaped _ = true ∧ _
        refine ⟨by decide +kernel, by decide +kernel, ?_⟩
        show Dat.bl _ = Dat.bl true
        rw [show PyData.eqv (toP (.tup (sorts.map Dat.str))) (toP (.tup [.str "thing", .str "num", .str "tree", .str "set", .str "bits"])) = true from SeqAt.eqv_refl _ (by decide +kernel)]
      · obtain ⟨hz, hj, h1, h8⟩ := hi
        obtain ⟨z, rfl⟩ := hz d List.mem_cons_self
        rw [List.length_cons] at hj
        have b1 : (ρ.set 4 (.d (.int (z : Nat))))[1]? = some (.raw (.ref a)) := keep1 h1 (by decide)
        refine rdRaw_here b1 ?_
        refine ⟨.ref a, 20, hd, rfl, by decide, by unfold manyDraws; omega, fun ws j1 hwl hwn hj1 => ?_⟩
        refine rdRaw_here (keep1 b1 (by decide)) ?_
        refine rd_here (at_ (by rw [List.length_set]; exact h8) (by decide)) ?_
        refine rd_here (x := .int (z : Nat)) (by rw [List.getElem?_set_ne (by decide)]; exact at_ h8 (by decide)) ?_
        refine conE_use (args := fun a : Nat => [Dat.int (a : Nat)]) z trivial ?_
        refine ⟨.ref a, ws, _, hd, rfl, ⟨hwl, hwn⟩, kind_at z, by unfold manyDraws; show j1 + _ < _; omega, fun it m j2 htm hm hj2 => ?_⟩
        have hgood : Good 6 it := ⟨_, m, htm.1, hm⟩
        have hterm : isTerm it = true := good_isTerm hgood
        have hj2' : j2 ≤ j.1 + 2000000100000 := by
          have : j2 ≤ j1 + 2000000000000 := hj2
          omega
        have c1 : (((ρ.set 4 (.d (.int (z : Nat)))).set 5 (.d (.lst (ws.map Dat.str)))).set 6 (.d it))[1]? = some (.raw (.ref a)) := keep1 (keep1 b1 (by decide)) (by decide)
        have c8 : (((ρ.set 4 (.d (.int (z : Nat)))).set 5 (.d (.lst (ws.map Dat.str)))).set 6 (.d it)).length = 8 := by rw [List.length_set, List.length_set, List.length_set]; exact h8
        have c6 : (((ρ.set 4 (.d (.int (z : Nat)))).set 5 (.d (.lst (ws.map Dat.str)))).set 6 (.d it))[6]? = some (.d it) := at_ (by rw [List.length_set, List.length_set]; exact h8) (by decide)
        refine ⟨fun b j' => b = false ∧ j'.1 = j2, ?_, fun j' z => (nomatch z.1), fun j' z => ?_⟩
        · refine rd_here c6 ?_
          refine con1_C.mpr ⟨okB_law htm.2, ?_⟩
          rw [hterm, isB_bl]
          refine rd_here c6 ?_
          exact ⟨rfl, it, rfl, okB_law htm.2, rfl, rfl⟩
        · obtain ⟨_, hz'⟩ := z
          refine ⟨fun items ρ j' => (∃ it, ρ[6]? = some (.d it) ∧ okB it = true ∧ bd (15 - items.length) (7 - items.length) it) ∧ items.length ≤ 3 ∧ j'.1 + items.length * 160 ≤ j2 + 480 ∧ ρ[1]? = some (.raw (.ref a)) ∧ ρ.length = 8, ?_, fun ρ' j' hi => ?_, fun d' ds' ρ' j' hi => ?_⟩
          · refine ⟨⟨by decide, by decide⟩, ⟨it, c6, htm.2, ?_⟩, by decide, ?_, c1, c8⟩
            · exact bd_up (tm_bd hgood) (by decide) (by decide)
            · rw [hz']
              show j2 + 3 * 160 ≤ j2 + 480
              omega
          · obtain ⟨_, _, hj', d1, d8⟩ := hi
            refine ⟨fun x hx => hz x (List.mem_cons_of_mem _ hx), ?_, d1, d8⟩
            have : j'.1 ≤ j2 + 480 := by simpa using hj'
            omega
          · obtain ⟨⟨it', d6, hok', hbd'⟩, hlen', hj', d1, d8⟩ := hi
            rw [List.length_cons] at hlen' hj' hbd'
            refine rdRaw_here (keep1 d1 (by decide)) ?_
            refine rd_here (x := it') (by rw [List.getElem?_set_ne (by decide)]; exact d6) ?_
            refine ⟨.ref a, it', _, _, hd, rfl, hok', hbd', by omega, by omega, by unfold manyDraws; omega, fun r j3 hrok hrbd hj3 => ?_⟩
            have e8 : ((ρ'.set 7 (.d d')).set 6 (.d r)).length = 8 := by rw [List.length_set, List.length_set]; exact d8
            have e6 : ((ρ'.set 7 (.d d')).set 6 (.d r))[6]? = some (.d r) := at_ (by rw [List.length_set]; exact d8) (by decide)
            have e1 : ((ρ'.set 7 (.d d')).set 6 (.d r))[1]? = some (.raw (.ref a)) := keep1 (keep1 d1 (by decide)) (by decide)
            refine ⟨fun b j4 => b = false ∧ j4.1 = j3, ?_, fun j4 z => (nomatch z.1), fun j4 z => ?_⟩
            · refine rd_here e6 ?_
              exact ⟨rfl, r, rfl, okB_law hrok, rfl, rfl⟩
            · obtain ⟨_, hz3⟩ := z
              refine ⟨⟨r, e6, hrok, ?_⟩, by omega, ?_, e1, e8⟩
              · exact bd_up hrbd (by omega) (by omega)
              · show j4.1 + ds'.length * 160 ≤ j2 + 480
                rw [hz3]
                have : j3 ≤ j'.1 + 10 * 16 := hj3
                omega
    · obtain ⟨hok, hj, h1, h8⟩ := hi
      refine ⟨fun b j' => b = false ∧ j' = j, ?_, fun j' z => (nomatch z.1), fun j' z => ?_⟩
      · refine rd_here (at_ h8 (by decide)) ?_
        exact ⟨rfl, d, rfl, hok d List.mem_cons_self, rfl, rfl⟩
      · obtain ⟨_, rfl⟩ := z
        exact ⟨fun x hx => hok x (List.mem_cons_of_mem _ hx), hj, keep1 h1 (by decide), by rw [List.length_set]; exact h8⟩
  obtain ⟨T, ⟨t, hp, l⟩, hTT⟩ := rest
  refine ⟨t, hp, l st.fp _ H1 _ (0, ()) _ _ ⟨⟨ExF.refl _ _, m0⟩, hS, fun _ z => z, rfl, fun n sl hn => ?_, fun n n2 s1 s2 u h1 h2 o1 o2 e1 e2 => ?_⟩ hTT ⟨fun _ _ _ _ _ _ _ z => z.elim, fun u d H' j hw hd hz => ?_, fun _ _ _ _ _ _ _ z => z.elim, fun _ _ _ _ _ _ _ z => z.elim⟩⟩
  · match n, hn with
    | 0, hn => cases hn; exact trivial
    | 1, hn => cases hn; exact (rfl : V.ref a = V.ref a)
    | 2, hn => cases hn; exact trivial
    | 3, hn => cases hn; exact trivial
    | 4, hn => cases hn; exact trivial
    | 5, hn => cases hn; exact trivial
    | 6, hn => cases hn; exact trivial
    | 7, hn => cases hn; exact trivial
  · match n, h1 with
    | 0, h1 => cases h1; cases o1
    | 1, h1 => cases h1; cases o1
    | 2, h1 => cases h1; cases o1
    | 3, h1 => cases h1; cases o1
    | 4, h1 => cases h1; cases o1
    | 5, h1 => cases h1; cases o1
    | 6, h1 => cases h1; cases o1
    | 7, h1 => cases h1; cases o1
  · have hz : d = .bl true := hz
    subst hz
    have hu : u = .bl true := hd
    rw [hu]
    exact hQ H'
end
end K01
namespace K01
open PySem PySem.Spec PyProof.Rows L2 DL LamX
/-! ### a term of no depth is none -/
theorem dt_never {G : DL.Ctx} {e : Expr} : DT G e (fun _ _ => False) := ⟨⟨fun _ _ _ => False, ⟨fun _ _ _ _ _ _ h => h.elim⟩, fun _ _ _ _ _ _ _ h _ => h.elim⟩⟩
theorem dw_never {G : DL.Ctx} {e : Expr} : DW G e (fun _ _ => False) := ⟨⟨fun _ _ _ => False, ⟨fun _ _ _ _ _ _ _ h => h.elim⟩, fun _ _ _ _ _ _ _ h _ => h.elim⟩⟩
section
variable {P : Program} {w : World} {K : PySem.W.Frag} {mg : Str → Option Value} {base : Heap} {f f2 : Addr} {fd fd2 : FuncData} {k : Nat}
theorem ok_law_tk0 (F : Fun K "_law_term_kind" "_law_term_kind" s__law_term_kind f fd) : FnOk P w K mg base CX0 (k + 1) f fd ["odd", "deep"] (spD K (c_law_tk 0)) := by
  refine fn_pure F sc__law_term_kind (fun ds P X ⟨d, e, _⟩ => by rw [e]; rfl) fun cdv A outer s H S hS hr => ?_
  refine ⟨_, (db_cons (ds_ifc (dt_w (dw_or (dt_lt (de_var 1) de_int) dw_never)) (db_one (ds_ret de_non)) db_nil) db_never), ?_⟩
  rintro ds R X ⟨d, rfl, hok, h⟩
  refine ⟨(· = true), ?_, fun _ => h, fun e => (nomatch e)⟩
  ((try dsimp only); refine rd_here rfl ?_; (try dsimp only))
  rfl
end
end K01
namespace K01
open PySem PySem.Spec PyProof.Rows L2 DL LamX
/-! ### all defs together -/
abbrev Def (K : PySem.W.Frag) (mg : Str → Option Value) (x : Str) (st : Stmt) (ps : List Str) : Prop := ∃ f fd, At K mg x st ps f fd
abbrev DefK (K : PySem.W.Frag) (mg : Str → Option Value) (x : Str) (st : Stmt) (ps : List Str) : Prop := ∃ f fd, At K mg x st ps f fd ∧ KBinds K fd ps ps (fun us ws => us ++ ws) (fun vs zs => vs ++ zs)
section
variable {P : Program} {w : World} {K : PySem.W.Frag} {mg : Str → Option Value} {base : Heap} {f f2 : Addr} {fd fd2 : FuncData} {k j : Nat} {x : Str} {st : Stmt} {ps : List Str}
theorem def_c {C : Con} (D : Def K mg x st ps) (ok : ∀ {f fd}, Fun K x x st f fd → FnOk P w K mg base CX0 k f fd ps (spD K C)) : Callee P w K mg base x k ps C := by
  obtain ⟨f, fd, h⟩ := D
  exact ⟨f, fd, ok h.F, h.m, h.F.kp, h.b⟩
theorem def_s {κ : Type} {C : ConS κ} (D : Def K mg x st ps) (ok : ∀ {f fd}, Fun K x x st f fd → FnOk P w K mg base CX0 k f fd ps (spS K C)) : CalleeS P w K mg base x k ps C := by
  obtain ⟨f, fd, h⟩ := D
  exact ⟨f, fd, ok h.F, h.m, h.F.kp, h.b⟩
theorem def_l {C : ConL} (D : Def K mg x st ps) (ok : ∀ {f fd}, Fun K x x st f fd → FnOk P w K mg base CX0 k f fd ps (spL K C)) : CalleeL P w K mg base x k ps C := by
  obtain ⟨f, fd, h⟩ := D
  exact ⟨f, fd, ok h.F, h.m, h.F.kp, h.b⟩
theorem def_o {C : ConO} (D : Def K mg x st ps) (ok : ∀ {f fd}, Fun K x x st f fd → FnOk P w K mg base CX0 k f fd ps (spO K C)) : CalleeO P w K mg base x k ps C := by
  obtain ⟨f, fd, h⟩ := D
  exact ⟨f, fd, ok h.F, h.m, h.F.kp, h.b⟩
theorem def_x {C : Con} (D : Def K mg x st ps) (ok : ∀ {f fd}, Fun K x x st f fd → FnOk P w K mg base (L2.CX P w) k f fd ps (spD K C)) : CalleeX P w K mg base x k ps C := by
  obtain ⟨f, fd, h⟩ := D
  exact ⟨f, fd, ok h.F, h.m, h.F.kp, h.b⟩
theorem def_sg {κ : Type} {C : ConS κ} (D : Def K mg x st ps) (ok : ∀ {f fd}, Fun K x x st f fd → FnG P w K mg base CX0 k f fd ps (spS K C)) : CalleeSG P w K mg base x k ps C := by
  obtain ⟨f, fd, h⟩ := D
  exact ⟨f, fd, ok h.F, h.m, h.F.kp, h.b⟩
theorem def_k {CXT' : CXT} {C : Con} (D : DefK K mg x st ps) (ok : ∀ {f fd}, Fun K x x st f fd → FnOk P w K mg base CXT' k f fd ps (spD K C)) : CalleeK P w K mg base CXT' x k ps C := by
  obtain ⟨f, fd, h, hk⟩ := D
  exact ⟨f, fd, ok h.F, h.m, h.F.kp, hk⟩
theorem defk {x : Str} (D : DefK K mg x st ps) : Def K mg x st ps := by
  obtain ⟨f, fd, h, _⟩ := D
  exact ⟨f, fd, h⟩
theorem mono_s {κ : Type} {C : ConS κ} (h : CalleeS P w K mg base x j ps C) (hj : j ≤ k) : CalleeS P w K mg base x k ps C := by
  obtain ⟨f, fd, F, r⟩ := h.ex
  exact ⟨f, fd, F.mono hj, r⟩
theorem mono_l {C : ConL} (h : CalleeL P w K mg base x j ps C) (hj : j ≤ k) : CalleeL P w K mg base x k ps C := by
  obtain ⟨f, fd, F, r⟩ := h.ex
  exact ⟨f, fd, F.mono hj, r⟩
theorem mono_o {C : ConO} (h : CalleeO P w K mg base x j ps C) (hj : j ≤ k) : CalleeO P w K mg base x k ps C := by
  obtain ⟨f, fd, F, r⟩ := h.ex
  exact ⟨f, fd, F.mono hj, r⟩
theorem mono_x {C : Con} (h : CalleeX P w K mg base x j ps C) (hj : j ≤ k) : CalleeX P w K mg base x k ps C := by
  obtain ⟨f, fd, F, r⟩ := h.ex
  exact ⟨f, fd, F.mono hj, r⟩
theorem mono_k {CXT' : CXT} {C : Con} (h : CalleeK P w K mg base CXT' x j ps C) (hj : j ≤ k) : CalleeK P w K mg base CXT' x k ps C := by
  obtain ⟨f, fd, F, r⟩ := h.ex
  exact ⟨f, fd, F.mono hj, r⟩
theorem mono_sg {κ : Type} {C : ConS κ} (h : CalleeSG P w K mg base x j ps C) (hj : j ≤ k) : CalleeSG P w K mg base x k ps C := by
  obtain ⟨f, fd, F, r⟩ := h.ex
  exact ⟨f, fd, F.mono hj, r⟩
theorem no_s {κ : Type} {C : ConS κ} (h : ∀ st i sl P, ¬ C.C st i sl P) : FnOk P w K mg base CX0 k f fd ps (spS K C) :=
  ⟨fun vs H Q E ⟨_, _, _, _, _, _, _, _, hc⟩ => absurd hc (h _ _ _ _), fun A outer s H args us vs Q E _ _ _ _ ⟨_, _, _, _, _, _, _, _, hc⟩ => absurd hc (h _ _ _ _)⟩
theorem no_o {C : ConO} (h : ∀ d l P, ¬ C.C d l P) : FnOk P w K mg base CX0 k f fd ps (spO K C) :=
  ⟨fun vs H Q E ⟨_, _, _, _, _, _, _, _, _, _, _, _, hc⟩ => absurd hc (h _ _ _), fun A outer s H args us vs Q E _ _ _ _ ⟨_, _, _, _, _, _, _, _, _, _, _, _, hc⟩ => absurd hc (h _ _ _)⟩
theorem good0 {d : Dat} : ¬ Good 0 d := fun ⟨_, _, e, _⟩ => by cases e
end
/-- what is written, as the head tells it -/
structure Facts (w : World) (K : PySem.W.Frag) (mg : Str → Option Value) (CB Ct CN c Pt fI : Addr) (fdI : FuncData) : Prop where
  B : Bt mg
  SORTS : CT K mg "SORTS" (.tup (sorts.map Dat.str))
  MOST_LETTERS : CI mg "MOST_LETTERS" 6
  MOST_TERMS : CI mg "MOST_TERMS" 3
  TERM_DEEP : CI mg "TERM_DEEP" 6
  TERM_PARTS : CI mg "TERM_PARTS" 40
  TERM_WORDS : TW K w mg "TERM_WORDS" words
  ve : mg "ValueError" = none
  vV : PySem.W.findCls K (.type "ValueError") (.type "type") "__init__" = some (.val (.builtin "ValueError.__init__"))
  oex : OexC K CB
  mB : mg "BadValue" = some (.ref CB)
  noW : PySem.W.findIn K (.ref CB) "what" = some none
  ini : PySem.W.findIn K (.ref CB) "__init__" = some (some (.ref fI))
  tyI : PySem.W.typeIn K (.ref fI) = some (.type "function")
  FI : Fun K "__init__" "BadValue.__init__" s_init fI fdI
  bI : Binds K fdI ["self", "what"] []
  errC : ErrC K mg CB Ct
  errN : ErrN K mg CB CN
  has_word : Def K mg "has_word" s_has_word ["thing"]
  is_sort : Def K mg "is_sort" s_is_sort ["thing"]
  is_name : DefK K mg "is_name" s_is_name ["thing"]
  has_row : Def K mg "has_row" s_has_row ["thing", "bounds", "sorts"]
  sorts_in_call : Def K mg "sorts_in_call" s_sorts_in_call ["thing"]
  sorts_within : Def K mg "sorts_within" s_sorts_within ["thing"]
  inner_terms : Def K mg "inner_terms" s_inner_terms ["term"]
  term_sort : Def K mg "term_sort" s_term_sort ["term"]
  term_size : Def K mg "term_size" s_term_size ["thing", "sort", "deep", "room"]
  places_size : Def K mg "places_size" s_places_size ["places", "sorts", "deep", "room"]
  is_term : DefK K mg "is_term" s_is_term ["thing"]
  parts_in_order : Def K mg "parts_in_order" s_parts_in_order ["term"]
  in_brackets : Def K mg "in_brackets" s_in_brackets ["word", "numbers", "texts"]
  term_text : Def K mg "term_text" s_term_text ["term"]
  each_once : Def K mg "each_once" s_each_once ["texts", "things"]
  check_term : Def K mg "check_term" s_check_term ["thing"]
  sort_of : DefK K mg "sort_of" s_sort_of ["term"]
  inner_of : DefK K mg "inner_of" s_inner_of ["term"]
  parts_of : DefK K mg "parts_of" s_parts_of ["term"]
  text_of : Def K mg "text_of" s_text_of ["thing"]
  l_kind : Def K mg "_law_kind" s__law_kind ["k"]
  l_inner : Def K mg "_law_inner" s__law_inner ["it"]
  l_text : Def K mg "_law_text" s__law_text ["it"]
  l_is_name : Def K mg "_law_is_name" s__law_is_name ["odd"]
  l_fits : Def K mg "_law_fits" s__law_fits ["odd", "low", "high"]
  l_leaf_kind : Def K mg "_law_leaf_kind" s__law_leaf_kind ["odd"]
  l_kinds : Def K mg "_law_kinds" s__law_kinds []
  l_call_kind : Def K mg "_law_call_kind" s__law_call_kind ["odd", "deep"]
  l_term_kind : Def K mg "_law_term_kind" s__law_term_kind ["odd", "deep"]
  l_is_term : Def K mg "_law_is_term" s__law_is_term ["odd"]
  l_leaves : Def K mg "_law_leaves" s__law_leaves []
  l_edges : Def K mg "_law_edges" s__law_edges []
  l_far : Def K mg "_law_far" s__law_far []
  l_far_terms : Def K mg "_law_far_terms" s__law_far_terms []
  l_mixed : Def K mg "_law_mixed" s__law_mixed ["cell", "k"]
  l_draw : Def K mg "_law_draw" s__law_draw ["m", "top"]
  l_folded : Def K mg "_law_folded" s__law_folded ["script"]
  l_begun : Def K mg "_law_begun" s__law_begun ["script"]
  l_whole : Def K mg "_law_whole" s__law_whole ["m"]
  l_leaf : Def K mg "_law_leaf" s__law_leaf ["m", "w", "kind"]
  l_call : Def K mg "_law_call" s__law_call ["m", "w", "kind", "deep", "room"]
  l_term : Def K mg "_law_term" s__law_term ["m", "w", "kind", "deep", "room"]
  l_any_term : Def K mg "_law_any_term" s__law_any_term ["m", "w", "kind"]
  l_called : Def K mg "_law_called" s__law_called ["m", "top"]
  l_bent : Def K mg "_law_bent" s__law_bent ["m", "whole"]
  l_parts : Def K mg "_law_parts" s__law_parts ["it", "found"]
  l_class : Def K mg "_law_class" s__law_class ["error"]
  l_told : Def K mg "_law_told" s__law_told ["deed"]
  l_refused : ∃ f fd, At K mg "_law_refused_right" s__law_refused_right ["odd"] f fd ∧ ∀ kV doc pm an cdv ct, fd = PySem.W.fnOf "_law_refused_right" "_law_refused_right" (defArgs s__law_refused_right) (defBody s__law_refused_right) (defScope s__law_refused_right) .none kV doc pm an cdv ct → cdv = .ref c
  l_right : Def K mg "_law_right" s__law_right ["odd"]
section
variable {P : Program} {w : World} {K : PySem.W.Frag} {mg : Str → Option Value} {base : Heap} {f fI : Addr} {fd fdI : FuncData} {CB Ct CN c Pt : Addr}
theorem law_all (A : Facts w K mg CB Ct CN c Pt fI fdI) (TB : TabB base mg c Pt) (F : Fun K "law" "law" s_law f fd) : FnG P w K mg base CX0 40 f fd ["script"] (spLaw K Pt qRef) := by
  have has_word : Callee P w K mg base "has_word" 1 ["thing"] c_has_word := def_c A.has_word fun F => ok_has_word A.B F
  have is_sort : Callee P w K mg base "is_sort" 1 ["thing"] c_is_sort := def_c A.is_sort fun F => ok_is_sort A.B A.SORTS F
  have is_name : Callee P w K mg base "is_name" 1 ["thing"] c_is_name := def_c (defk A.is_name) fun F => ok_is_name A.B A.MOST_LETTERS F
  have is_nameK : CalleeK P w K mg base CX0 "is_name" 1 ["thing"] c_is_name := def_k A.is_name fun F => ok_is_name A.B A.MOST_LETTERS F
  have has_row : Callee P w K mg base "has_row" 1 ["thing", "bounds", "sorts"] c_has_row := def_c A.has_row fun F => ok_has_row A.B F
  have sorts_in_call : Callee P w K mg base "sorts_in_call" 2 ["thing"] c_sorts_in_call := def_c A.sorts_in_call fun F => ok_sorts_in_call A.B A.MOST_TERMS is_name is_sort F
  have sorts_within : Callee P w K mg base "sorts_within" 3 ["thing"] c_sorts_within := def_c A.sorts_within fun F => ok_sorts_within A.B A.TERM_WORDS (Callee.mono has_word (by omega)) (Callee.mono is_name (by omega)) (Callee.mono is_sort (by omega)) sorts_in_call (Callee.mono has_row (by omega)) F
  have inner_terms : Callee P w K mg base "inner_terms" 1 ["term"] c_inner_terms := def_c A.inner_terms fun F => ok_inner_terms A.B A.TERM_WORDS F
  have term_sort : Callee P w K mg base "term_sort" 1 ["term"] c_term_sort := def_c A.term_sort fun F => ok_term_sort A.B A.TERM_WORDS F
  have term_size : Callee P w K mg base "term_size" 17 ["thing", "sort", "deep", "room"] (c_term_size 7) := by
    obtain ⟨f1, fd1, h1⟩ := A.term_size
    obtain ⟨f2, fd2, h2⟩ := A.places_size
    exact (sizes_ok (k := 3) A.B A.TERM_DEEP A.TERM_PARTS sorts_within (Callee.mono term_sort (by omega)) (Callee.mono inner_terms (by omega)) h1 h2 7).1
  have is_term : Callee P w K mg base "is_term" 18 ["thing"] c_is_term := def_c (defk A.is_term) fun F => ok_is_term A.TERM_DEEP A.TERM_PARTS term_size F
  have is_termK : CalleeK P w K mg base CX0 "is_term" 18 ["thing"] c_is_term := def_k A.is_term fun F => ok_is_term A.TERM_DEEP A.TERM_PARTS term_size F
  have parts_in_order : ∀ n, Callee P w K mg base "parts_in_order" (n + 2) ["term"] (c_parts n) := fun n => by
    induction n with
    | zero => exact def_c A.parts_in_order fun F => fn_no fun _ _ _ ⟨_, _, h, _⟩ => good0 h
    | succ n ih => exact def_c A.parts_in_order fun F => ok_parts A.B (Callee.mono inner_terms (by omega)) ih F
  have in_brackets : Callee P w K mg base "in_brackets" 1 ["word", "numbers", "texts"] c_in_brackets := def_c A.in_brackets fun F => ok_in_brackets A.B F
  have term_text : ∀ n, Callee P w K mg base "term_text" (n + 2) ["term"] (c_text n) := fun n => by
    induction n with
    | zero => exact def_c A.term_text fun F => fn_no fun _ _ _ ⟨_, _, h, _⟩ => good0 h
    | succ n ih => exact def_c A.term_text fun F => ok_text A.B (Callee.mono inner_terms (by omega)) (Callee.mono in_brackets (by omega)) ih F
  have each_once : Callee P w K mg base "each_once" 1 ["texts", "things"] c_once := def_c A.each_once fun F => ok_each_once A.B F
  have bad : OwnX P w K mg base "BadValue" CB "what" 1 := ⟨A.oex, A.mB, A.noW, fI, fdI, _, A.ini, A.tyI, ok_init A.ve A.vV A.FI, A.bI⟩
  have check_term : CalleeX P w K mg base "check_term" 19 ["thing"] (c_check CB) := def_x A.check_term fun F => ok_check (k := 18) (j := 1) (by omega) is_term bad F
  have sort_of : CalleeX P w K mg base "sort_of" 20 ["term"] (c_sort_of CB) := def_x (defk A.sort_of) fun F => ok_sort_of check_term (Callee.mono term_sort (by omega)) F
  have sort_ofK : CalleeK P w K mg base (L2.CX P w) "sort_of" 20 ["term"] (c_sort_of CB) := def_k A.sort_of fun F => ok_sort_of check_term (Callee.mono term_sort (by omega)) F
  have inner_of : CalleeX P w K mg base "inner_of" 20 ["term"] (c_inner_of CB) := def_x (defk A.inner_of) fun F => ok_inner_of A.B check_term (Callee.mono inner_terms (by omega)) F
  have inner_ofK : CalleeK P w K mg base (L2.CX P w) "inner_of" 20 ["term"] (c_inner_of CB) := def_k A.inner_of fun F => ok_inner_of A.B check_term (Callee.mono inner_terms (by omega)) F
  have parts_of : CalleeX P w K mg base "parts_of" 20 ["term"] (c_parts_of CB) := def_x (defk A.parts_of) fun F => ok_parts_of A.B check_term (Callee.mono (parts_in_order 6) (by omega)) (Callee.mono (term_text 6) (by omega)) (Callee.mono each_once (by omega)) F
  have parts_ofK : CalleeK P w K mg base (L2.CX P w) "parts_of" 20 ["term"] (c_parts_of CB) := def_k A.parts_of fun F => ok_parts_of A.B check_term (Callee.mono (parts_in_order 6) (by omega)) (Callee.mono (term_text 6) (by omega)) (Callee.mono each_once (by omega)) F
  have text_of : Callee P w K mg base "text_of" 19 ["thing"] c_text_of := def_c A.text_of fun F => ok_text_of is_term (Callee.mono (term_text 6) (by omega)) F
  have l_kind : Callee P w K mg base "_law_kind" 1 ["k"] c_law_kind := def_c A.l_kind fun F => ok_law_kind F
  have l_inner : Callee P w K mg base "_law_inner" 1 ["it"] c_law_inner := def_c A.l_inner fun F => ok_law_inner A.B F
  have l_text : ∀ n, Callee P w K mg base "_law_text" (n + 2) ["it"] (c_text n) := fun n => by
    induction n with
    | zero => exact def_c A.l_text fun F => fn_no fun _ _ _ ⟨_, _, h, _⟩ => good0 h
    | succ n ih => exact def_c A.l_text fun F => ok_law_text A.B ih F
  have l_is_name : Callee P w K mg base "_law_is_name" 1 ["odd"] c_law_is_name := def_c A.l_is_name fun F => ok_law_is_name A.B F
  have l_fits : Callee P w K mg base "_law_fits" 1 ["odd", "low", "high"] c_law_fits := def_c A.l_fits fun F => ok_law_fits A.B F
  have l_leaf_kind : Callee P w K mg base "_law_leaf_kind" 2 ["odd"] c_law_leaf := def_c A.l_leaf_kind fun F => ok_law_leaf A.B l_is_name l_fits F
  have l_kinds : Callee P w K mg base "_law_kinds" 1 [] c_law_kinds := def_c A.l_kinds fun F => ok_law_kinds F
  have l_tk : ∀ n, Callee P w K mg base "_law_term_kind" (2 * n + 3) ["odd", "deep"] (c_law_tk n) := fun n => by
    induction n with
    | zero => exact def_c A.l_term_kind fun F => ok_law_tk0 F
    | succ n ih =>
      have call : Callee P w K mg base "_law_call_kind" (2 * n + 4) ["odd", "deep"] (c_law_call n) := def_c A.l_call_kind fun F => ok_law_call_kind A.B (Callee.mono l_is_name (by omega)) ih F
      exact def_c A.l_term_kind fun F => ok_law_term_kind (k := 2 * n + 4) A.B (Callee.mono l_leaf_kind (by omega)) call (Callee.mono l_kinds (by omega)) (Callee.mono l_fits (by omega)) (Callee.mono ih (by omega)) F
  have l_is_term : Callee P w K mg base "_law_is_term" 16 ["odd"] c_law_is_term := def_c A.l_is_term fun F => ok_law_is_term (l_tk 6) F
  have l_leaves : Callee P w K mg base "_law_leaves" 1 [] (conK (.lst leavesL)) := def_c A.l_leaves fun F => ok_law_leaves F
  have l_edges : Callee P w K mg base "_law_edges" 1 [] (conK (.lst edgesL)) := def_c A.l_edges fun F => ok_law_edges A.B F
  have l_far : Callee P w K mg base "_law_far" 1 [] (conK (.lst farL)) := def_c A.l_far fun F => ok_law_far A.B F
  have l_far_terms : Callee P w K mg base "_law_far_terms" 1 [] (conK (.lst farTermsL)) := def_c A.l_far_terms fun F => ok_law_far_terms A.B F
  have l_mixed : Callee P w K mg base "_law_mixed" 1 ["cell", "k"] conMix := def_c A.l_mixed fun F => ok_law_mixed F
  have l_draw : CalleeS P w K mg base "_law_draw" 2 ["m", "top"] conDraw := def_s A.l_draw fun F => ok_law_draw A.B l_mixed F
  have l_folded : CalleeL P w K mg base "_law_folded" 1 ["script"] conFold := def_l A.l_folded fun F => ok_law_folded A.B F
  have l_begun : CalleeL P w K mg base "_law_begun" 2 ["script"] conBegun := def_l A.l_begun fun F => ok_law_begun l_folded F
  have l_whole : CalleeS P w K mg base "_law_whole" 3 ["m"] conWhole := def_s A.l_whole fun F => ok_law_whole l_draw F
  have l_leaf : CalleeS P w K mg base "_law_leaf" 4 ["m", "w", "kind"] conLeaf := def_s A.l_leaf fun F => ok_law_leafg (mono_s l_draw (by omega)) l_whole F
  have l_term : ∀ D, CalleeS P w K mg base "_law_term" (2 * D + 3) ["m", "w", "kind", "deep", "room"] (conTerm D) := fun D => by
    induction D with
    | zero => exact def_s A.l_term fun F => no_s fun st i sl P ⟨_, _, _, _, _, deep, _, _, _, _, _, _, h1, h2, _⟩ => absurd h1 (by omega)
    | succ D ih =>
      have call : CalleeS P w K mg base "_law_call" (2 * D + 4) ["m", "w", "kind", "deep", "room"] (conCall D) := def_s A.l_call fun F => ok_law_call A.B (mono_s l_draw (by omega)) (Callee.mono l_kind (by omega)) ih F
      exact def_s A.l_term fun F => ok_law_term (k := 2 * D + 4) A.B (mono_s l_draw (by omega)) (mono_s l_whole (by omega)) (mono_s l_leaf (by omega)) call (mono_s ih (by omega)) F
  have l_any : CalleeS P w K mg base "_law_any_term" 16 ["m", "w", "kind"] conAny := def_s A.l_any_term fun F => ok_law_any_term (mono_s l_draw (by omega)) (l_term 6) F
  have l_called : CalleeS P w K mg base "_law_called" 3 ["m", "top"] conCalled := def_s A.l_called fun F => ok_law_called A.B l_draw F
  have l_bent : ∀ D, CalleeS P w K mg base "_law_bent" (D + 3) ["m", "whole"] (conBent D) := fun D => by
    induction D with
    | zero => exact def_s A.l_bent fun F => no_s fun st i sl P ⟨_, _, a, b, _, _, _, _, h, _⟩ => absurd h (by omega)
    | succ D ih => exact def_s A.l_bent fun F => ok_law_bent A.B (mono_s l_draw (by omega)) ih F
  have l_parts : ∀ n, CalleeO P w K mg base "_law_parts" (n + 4) ["it", "found"] (c_partsO n) := fun n => by
    induction n with
    | zero => exact def_o A.l_parts fun F => no_o fun d l P ⟨h, _⟩ => good0 h
    | succ n ih => exact def_o A.l_parts fun F => ok_law_parts (k := n + 4) (Callee.mono (l_text (n + 1)) (by omega)) (Callee.mono l_inner (by omega)) ih F
  have told : ToldC P w K mg base CB CN 20 := by
    obtain ⟨f1, fd1, h1⟩ := A.l_class
    obtain ⟨f2, fd2, h2⟩ := A.l_told
    exact ⟨A.errN, ⟨f1, fd1, (ok_law_class (k := 0) A.errC h1.F).mono (by omega), h1.m, h1.F.kp, h1.b⟩, ⟨f2, fd2, h2.F, h2.m, h2.F.kp, h2.b⟩⟩
  have l_refused : CalleeS P w K mg base "_law_refused_right" 24 ["odd"] (conRefused (IsTab Pt qRef)) := by
    obtain ⟨f1, fd1, h1, hc⟩ := A.l_refused
    exact ⟨f1, fd1, ok_law_refused_right (k := 23) (j := 20) (by omega) told sort_of inner_of parts_of TB hc h1.F, h1.m, h1.F.kp, h1.b⟩
  have l_right : CalleeSG P w K mg base "_law_right" 25 ["odd"] (conRight (IsTab Pt qRef)) := def_sg A.l_right fun F => ok_law_right (k := 24) (CB := CB) A.B (Callee.mono l_is_term (by omega)) (Callee.mono is_term (by omega)) (mono_k is_termK (by omega)) (Callee.mono is_name (by omega)) (mono_k is_nameK (by omega)) (Callee.mono l_is_name (by omega)) l_refused (mono_o (l_parts 6) (by omega)) (Callee.mono l_inner (by omega)) (mono_x sort_of (by omega)) (mono_k sort_ofK (by omega)) (Callee.mono (l_tk 6) (by omega)) (Callee.mono text_of (by omega)) (Callee.mono (l_text 6) (by omega)) (mono_x inner_of (by omega)) (mono_k inner_ofK (by omega)) (mono_x parts_of (by omega)) (mono_k parts_ofK (by omega)) F
  exact (ok_law (k := 25) A.B A.SORTS (mono_l l_begun (by omega)) (Callee.mono l_leaves (by omega)) (Callee.mono l_edges (by omega)) (Callee.mono l_far (by omega)) (Callee.mono l_far_terms (by omega)) l_right (mono_s l_called (by omega)) (mono_s l_any (by omega)) (Callee.mono l_kind (by omega)) (Callee.mono l_is_term (by omega)) (mono_s (l_bent 16) (by omega)) F).mono (by omega)
end
end K01
namespace K01
open PySem PySem.Spec PyProof.Rows L2 DL LamX
/-! ### facts of the head, each by its own words -/
section
variable {K : PySem.W.Frag} {h : Heap} {mg : Str → Option Value} {x : Str} {st : Stmt} {ps : List Str} {f : Addr} {oc kV doc pm cdv ct : Value} {od an : Option Addr} {osl : Array (Option Value)}
theorem mk_def (KX : K.In h) (G : h.Ns mainGlobals mg) (a : PySem.W.nsIn K mainGlobals x = some (some (.ref f))) (l : K.lookup f = some ⟨oc, od, .func (PySem.W.fnOf x x (defArgs st) (defBody st) (defScope st) .none kV doc pm an cdv ct), osl⟩) (c : PySem.W.codeIn K cdv x = true) (k : PySem.W.keepIn K (.ref f) = true)
    (b : ∀ (kV doc pm : Value) (an : Option Addr) (cdv ct : Value) (us : List Value), us.length = ps.length → bindArgs (PySem.W.fnOf x x (defArgs st) (defBody st) (defScope st) .none kV doc pm an cdv ct) ⟨us, []⟩ = pure (ps.zip us)) : Def K mg x st ps :=
  ⟨f, _, ⟨fun_mk l c k, PySem.W.mg_of KX G a, (fun_mk l c k).binds b⟩⟩
theorem mk_defK {p : Str} (KX : K.In h) (G : h.Ns mainGlobals mg) (a : PySem.W.nsIn K mainGlobals x = some (some (.ref f))) (l : K.lookup f = some ⟨oc, od, .func (PySem.W.fnOf x x (defArgs st) (defBody st) (defScope st) .none kV doc pm an cdv ct), osl⟩) (c : PySem.W.codeIn K cdv x = true) (k : PySem.W.keepIn K (.ref f) = true)
    (b : ∀ (kV doc pm : Value) (an : Option Addr) (cdv ct : Value) (u : Value), bindArgs (PySem.W.fnOf x x (defArgs st) (defBody st) (defScope st) .none kV doc pm an cdv ct) ⟨[u], []⟩ = pure [(p, u)] ∧ bindArgs (PySem.W.fnOf x x (defArgs st) (defBody st) (defScope st) .none kV doc pm an cdv ct) ⟨[], [(p, u)]⟩ = pure [(p, u)]) : DefK K mg x st [p] := by
  refine ⟨f, _, ⟨fun_mk l c k, PySem.W.mg_of KX G a, (fun_mk l c k).binds fun kV doc pm an cdv ct us hl => ?_⟩, ⟨fun s us ws _ hl => ?_, fun r1 r2 => ?_⟩⟩
  · match us, hl with
    | [u], _ => exact (b kV doc pm an cdv ct u).1
  · match us, ws, hl with
    | [u], [], _ => exact .of_eq (b kV doc pm an cdv ct u).1
    | [], [u], _ => exact .of_eq (b kV doc pm an cdv ct u).2
  · exact r1.append r2
theorem mk_ci {i : Int} {t : Tok} (KX : K.In h) (G : h.Ns mainGlobals mg) (a : PySem.W.nsIn K mainGlobals x = some (some (.int i t))) : CI mg x i := ⟨t, PySem.W.mg_of KX G a⟩
end
end K01
namespace K01
open PySem PySem.Spec PyProof.Rows L2 DL LamX
/-! ### what is written, read out of what is held of the top -/
def allOf (f : Value → Option Dat) : List Value → Option (List Dat)
  | [] => some []
  | v :: r => match f v, allOf f r with
    | some d, some ds => some (d :: ds)
    | _, _ => none
def datOf (K : PySem.W.Frag) : Nat → Value → Option Dat
  | 0, _ => none
  | n + 1, v => match v with
    | .int i _ => some (.int i)
    | .str s _ => some (.str s)
    | .ref a => match K.lookup a with
      | some ⟨.type t, _, .seq its _, _⟩ => if t = "tuple" ∧ its.size ≤ 1000 then (allOf (datOf K n) its.toList).map Dat.tup else none
      | _ => none
    | _ => none
section
variable {K : PySem.W.Frag}
theorem allOf_ok {f : Value → Option Dat} (hf : ∀ v d, f v = some d → ∃ x, RelV x v ∧ ∀ S H, Dv K S H d x) : ∀ {l : List Value} {ds : List Dat}, allOf f l = some ds → ∃ xs, Vals xs l ∧ ∀ S H, DvL K S H ds xs
  | [], ds, e => by cases e; exact ⟨[], .nil, fun _ _ => rfl⟩
  | v :: r, ds, e => by
    rw [allOf] at e
    split at e
    · rename_i d ds' e1 e2
      cases e
      obtain ⟨x, r1, h1⟩ := hf v d e1
      obtain ⟨xs, r2, h2⟩ := allOf_ok hf e2
      exact ⟨x :: xs, .cons r1 r2, fun S H => ⟨x, xs, rfl, h1 S H, h2 S H⟩⟩
    · cases e
theorem datOf_ok : ∀ {n : Nat} {v : Value} {d : Dat}, datOf K n v = some d → ∃ x, RelV x v ∧ ∀ S H, Dv K S H d x
  | 0, _, _, e => by cases e
  | n + 1, v, d, e => by
    cases v with
    | int i t => rw [datOf] at e; cases e; exact ⟨.int _, ⟨_, rfl⟩, fun _ _ => rfl⟩
    | str i t => rw [datOf] at e; cases e; exact ⟨.str _, ⟨_, rfl⟩, fun _ _ => rfl⟩
    | ref a =>
      have e' : (match K.lookup a with
        | some ⟨.type t, _, .seq its _, _⟩ => if t = "tuple" ∧ its.size ≤ 1000 then (allOf (datOf K n) its.toList).map Dat.tup else none
        | _ => none) = some d := e
      split at e'
      · rename_i t od its m sl hl
        split at e'
        · rename_i hc
          obtain ⟨ht, hz⟩ := hc
          subst ht
          cases ea : allOf (datOf K n) its.toList with
          | none => rw [ea] at e'; cases e'
          | some ds =>
            rw [ea] at e'
            cases e'
            obtain ⟨xs, hv, hd⟩ := allOf_ok (fun v d => datOf_ok) ea
            exact ⟨.ref a, rfl, fun S H => ⟨a, xs, rfl, .inr ⟨_, its, m, hl, rfl, rfl, Nat.le_trans hz (by decide), hv⟩, hd S H⟩⟩
        · cases e'
      · cases e'
    | _ => cases e
theorem datOf_ref {n : Nat} {a : Addr} {d : Dat} (h : datOf K n (.ref a) = some d) (S : Addr → Prop) (H : Hp) : Dv K S H d (.ref a) := by
  obtain ⟨x, r, hd⟩ := datOf_ok h
  have e : x = .ref a := by
    cases x with
    | ref b => exact congrArg V.ref (Value.ref.inj (show Value.ref a = Value.ref b from r)).symm
    | non => cases (r : Value.ref a = Value.none)
    | bl b => cases (r : Value.ref a = Value.bool b)
    | int i => obtain ⟨t, z⟩ := (r : ∃ t, Value.ref a = Value.int i t); cases z
    | str i => obtain ⟨t, z⟩ := (r : ∃ t, Value.ref a = Value.str i t); cases z
    | byt i => obtain ⟨t, z⟩ := (r : ∃ t, Value.ref a = Value.bytes i t); cases z
    | flt i => obtain ⟨t, z⟩ := (r : ∃ t, Value.ref a = Value.float i t); cases z
    | ty i => cases (r : Value.ref a = Value.type i)
  rw [← e]
  exact hd S H
def rowsOf (K : PySem.W.Frag) : List DictEntry → Option (List (Str × Dat))
  | [] => some []
  | e :: r => match e.key, datOf K 4 e.val, rowsOf K r with
    | .str x _, some d, some l => some ((x, d) :: l)
    | _, _, _ => none
theorem rows_ok : ∀ {es : List DictEntry} {rows : List (Str × Dat)}, rowsOf K es = some rows → es.any (·.refKey) = false ∧ ∀ z : Str, match es.find? (·.key.isStr z) with
    | some e => ∃ d, datOf K 4 e.val = some d ∧ rows.find? (fun p => decide (p.1 = z)) = some (z, d)
    | none => rows.find? (fun p => decide (p.1 = z)) = none
  | [], rows, e => by cases e; exact ⟨rfl, fun z => rfl⟩
  | e0 :: es, rows, e => by
    rw [rowsOf] at e
    split at e
    · rename_i x t d l e1 e2 e3
      cases e
      obtain ⟨h1, h2⟩ := rows_ok e3
      refine ⟨?_, fun z => ?_⟩
      · rw [List.any_cons, h1]
        have : e0.refKey = false := by
          unfold DictEntry.refKey
          rw [e1]
        rw [this]
        rfl
      · by_cases hz : x = z
        · subst hz
          have hs : e0.key.isStr x = true := by rw [e1]; simp [Value.isStr]
          rw [List.find?_cons_of_pos (by simpa using hs)]
          exact ⟨d, e2, by rw [List.find?_cons_of_pos (by simp)]⟩
        · have hs : e0.key.isStr z = false := by rw [e1]; simp [Value.isStr, hz]
          rw [List.find?_cons_of_neg (by simp [hs])]
          have q := h2 z
          rw [List.find?_cons_of_neg (by simp [hz])]
          exact q
    · cases e
/-- the words' table out of what is written -/
theorem mk_tw {h : Heap} {mg : Str → Option Value} {w : World} {d : Addr} {es : Array DictEntry} {n : Nat} {x : Str} (KX : K.In h) (G : h.Ns mainGlobals mg) (a : PySem.W.nsIn K mainGlobals x = some (some (.ref d))) (l : K.lookup d = some ⟨.type "dict", none, .dict es n, #[]⟩) (lit : PySem.W.KeysLit w.params es.toList) (low : (d == sysModules) = false)
    (hr : rowsOf K es.toList = some (table.map fun p => (p.1, rowD p.2))) : TW K w mg x words := by
  obtain ⟨h1, h2⟩ := rows_ok hr
  refine ⟨d, fun z => (es.toList.find? (·.key.isStr z)).map (·.val), ⟨⟨es, n, l, lit, low⟩, fun z => ?_⟩, fun z => ?_, PySem.W.mg_of KX G a⟩
  · unfold PySem.W.nsIn
    rw [l]
    simp only
    cases es.toList.find? (·.key.isStr z) with
    | some e => rfl
    | none => simp only [h1]; rfl
  · have q := h2 z
    have ew : words z = ((table.map fun p => (p.1, rowD p.2)).find? (fun p => decide (p.1 = z))).map (·.2) := by
      unfold words row
      rw [List.find?_map, Option.map_map, Option.map_map]
      rfl
    rw [ew]
    dsimp only
    cases e : es.toList.find? (·.key.isStr z) with
    | some e1 =>
      rw [e] at q
      obtain ⟨dd, q1, q2⟩ := q
      rw [q2]
      exact datOf_ok q1
    | none =>
      rw [e] at q
      rw [show (table.map fun p => (p.1, rowD p.2)).find? (fun p => decide (p.1 = z)) = none from q]
      exact trivial
theorem mk_ct {h : Heap} {mg : Str → Option Value} {a : Addr} {x : Str} {d : Dat} (KX : K.In h) (G : h.Ns mainGlobals mg) (e : PySem.W.nsIn K mainGlobals x = some (some (.ref a))) (hd : datOf K 4 (.ref a) = some d) : CT K mg x d := ⟨a, PySem.W.mg_of KX G e, fun S H => datOf_ref hd S H⟩
end
end K01
namespace K01
open PySem PySem.Spec PyProof.Rows L2 DL LamX
/-! ### the law's promise at the head -/
theorem scr_of {K : PySem.W.Frag} {a T : Addr} {vs : List Value} {ns : List Int} {H : Hp} (O : OnlyTS K a T vs ns H) : ScrOk K (fun x => x = T) H ns (.ref a) := by
  rcases O.scr with h | h
  · refine ⟨a, rfl, .inl ⟨fun e => ?_, h⟩⟩
    have e : a = T := e
    subst e
    rcases h with h | ⟨o, h⟩
    · rw [O.tab] at h; cases h
    · rw [O.tab] at h; cases h
  · exact ⟨a, rfl, .inr h⟩
theorem law_at {l : PySem.W.OpenLaw} {w : World} {K : PySem.W.Frag} {mg : Str → Option Value} {CB Ct CN c Pt fI fa : Addr} {fdI fd : FuncData} {h : Heap} (A : Facts w K mg CB Ct CN c Pt fI fdI) (F : Fun K "law" "law" s_law fa fd) (b : ∀ (s : Shared) (u : Value), BindsTo s fd ⟨[u], []⟩ [("script", u)]) (hT : h.get? Pt = some { cls := .none, data := .fields #[] }) (nT : K.lookup Pt = none) (C : PySem.W.CodeHd h c Pt) :
    LawAtG l w K 40 63 "script" mg fa h :=
  ⟨fd, c, Pt, spLaw K Pt qRef, hT, nT, C, b, fun H a vs ns hn O => ⟨ns, .ref a, rfl, hn, scr_of O, TabS.nil O.tab, fun _ => rfl⟩, fun base _ _ TB => law_all A TB F⟩
end K01
namespace K01
open PySem PySem.Spec PyProof.Rows L2 DL LamX
section
variable {K : PySem.W.Frag} {h : Heap} {mg : Str → Option Value} {x : Str} {st : Stmt} {ps : List Str} {f : Addr} {oc kV doc pm cdv ct : Value} {od an : Option Addr} {osl : Array (Option Value)}
theorem mk_refused {c : Addr} (KX : K.In h) (G : h.Ns mainGlobals mg) (a : PySem.W.nsIn K mainGlobals "_law_refused_right" = some (some (.ref f))) (l : K.lookup f = some ⟨oc, od, .func (PySem.W.fnOf "_law_refused_right" "_law_refused_right" (defArgs s__law_refused_right) (defBody s__law_refused_right) (defScope s__law_refused_right) .none kV doc pm an (.ref c) ct), osl⟩)
    (cc : PySem.W.codeIn K (.ref c) "_law_refused_right" = true) (k : PySem.W.keepIn K (.ref f) = true) : ∃ f fd, At K mg "_law_refused_right" s__law_refused_right ["odd"] f fd ∧ ∀ kV doc pm an cdv ct, fd = PySem.W.fnOf "_law_refused_right" "_law_refused_right" (defArgs s__law_refused_right) (defBody s__law_refused_right) (defScope s__law_refused_right) .none kV doc pm an cdv ct → cdv = .ref c :=
  ⟨f, _, ⟨fun_mk l cc k, PySem.W.mg_of KX G a, (fun_mk l cc k).binds fun _ _ _ _ _ _ us hl => match us, hl with | [_], _ => rfl⟩, fun _ _ _ _ _ _ e => (congrArg FuncData.code e).symm⟩
theorem mk_oex {C : Addr} {nm q : Str} {N : Addr} {bs bm sn} {sub ab col dd k0 k1 k2 k3 k5} (l : K.lookup C = some (excClassObj nm q C N bs bm true sn sub ab col dd k0 k1 k2 k3 k5 "ValueError.__new__")) (r : PySem.HandSPX.refsVE bm = true) (sa : PySem.W.findIn K (.ref C) "__setattr__" = some (some (.builtin "object.__setattr__")))
    (e : PySem.W.subIn K (.ref C) (.type "BaseException") = some true) (t : PySem.W.typeIn K (.ref C) = some (.type "type")) (k : PySem.W.keepIn K (.ref C) = true) : OexC K C := ⟨⟨_, _, _, _, _, _, _, _, _, _, _, _, _, _, _, l, r⟩, sa, e, t, k⟩
theorem mk_bt (KX : K.In h) (G : h.Ns mainGlobals mg) (a : ∀ x ∈ (["type", "tuple", "str", "int", "list", "len", "min", "zip", "range", "all", "sorted", "dict", "isinstance", "bool", "repr", "enumerate"] : List Str), PySem.W.nsIn K mainGlobals x = some none) : Bt mg := by
  have g : ∀ x ∈ (["type", "tuple", "str", "int", "list", "len", "min", "zip", "range", "all", "sorted", "dict", "isinstance", "bool", "repr", "enumerate"] : List Str), mg x = none := fun x hx => PySem.W.mg_none_of KX G (a x hx)
  constructor <;> exact g _ (by decide)
theorem mk_law {fa f0 : Addr} (KX : K.In h) (G : h.Ns mainGlobals mg) (hmg : mg "law" = some (.ref fa)) (a : PySem.W.nsIn K mainGlobals "law" = some (some (.ref f0))) (l : K.lookup f0 = some ⟨oc, od, .func (PySem.W.fnOf "law" "law" (defArgs s_law) (defBody s_law) (defScope s_law) .none kV doc pm an cdv ct), osl⟩) (c : PySem.W.codeIn K cdv "law" = true) (k : PySem.W.keepIn K (.ref f0) = true) :
    ∃ fd, Fun K "law" "law" s_law fa fd ∧ ∀ (s : Shared) (u : Value), BindsTo s fd ⟨[u], []⟩ [("script", u)] := by
  have e : fa = f0 := Value.ref.inj (Option.some.inj (hmg.symm.trans (PySem.W.mg_of KX G a)))
  subst e
  exact ⟨_, fun_mk l c k, fun s u => .of_eq rfl⟩
theorem mk_er {C Ct Cn : Addr} (KX : K.In h) (G : h.Ns mainGlobals mg) (a : PySem.W.nsIn K mainGlobals "BadValue" = some (some (.ref C))) (b : PySem.W.nsIn K mainGlobals "BadText" = some (some (.ref Ct))) (c : PySem.W.nsIn K mainGlobals "NoFit" = some (some (.ref Cn))) (n : PySem.W.kitOne K (.ref C) (.ref Ct) = some false) (v : PySem.W.kitOne K (.ref C) (.type "ValueError") = some true)
    (x : PySem.W.exmAny K (.ref C) [.ref C, .ref Cn] = some true) (f : PySem.W.findCls K (.type "ValueError") (.type "type") "__init__" = some (.val (.builtin "ValueError.__init__"))) (hg : PySem.W.findIn K (.ref C) "__getattribute__" = some (some (.builtin "BaseException.__getattribute__"))) (hk : PySem.W.findIn K (.ref C) "__getattr__" = some none)
    (hs : PySem.W.subIn K (.ref C) (.type "BaseException") = some true) (hd : PySem.W.hasDictIn K C = true) (ha : PySem.W.findIn K (.ref C) "__class__" = some (some (.builtin "object.__class__"))) (hn : PySem.W.specialIn K (.builtin "object.__class__") "__get__" = some (some (.builtin "getset_descriptor.__get__"))) (ht : PySem.W.takesIn K (.builtin "object.__class__") = some true) (hm : PySem.W.mroIn K C (.type "object") = some true) :
    ∃ C Ct Cn, mg "BadValue" = some (.ref C) ∧ mg "BadText" = some (.ref Ct) ∧ mg "NoFit" = some (.ref Cn) ∧ PySem.W.kitOne K (.ref C) (.ref Ct) = some false ∧ PySem.W.kitOne K (.ref C) (.type "ValueError") = some true ∧ PySem.W.exmAny K (.ref C) [.ref C, .ref Cn] = some true ∧ PySem.W.findCls K (.type "ValueError") (.type "type") "__init__" = some (.val (.builtin "ValueError.__init__")) ∧ ExcC K C :=
  ⟨C, Ct, Cn, PySem.W.mg_of KX G a, PySem.W.mg_of KX G b, PySem.W.mg_of KX G c, n, v, x, f, ⟨hg, hk, hs, hd, ha, hn, ht, hm⟩⟩
end
end K01
open PySem PySem.W PyProof.Rows
set_option linter.all false
set_option maxRecDepth 100000 in
set_option maxHeartbeats 0 in
theorem PySem.Challenge.cw_allsorts_k01_what_is_a_term_holds : PySem.Challenge.rw_allsorts_k01_what_is_a_term.Holds := by
  w_on; o_law; k_head; (case hw => w_witness2)
  k_fill
  refine DL.walk_ofG (l := PySem.Challenge.rw_allsorts_k01_what_is_a_term) (n := 63) (k := 40) (x := "script") rfl (by decide) rfl ⟨rfl, by decide, by decide⟩ (fun w h Y => PySem.W.km_in_of Y) ?F
  case F =>
    intro w mg fa h Y KX G hmg
    have tabs := PySem.W.km_tabs_of Y
    have d_has_word : K01.Def (PySem.Challenge.cw_allsorts_k01_what_is_a_term_holds.heap_39 w.params) mg "has_word" K01.s_has_word ["thing"] := by
      refine' K01.mk_def KX G ?a ?l ?c ?k ?b
      (case a => k_is)
      (case l => k_is)
      (case c => k_is)
      (case k => k_is)
      (case b => first | exact (fun _ _ _ _ _ _ us hl => match us, hl with | [_], _ => rfl))
    have d_is_sort : K01.Def (PySem.Challenge.cw_allsorts_k01_what_is_a_term_holds.heap_39 w.params) mg "is_sort" K01.s_is_sort ["thing"] := by
      refine' K01.mk_def KX G ?a ?l ?c ?k ?b
      (case a => k_is)
      (case l => k_is)
      (case c => k_is)
      (case k => k_is)
      (case b => first | exact (fun _ _ _ _ _ _ us hl => match us, hl with | [_], _ => rfl))
    have d_is_name : K01.DefK (PySem.Challenge.cw_allsorts_k01_what_is_a_term_holds.heap_39 w.params) mg "is_name" K01.s_is_name ["thing"] := by
      refine' K01.mk_defK KX G ?a ?l ?c ?k ?b
      (case a => k_is)
      (case l => k_is)
      (case c => k_is)
      (case k => k_is)
      (case b => first | exact (fun _ _ _ _ _ _ _ => ⟨rfl, rfl⟩))
    have d_has_row : K01.Def (PySem.Challenge.cw_allsorts_k01_what_is_a_term_holds.heap_39 w.params) mg "has_row" K01.s_has_row ["thing", "bounds", "sorts"] := by
      refine' K01.mk_def KX G ?a ?l ?c ?k ?b
      (case a => k_is)
      (case l => k_is)
      (case c => k_is)
      (case k => k_is)
      (case b => first | exact (fun _ _ _ _ _ _ us hl => match us, hl with | [_, _, _], _ => rfl))
    have d_sorts_in_call : K01.Def (PySem.Challenge.cw_allsorts_k01_what_is_a_term_holds.heap_39 w.params) mg "sorts_in_call" K01.s_sorts_in_call ["thing"] := by
      refine' K01.mk_def KX G ?a ?l ?c ?k ?b
      (case a => k_is)
      (case l => k_is)
      (case c => k_is)
      (case k => k_is)
      (case b => first | exact (fun _ _ _ _ _ _ us hl => match us, hl with | [_], _ => rfl))
    have d_sorts_within : K01.Def (PySem.Challenge.cw_allsorts_k01_what_is_a_term_holds.heap_39 w.params) mg "sorts_within" K01.s_sorts_within ["thing"] := by
      refine' K01.mk_def KX G ?a ?l ?c ?k ?b
      (case a => k_is)
      (case l => k_is)
      (case c => k_is)
      (case k => k_is)
      (case b => first | exact (fun _ _ _ _ _ _ us hl => match us, hl with | [_], _ => rfl))
    have d_inner_terms : K01.Def (PySem.Challenge.cw_allsorts_k01_what_is_a_term_holds.heap_39 w.params) mg "inner_terms" K01.s_inner_terms ["term"] := by
      refine' K01.mk_def KX G ?a ?l ?c ?k ?b
      (case a => k_is)
      (case l => k_is)
      (case c => k_is)
      (case k => k_is)
      (case b => first | exact (fun _ _ _ _ _ _ us hl => match us, hl with | [_], _ => rfl))
    have d_term_sort : K01.Def (PySem.Challenge.cw_allsorts_k01_what_is_a_term_holds.heap_39 w.params) mg "term_sort" K01.s_term_sort ["term"] := by
      refine' K01.mk_def KX G ?a ?l ?c ?k ?b
      (case a => k_is)
      (case l => k_is)
      (case c => k_is)
      (case k => k_is)
      (case b => first | exact (fun _ _ _ _ _ _ us hl => match us, hl with | [_], _ => rfl))
    have d_term_size : K01.Def (PySem.Challenge.cw_allsorts_k01_what_is_a_term_holds.heap_39 w.params) mg "term_size" K01.s_term_size ["thing", "sort", "deep", "room"] := by
      refine' K01.mk_def KX G ?a ?l ?c ?k ?b
      (case a => k_is)
      (case l => k_is)
      (case c => k_is)
      (case k => k_is)
      (case b => first | exact (fun _ _ _ _ _ _ us hl => match us, hl with | [_, _, _, _], _ => rfl))
    have d_places_size : K01.Def (PySem.Challenge.cw_allsorts_k01_what_is_a_term_holds.heap_39 w.params) mg "places_size" K01.s_places_size ["places", "sorts", "deep", "room"] := by
      refine' K01.mk_def KX G ?a ?l ?c ?k ?b
      (case a => k_is)
      (case l => k_is)
      (case c => k_is)
      (case k => k_is)
      (case b => first | exact (fun _ _ _ _ _ _ us hl => match us, hl with | [_, _, _, _], _ => rfl))
    have d_is_term : K01.DefK (PySem.Challenge.cw_allsorts_k01_what_is_a_term_holds.heap_39 w.params) mg "is_term" K01.s_is_term ["thing"] := by
      refine' K01.mk_defK KX G ?a ?l ?c ?k ?b
      (case a => k_is)
      (case l => k_is)
      (case c => k_is)
      (case k => k_is)
      (case b => first | exact (fun _ _ _ _ _ _ _ => ⟨rfl, rfl⟩))
    have d_parts_in_order : K01.Def (PySem.Challenge.cw_allsorts_k01_what_is_a_term_holds.heap_39 w.params) mg "parts_in_order" K01.s_parts_in_order ["term"] := by
      refine' K01.mk_def KX G ?a ?l ?c ?k ?b
      (case a => k_is)
      (case l => k_is)
      (case c => k_is)
      (case k => k_is)
      (case b => first | exact (fun _ _ _ _ _ _ us hl => match us, hl with | [_], _ => rfl))
    have d_in_brackets : K01.Def (PySem.Challenge.cw_allsorts_k01_what_is_a_term_holds.heap_39 w.params) mg "in_brackets" K01.s_in_brackets ["word", "numbers", "texts"] := by
      refine' K01.mk_def KX G ?a ?l ?c ?k ?b
      (case a => k_is)
      (case l => k_is)
      (case c => k_is)
      (case k => k_is)
      (case b => first | exact (fun _ _ _ _ _ _ us hl => match us, hl with | [_, _, _], _ => rfl))
    have d_term_text : K01.Def (PySem.Challenge.cw_allsorts_k01_what_is_a_term_holds.heap_39 w.params) mg "term_text" K01.s_term_text ["term"] := by
      refine' K01.mk_def KX G ?a ?l ?c ?k ?b
      (case a => k_is)
      (case l => k_is)
      (case c => k_is)
      (case k => k_is)
      (case b => first | exact (fun _ _ _ _ _ _ us hl => match us, hl with | [_], _ => rfl))
    have d_each_once : K01.Def (PySem.Challenge.cw_allsorts_k01_what_is_a_term_holds.heap_39 w.params) mg "each_once" K01.s_each_once ["texts", "things"] := by
      refine' K01.mk_def KX G ?a ?l ?c ?k ?b
      (case a => k_is)
      (case l => k_is)
      (case c => k_is)
      (case k => k_is)
      (case b => first | exact (fun _ _ _ _ _ _ us hl => match us, hl with | [_, _], _ => rfl))
    have d_check_term : K01.Def (PySem.Challenge.cw_allsorts_k01_what_is_a_term_holds.heap_39 w.params) mg "check_term" K01.s_check_term ["thing"] := by
      refine' K01.mk_def KX G ?a ?l ?c ?k ?b
      (case a => k_is)
      (case l => k_is)
      (case c => k_is)
      (case k => k_is)
      (case b => first | exact (fun _ _ _ _ _ _ us hl => match us, hl with | [_], _ => rfl))
    have d_sort_of : K01.DefK (PySem.Challenge.cw_allsorts_k01_what_is_a_term_holds.heap_39 w.params) mg "sort_of" K01.s_sort_of ["term"] := by
      refine' K01.mk_defK KX G ?a ?l ?c ?k ?b
      (case a => k_is)
      (case l => k_is)
      (case c => k_is)
      (case k => k_is)
      (case b => first | exact (fun _ _ _ _ _ _ _ => ⟨rfl, rfl⟩))
    have d_inner_of : K01.DefK (PySem.Challenge.cw_allsorts_k01_what_is_a_term_holds.heap_39 w.params) mg "inner_of" K01.s_inner_of ["term"] := by
      refine' K01.mk_defK KX G ?a ?l ?c ?k ?b
      (case a => k_is)
      (case l => k_is)
      (case c => k_is)
      (case k => k_is)
      (case b => first | exact (fun _ _ _ _ _ _ _ => ⟨rfl, rfl⟩))
    have d_parts_of : K01.DefK (PySem.Challenge.cw_allsorts_k01_what_is_a_term_holds.heap_39 w.params) mg "parts_of" K01.s_parts_of ["term"] := by
      refine' K01.mk_defK KX G ?a ?l ?c ?k ?b
      (case a => k_is)
      (case l => k_is)
      (case c => k_is)
      (case k => k_is)
      (case b => first | exact (fun _ _ _ _ _ _ _ => ⟨rfl, rfl⟩))
    have d_text_of : K01.Def (PySem.Challenge.cw_allsorts_k01_what_is_a_term_holds.heap_39 w.params) mg "text_of" K01.s_text_of ["thing"] := by
      refine' K01.mk_def KX G ?a ?l ?c ?k ?b
      (case a => k_is)
      (case l => k_is)
      (case c => k_is)
      (case k => k_is)
      (case b => first | exact (fun _ _ _ _ _ _ us hl => match us, hl with | [_], _ => rfl))
    have d_l_kind : K01.Def (PySem.Challenge.cw_allsorts_k01_what_is_a_term_holds.heap_39 w.params) mg "_law_kind" K01.s__law_kind ["k"] := by
      refine' K01.mk_def KX G ?a ?l ?c ?k ?b
      (case a => k_is)
      (case l => k_is)
      (case c => k_is)
      (case k => k_is)
      (case b => first | exact (fun _ _ _ _ _ _ us hl => match us, hl with | [_], _ => rfl))
    have d_l_inner : K01.Def (PySem.Challenge.cw_allsorts_k01_what_is_a_term_holds.heap_39 w.params) mg "_law_inner" K01.s__law_inner ["it"] := by
      refine' K01.mk_def KX G ?a ?l ?c ?k ?b
      (case a => k_is)
      (case l => k_is)
      (case c => k_is)
      (case k => k_is)
      (case b => first | exact (fun _ _ _ _ _ _ us hl => match us, hl with | [_], _ => rfl))
    have d_l_text : K01.Def (PySem.Challenge.cw_allsorts_k01_what_is_a_term_holds.heap_39 w.params) mg "_law_text" K01.s__law_text ["it"] := by
      refine' K01.mk_def KX G ?a ?l ?c ?k ?b
      (case a => k_is)
      (case l => k_is)
      (case c => k_is)
      (case k => k_is)
      (case b => first | exact (fun _ _ _ _ _ _ us hl => match us, hl with | [_], _ => rfl))
    have d_l_is_name : K01.Def (PySem.Challenge.cw_allsorts_k01_what_is_a_term_holds.heap_39 w.params) mg "_law_is_name" K01.s__law_is_name ["odd"] := by
      refine' K01.mk_def KX G ?a ?l ?c ?k ?b
      (case a => k_is)
      (case l => k_is)
      (case c => k_is)
      (case k => k_is)
      (case b => first | exact (fun _ _ _ _ _ _ us hl => match us, hl with | [_], _ => rfl))
    have d_l_fits : K01.Def (PySem.Challenge.cw_allsorts_k01_what_is_a_term_holds.heap_39 w.params) mg "_law_fits" K01.s__law_fits ["odd", "low", "high"] := by
      refine' K01.mk_def KX G ?a ?l ?c ?k ?b
      (case a => k_is)
      (case l => k_is)
      (case c => k_is)
      (case k => k_is)
      (case b => first | exact (fun _ _ _ _ _ _ us hl => match us, hl with | [_, _, _], _ => rfl))
    have d_l_leaf_kind : K01.Def (PySem.Challenge.cw_allsorts_k01_what_is_a_term_holds.heap_39 w.params) mg "_law_leaf_kind" K01.s__law_leaf_kind ["odd"] := by
      refine' K01.mk_def KX G ?a ?l ?c ?k ?b
      (case a => k_is)
      (case l => k_is)
      (case c => k_is)
      (case k => k_is)
      (case b => first | exact (fun _ _ _ _ _ _ us hl => match us, hl with | [_], _ => rfl))
    have d_l_kinds : K01.Def (PySem.Challenge.cw_allsorts_k01_what_is_a_term_holds.heap_39 w.params) mg "_law_kinds" K01.s__law_kinds [] := by
      refine' K01.mk_def KX G ?a ?l ?c ?k ?b
      (case a => k_is)
      (case l => k_is)
      (case c => k_is)
      (case k => k_is)
      (case b => first | exact (fun _ _ _ _ _ _ us hl => match us, hl with | [], _ => rfl))
    have d_l_call_kind : K01.Def (PySem.Challenge.cw_allsorts_k01_what_is_a_term_holds.heap_39 w.params) mg "_law_call_kind" K01.s__law_call_kind ["odd", "deep"] := by
      refine' K01.mk_def KX G ?a ?l ?c ?k ?b
      (case a => k_is)
      (case l => k_is)
      (case c => k_is)
      (case k => k_is)
      (case b => first | exact (fun _ _ _ _ _ _ us hl => match us, hl with | [_, _], _ => rfl))
    have d_l_term_kind : K01.Def (PySem.Challenge.cw_allsorts_k01_what_is_a_term_holds.heap_39 w.params) mg "_law_term_kind" K01.s__law_term_kind ["odd", "deep"] := by
      refine' K01.mk_def KX G ?a ?l ?c ?k ?b
      (case a => k_is)
      (case l => k_is)
      (case c => k_is)
      (case k => k_is)
      (case b => first | exact (fun _ _ _ _ _ _ us hl => match us, hl with | [_, _], _ => rfl))
    have d_l_is_term : K01.Def (PySem.Challenge.cw_allsorts_k01_what_is_a_term_holds.heap_39 w.params) mg "_law_is_term" K01.s__law_is_term ["odd"] := by
      refine' K01.mk_def KX G ?a ?l ?c ?k ?b
      (case a => k_is)
      (case l => k_is)
      (case c => k_is)
      (case k => k_is)
      (case b => first | exact (fun _ _ _ _ _ _ us hl => match us, hl with | [_], _ => rfl))
    have d_l_leaves : K01.Def (PySem.Challenge.cw_allsorts_k01_what_is_a_term_holds.heap_39 w.params) mg "_law_leaves" K01.s__law_leaves [] := by
      refine' K01.mk_def KX G ?a ?l ?c ?k ?b
      (case a => k_is)
      (case l => k_is)
      (case c => k_is)
      (case k => k_is)
      (case b => first | exact (fun _ _ _ _ _ _ us hl => match us, hl with | [], _ => rfl))
    have d_l_edges : K01.Def (PySem.Challenge.cw_allsorts_k01_what_is_a_term_holds.heap_39 w.params) mg "_law_edges" K01.s__law_edges [] := by
      refine' K01.mk_def KX G ?a ?l ?c ?k ?b
      (case a => k_is)
      (case l => k_is)
      (case c => k_is)
      (case k => k_is)
      (case b => first | exact (fun _ _ _ _ _ _ us hl => match us, hl with | [], _ => rfl))
    have d_l_far : K01.Def (PySem.Challenge.cw_allsorts_k01_what_is_a_term_holds.heap_39 w.params) mg "_law_far" K01.s__law_far [] := by
      refine' K01.mk_def KX G ?a ?l ?c ?k ?b
      (case a => k_is)
      (case l => k_is)
      (case c => k_is)
      (case k => k_is)
      (case b => first | exact (fun _ _ _ _ _ _ us hl => match us, hl with | [], _ => rfl))
    have d_l_far_terms : K01.Def (PySem.Challenge.cw_allsorts_k01_what_is_a_term_holds.heap_39 w.params) mg "_law_far_terms" K01.s__law_far_terms [] := by
      refine' K01.mk_def KX G ?a ?l ?c ?k ?b
      (case a => k_is)
      (case l => k_is)
      (case c => k_is)
      (case k => k_is)
      (case b => first | exact (fun _ _ _ _ _ _ us hl => match us, hl with | [], _ => rfl))
    have d_l_mixed : K01.Def (PySem.Challenge.cw_allsorts_k01_what_is_a_term_holds.heap_39 w.params) mg "_law_mixed" K01.s__law_mixed ["cell", "k"] := by
      refine' K01.mk_def KX G ?a ?l ?c ?k ?b
      (case a => k_is)
      (case l => k_is)
      (case c => k_is)
      (case k => k_is)
      (case b => first | exact (fun _ _ _ _ _ _ us hl => match us, hl with | [_, _], _ => rfl))
    have d_l_draw : K01.Def (PySem.Challenge.cw_allsorts_k01_what_is_a_term_holds.heap_39 w.params) mg "_law_draw" K01.s__law_draw ["m", "top"] := by
      refine' K01.mk_def KX G ?a ?l ?c ?k ?b
      (case a => k_is)
      (case l => k_is)
      (case c => k_is)
      (case k => k_is)
      (case b => first | exact (fun _ _ _ _ _ _ us hl => match us, hl with | [_, _], _ => rfl))
    have d_l_folded : K01.Def (PySem.Challenge.cw_allsorts_k01_what_is_a_term_holds.heap_39 w.params) mg "_law_folded" K01.s__law_folded ["script"] := by
      refine' K01.mk_def KX G ?a ?l ?c ?k ?b
      (case a => k_is)
      (case l => k_is)
      (case c => k_is)
      (case k => k_is)
      (case b => first | exact (fun _ _ _ _ _ _ us hl => match us, hl with | [_], _ => rfl))
    have d_l_begun : K01.Def (PySem.Challenge.cw_allsorts_k01_what_is_a_term_holds.heap_39 w.params) mg "_law_begun" K01.s__law_begun ["script"] := by
      refine' K01.mk_def KX G ?a ?l ?c ?k ?b
      (case a => k_is)
      (case l => k_is)
      (case c => k_is)
      (case k => k_is)
      (case b => first | exact (fun _ _ _ _ _ _ us hl => match us, hl with | [_], _ => rfl))
    have d_l_whole : K01.Def (PySem.Challenge.cw_allsorts_k01_what_is_a_term_holds.heap_39 w.params) mg "_law_whole" K01.s__law_whole ["m"] := by
      refine' K01.mk_def KX G ?a ?l ?c ?k ?b
      (case a => k_is)
      (case l => k_is)
      (case c => k_is)
      (case k => k_is)
      (case b => first | exact (fun _ _ _ _ _ _ us hl => match us, hl with | [_], _ => rfl))
    have d_l_leaf : K01.Def (PySem.Challenge.cw_allsorts_k01_what_is_a_term_holds.heap_39 w.params) mg "_law_leaf" K01.s__law_leaf ["m", "w", "kind"] := by
      refine' K01.mk_def KX G ?a ?l ?c ?k ?b
      (case a => k_is)
      (case l => k_is)
      (case c => k_is)
      (case k => k_is)
      (case b => first | exact (fun _ _ _ _ _ _ us hl => match us, hl with | [_, _, _], _ => rfl))
    have d_l_call : K01.Def (PySem.Challenge.cw_allsorts_k01_what_is_a_term_holds.heap_39 w.params) mg "_law_call" K01.s__law_call ["m", "w", "kind", "deep", "room"] := by
      refine' K01.mk_def KX G ?a ?l ?c ?k ?b
      (case a => k_is)
      (case l => k_is)
      (case c => k_is)
      (case k => k_is)
      (case b => first | exact (fun _ _ _ _ _ _ us hl => match us, hl with | [_, _, _, _, _], _ => rfl))
    have d_l_term : K01.Def (PySem.Challenge.cw_allsorts_k01_what_is_a_term_holds.heap_39 w.params) mg "_law_term" K01.s__law_term ["m", "w", "kind", "deep", "room"] := by
      refine' K01.mk_def KX G ?a ?l ?c ?k ?b
      (case a => k_is)
      (case l => k_is)
      (case c => k_is)
      (case k => k_is)
      (case b => first | exact (fun _ _ _ _ _ _ us hl => match us, hl with | [_, _, _, _, _], _ => rfl))
    have d_l_any_term : K01.Def (PySem.Challenge.cw_allsorts_k01_what_is_a_term_holds.heap_39 w.params) mg "_law_any_term" K01.s__law_any_term ["m", "w", "kind"] := by
      refine' K01.mk_def KX G ?a ?l ?c ?k ?b
      (case a => k_is)
      (case l => k_is)
      (case c => k_is)
      (case k => k_is)
      (case b => first | exact (fun _ _ _ _ _ _ us hl => match us, hl with | [_, _, _], _ => rfl))
    have d_l_called : K01.Def (PySem.Challenge.cw_allsorts_k01_what_is_a_term_holds.heap_39 w.params) mg "_law_called" K01.s__law_called ["m", "top"] := by
      refine' K01.mk_def KX G ?a ?l ?c ?k ?b
      (case a => k_is)
      (case l => k_is)
      (case c => k_is)
      (case k => k_is)
      (case b => first | exact (fun _ _ _ _ _ _ us hl => match us, hl with | [_, _], _ => rfl))
    have d_l_bent : K01.Def (PySem.Challenge.cw_allsorts_k01_what_is_a_term_holds.heap_39 w.params) mg "_law_bent" K01.s__law_bent ["m", "whole"] := by
      refine' K01.mk_def KX G ?a ?l ?c ?k ?b
      (case a => k_is)
      (case l => k_is)
      (case c => k_is)
      (case k => k_is)
      (case b => first | exact (fun _ _ _ _ _ _ us hl => match us, hl with | [_, _], _ => rfl))
    have d_l_parts : K01.Def (PySem.Challenge.cw_allsorts_k01_what_is_a_term_holds.heap_39 w.params) mg "_law_parts" K01.s__law_parts ["it", "found"] := by
      refine' K01.mk_def KX G ?a ?l ?c ?k ?b
      (case a => k_is)
      (case l => k_is)
      (case c => k_is)
      (case k => k_is)
      (case b => first | exact (fun _ _ _ _ _ _ us hl => match us, hl with | [_, _], _ => rfl))
    have d_l_class : K01.Def (PySem.Challenge.cw_allsorts_k01_what_is_a_term_holds.heap_39 w.params) mg "_law_class" K01.s__law_class ["error"] := by
      refine' K01.mk_def KX G ?a ?l ?c ?k ?b
      (case a => k_is)
      (case l => k_is)
      (case c => k_is)
      (case k => k_is)
      (case b => first | exact (fun _ _ _ _ _ _ us hl => match us, hl with | [_], _ => rfl))
    have d_l_told : K01.Def (PySem.Challenge.cw_allsorts_k01_what_is_a_term_holds.heap_39 w.params) mg "_law_told" K01.s__law_told ["deed"] := by
      refine' K01.mk_def KX G ?a ?l ?c ?k ?b
      (case a => k_is)
      (case l => k_is)
      (case c => k_is)
      (case k => k_is)
      (case b => first | exact (fun _ _ _ _ _ _ us hl => match us, hl with | [_], _ => rfl))
    have d_l_right : K01.Def (PySem.Challenge.cw_allsorts_k01_what_is_a_term_holds.heap_39 w.params) mg "_law_right" K01.s__law_right ["odd"] := by
      refine' K01.mk_def KX G ?a ?l ?c ?k ?b
      (case a => k_is)
      (case l => k_is)
      (case c => k_is)
      (case k => k_is)
      (case b => first | exact (fun _ _ _ _ _ _ us hl => match us, hl with | [_], _ => rfl))
    have c_MOST_LETTERS : DL.CI mg "MOST_LETTERS" 6 := by
      refine' K01.mk_ci KX G ?a
      (case a => k_is)
    have c_MOST_TERMS : DL.CI mg "MOST_TERMS" 3 := by
      refine' K01.mk_ci KX G ?a
      (case a => k_is)
    have c_TERM_DEEP : DL.CI mg "TERM_DEEP" 6 := by
      refine' K01.mk_ci KX G ?a
      (case a => k_is)
    have c_TERM_PARTS : DL.CI mg "TERM_PARTS" 40 := by
      refine' K01.mk_ci KX G ?a
      (case a => k_is)
    have bt : DL.Bt mg := by
      refine K01.mk_bt KX G fun x hx => ?_
      simp only [List.mem_cons, List.not_mem_nil, or_false] at hx
      rcases hx with rfl | rfl | rfl | rfl | rfl | rfl | rfl | rfl | rfl | rfl | rfl | rfl | rfl | rfl | rfl | rfl <;> first | k_is
    have so : DL.CT (PySem.Challenge.cw_allsorts_k01_what_is_a_term_holds.heap_39 w.params) mg "SORTS" (.tup (K01.sorts.map DL.Dat.str)) := by
      refine' K01.mk_ct KX G ?a ?b
      (case a => k_is)
      (case b => first | rfl | kernel_rfl)
    have tw : K01.TW (PySem.Challenge.cw_allsorts_k01_what_is_a_term_holds.heap_39 w.params) w mg "TERM_WORDS" K01.words := by
      refine' K01.mk_tw KX G ?a ?l ?t ?o ?r
      (case a => k_is)
      (case l => k_is)
      (case t => first | (repeat (first | exact True.intro | (refine ⟨⟨_, _, rfl, rfl⟩, ?_⟩))))
      (case o => first | rfl | decide)
      (case r => first | rfl | kernel_rfl)
    have rf : ∃ c, (∃ f fd, K01.At (PySem.Challenge.cw_allsorts_k01_what_is_a_term_holds.heap_39 w.params) mg "_law_refused_right" K01.s__law_refused_right ["odd"] f fd ∧ ∀ kV doc pm an cdv ct, fd = PySem.W.fnOf "_law_refused_right" "_law_refused_right" (L2.defArgs K01.s__law_refused_right) (L2.defBody K01.s__law_refused_right) (L2.defScope K01.s__law_refused_right) .none kV doc pm an cdv ct → cdv = .ref c) ∧ CodeHd h c 493 := by
      refine' ⟨_, K01.mk_refused KX G ?a ?l ?c ?k, codeHd_of_K KX ?e⟩
      (case a => k_is)
      (case l => k_is)
      (case c => k_is)
      (case k => k_is)
      (case e => first | k_is | rfl | kernel_rfl)
    have lw : ∃ fd, L2.Fun (PySem.Challenge.cw_allsorts_k01_what_is_a_term_holds.heap_39 w.params) "law" "law" K01.s_law fa fd ∧ ∀ (s : Shared) (u : Value), BindsTo s fd ⟨[u], []⟩ [("script", u)] := by
      refine' K01.mk_law KX G hmg ?a ?l ?c ?k
      (case a => k_is)
      (case l => k_is)
      (case c => k_is)
      (case k => k_is)
    have er : ∃ C fI fdI, mg "BadValue" = some (.ref C) ∧ L2.OexC (PySem.Challenge.cw_allsorts_k01_what_is_a_term_holds.heap_39 w.params) C ∧ findIn (PySem.Challenge.cw_allsorts_k01_what_is_a_term_holds.heap_39 w.params) (.ref C) "what" = some none ∧ findIn (PySem.Challenge.cw_allsorts_k01_what_is_a_term_holds.heap_39 w.params) (.ref C) "__init__" = some (some (.ref fI)) ∧ typeIn (PySem.Challenge.cw_allsorts_k01_what_is_a_term_holds.heap_39 w.params) (.ref fI) = some (.type "function") ∧ L2.Fun (PySem.Challenge.cw_allsorts_k01_what_is_a_term_holds.heap_39 w.params) "__init__" "BadValue.__init__" K01.s_init fI fdI ∧ L2.Binds (PySem.Challenge.cw_allsorts_k01_what_is_a_term_holds.heap_39 w.params) fdI ["self", "what"] [] := by
      refine' ⟨_, _, _, PySem.W.mg_of KX G ?a, K01.mk_oex ?l ?r ?sa ?e ?t ?k, ?no, ?ini, ?ty, L2.fun_mk ?lI ?cI ?kI, (L2.fun_mk ?lI ?cI ?kI).binds (fun _ _ _ _ _ _ us hl => match us, hl with | [_, _], _ => rfl)⟩
      (case a => k_is)
      (case l => k_is)
      (case r => first | decide +kernel)
      (case sa => k_is)
      (case e => k_is)
      (case t => k_is)
      (case k => k_is)
      (case no => k_is)
      (case ini => k_is)
      (case ty => k_is)
      (case lI => k_is)
      (case cI => k_is)
      (case kI => k_is)
    have er2 : ∃ C Ct Cn, mg "BadValue" = some (.ref C) ∧ mg "BadText" = some (.ref Ct) ∧ mg "NoFit" = some (.ref Cn) ∧ kitOne (PySem.Challenge.cw_allsorts_k01_what_is_a_term_holds.heap_39 w.params) (.ref C) (.ref Ct) = some false ∧ kitOne (PySem.Challenge.cw_allsorts_k01_what_is_a_term_holds.heap_39 w.params) (.ref C) (.type "ValueError") = some true ∧ exmAny (PySem.Challenge.cw_allsorts_k01_what_is_a_term_holds.heap_39 w.params) (.ref C) [.ref C, .ref Cn] = some true ∧ findCls (PySem.Challenge.cw_allsorts_k01_what_is_a_term_holds.heap_39 w.params) (.type "ValueError") (.type "type") "__init__" = some (.val (.builtin "ValueError.__init__")) ∧ L2.ExcC (PySem.Challenge.cw_allsorts_k01_what_is_a_term_holds.heap_39 w.params) C := by
      refine' K01.mk_er KX G ?a ?b ?c ?n ?v ?x ?f ?hg ?hk ?hs ?hd ?ha ?hn ?ht ?hm
      (case a => k_is)
      (case b => k_is)
      (case c => k_is)
      (case n => first | k_is | kit_is | rfl | kernel_rfl)
      (case v => first | k_is | kit_is | rfl | kernel_rfl)
      (case x => first | k_is | rfl | kernel_rfl)
      (case f => first | k_is | rfl | kernel_rfl)
      (case hg => k_is)
      (case hk => k_is)
      (case hs => k_is)
      (case hd => k_is)
      (case ha => k_is)
      (case hn => k_is)
      (case ht => k_is)
      (case hm => k_is)
    have nT : (PySem.Challenge.cw_allsorts_k01_what_is_a_term_holds.heap_39 w.params).lookup 493 = none := by first | rfl | kernel_rfl
    have ve : mg "ValueError" = none := PySem.W.mg_none_of KX G (by k_is)
    obtain ⟨c, rf, cdh⟩ := rf
    obtain ⟨fdL, FL, bL⟩ := lw
    obtain ⟨C, fI, fdI, m1, oex, noW, ini, ty, FI, bI⟩ := er
    obtain ⟨C2, Ct, CN, m2, mT, mN, kT, kV, ex, vV, exc⟩ := er2
    cases Value.ref.inj (Option.some.inj (m1.symm.trans m2))
    exact K01.law_at (CB := C) (Ct := Ct) (CN := CN) (c := c) (Pt := 493) (fI := fI) (fdI := fdI) { B := bt, SORTS := so, MOST_LETTERS := c_MOST_LETTERS, MOST_TERMS := c_MOST_TERMS, TERM_DEEP := c_TERM_DEEP, TERM_PARTS := c_TERM_PARTS, TERM_WORDS := tw, ve := ve, vV := vV, oex := oex, mB := m1, noW := noW, ini := ini, tyI := ty, FI := FI, bI := bI, errC := ⟨bt.isinstance, ve, m1, mT, exc, ⟨exc.hg, exc.hk, exc.hs, exc.hd⟩, noW, kT, kV⟩, errN := ⟨m1, mN, ex⟩, has_word := d_has_word, is_sort := d_is_sort, is_name := d_is_name, has_row := d_has_row, sorts_in_call := d_sorts_in_call, sorts_within := d_sorts_within, inner_terms := d_inner_terms, term_sort := d_term_sort, term_size := d_term_size, places_size := d_places_size, is_term := d_is_term, parts_in_order := d_parts_in_order, in_brackets := d_in_brackets, term_text := d_term_text, each_once := d_each_once, check_term := d_check_term, sort_of := d_sort_of, inner_of := d_inner_of, parts_of := d_parts_of, text_of := d_text_of, l_kind := d_l_kind, l_inner := d_l_inner, l_text := d_l_text, l_is_name := d_l_is_name, l_fits := d_l_fits, l_leaf_kind := d_l_leaf_kind, l_kinds := d_l_kinds, l_call_kind := d_l_call_kind, l_term_kind := d_l_term_kind, l_is_term := d_l_is_term, l_leaves := d_l_leaves, l_edges := d_l_edges, l_far := d_l_far, l_far_terms := d_l_far_terms, l_mixed := d_l_mixed, l_draw := d_l_draw, l_folded := d_l_folded, l_begun := d_l_begun, l_whole := d_l_whole, l_leaf := d_l_leaf, l_call := d_l_call, l_term := d_l_term, l_any_term := d_l_any_term, l_called := d_l_called, l_bent := d_l_bent, l_parts := d_l_parts, l_class := d_l_class, l_told := d_l_told, l_right := d_l_right, l_refused := rf } FL bL (tabs 493 (by simp)) nT cdh
