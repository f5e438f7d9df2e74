import PyProof.Rows.All
import Wide.All
import OpenK.AllK
import Wide.FinOn
import HandS.ForMost
import HandS.Walk
import HandS.IsInst
import HandS.Flow
import HandS.Style
import HandS.SetKeys
import HandS.Deep
import HandS.DictComp
import HandS.Defaults
import HandS.Zip
import HandS.Rev
import HandS.Conv
import KE.SortData
import KE.LtData
import HandS.ForExc
import HandS.TupAny
import KE.DataCmp
import PyProof.ReprRoads
import HandS.RaiseMore
import HandS.Ends
import KE.GoesEnum
import PySem.Challenge.RW_mirrorwood_k05_whole_lights_along_rows
set_option Elab.async false
set_option linter.all false
set_option maxRecDepth 100000
set_option autoImplicit false
/-! The data layer: programs over trees of data, by functions of environments. -/
namespace Mw
open PySem PySem.Spec PyProof.Rows L2

abbrev Pd := PyData

/-! ### data in a heap -/
theorem rd_mono {F F' : Hp} {a : Addr} {u : HO} (e : Same F F') (h : Rd F a u) : Rd F' a u :=
  h.elim (fun q => .inl (e _ _ q)) fun ⟨o, q⟩ => .inr ⟨o, e _ _ q⟩
theorem sqL_mono {K : PySem.W.Frag} {F F' : Hp} {a : Addr} {xs : List V} (e : Same F F') (h : SqL K F a xs) : SqL K F' a xs :=
  h.elim (fun q => .inl (rd_mono e q)) .inr
theorem sqT_mono {K : PySem.W.Frag} {F F' : Hp} {a : Addr} {xs : List V} (e : Same F F') (h : SqT K F a xs) : SqT K F' a xs :=
  h.elim (fun q => .inl (rd_mono e q)) .inr
mutual
/-- the value v is the datum d, all of it in F; the marked dict is the script -/
inductive Dq (K : PySem.W.Frag) (F : Hp) : V → Pd → Prop
  | non : Dq K F .non .none
  | bl (b : Bool) : Dq K F (.bl b) (.bool b)
  | int (i : Int) : Dq K F (.int i) (.int i)
  | str (x : Str) : Dq K F (.str x) (.str x)
  | lst {a : Addr} {xs : List V} {ds : List Pd} : F a = some (.lst xs) → DqAll K F xs ds → Dq K F (.ref a) (.list ds)
  | tup {a : Addr} {xs : List V} {ds : List Pd} : F a = some (.tup xs) → DqAll K F xs ds → Dq K F (.ref a) (.tuple ds)
  | scr {a : Addr} {ns : List Int} : SqL K F a (ns.map V.int) → Dq K F (.ref a) (.dict [(.none, .list (ns.map PyData.int))])
inductive DqAll (K : PySem.W.Frag) (F : Hp) : List V → List Pd → Prop
  | nil : DqAll K F [] []
  | cons {v : V} {vs : List V} {d : Pd} {ds : List Pd} : Dq K F v d → DqAll K F vs ds → DqAll K F (v :: vs) (d :: ds)
end
mutual
theorem dp_mono {K : PySem.W.Frag} {F F' : Hp} (e : Same F F') : ∀ {v : V} {d : Pd}, Dq K F v d → Dq K F' v d
  | _, _, .non => .non
  | _, _, .bl b => .bl b
  | _, _, .int i => .int i
  | _, _, .str x => .str x
  | _, _, .lst h q => .lst (e _ _ h) (dpAll_mono e q)
  | _, _, .tup h q => .tup (e _ _ h) (dpAll_mono e q)
  | _, _, .scr h => .scr (sqL_mono e h)
theorem dpAll_mono {K : PySem.W.Frag} {F F' : Hp} (e : Same F F') : ∀ {vs : List V} {ds : List Pd}, DqAll K F vs ds → DqAll K F' vs ds
  | _, _, .nil => .nil
  | _, _, .cons h q => .cons (dp_mono e h) (dpAll_mono e q)
end
theorem dpAll_len {K : PySem.W.Frag} {F : Hp} : ∀ {vs : List V} {ds : List Pd}, DqAll K F vs ds → vs.length = ds.length
  | _, _, .nil => rfl
  | _, _, .cons _ q => congrArg (· + 1) (dpAll_len q)
theorem dpAll_get {K : PySem.W.Frag} {F : Hp} : ∀ {vs : List V} {ds : List Pd} {i : Nat} {d : Pd}, DqAll K F vs ds → ds[i]? = some d → ∃ v, vs[i]? = some v ∧ Dq K F v d
  | _, _, i, d, .nil, e => by simp at e
  | _, _, 0, d, .cons h _, e => ⟨_, rfl, by simp at e; exact e ▸ h⟩
  | _, _, i + 1, d, .cons _ q, e => by
    obtain ⟨v, h1, h2⟩ := dpAll_get (i := i) q (by simpa using e)
    exact ⟨v, by simpa using h1, h2⟩
theorem dpAll_getV {K : PySem.W.Frag} {F : Hp} : ∀ {vs : List V} {ds : List Pd} {i : Nat} {v : V}, DqAll K F vs ds → vs[i]? = some v → ∃ d, ds[i]? = some d ∧ Dq K F v d
  | _, _, i, d, .nil, e => by simp at e
  | _, _, 0, d, .cons h _, e => ⟨_, rfl, by simp at e; exact e ▸ h⟩
  | _, _, i + 1, d, .cons _ q, e => by
    obtain ⟨v, h1, h2⟩ := dpAll_getV (i := i) q (by simpa using e)
    exact ⟨v, by simpa using h1, h2⟩
theorem dpAll_app {K : PySem.W.Frag} {F : Hp} : ∀ {vs ws : List V} {ds es : List Pd}, DqAll K F vs ds → DqAll K F ws es → DqAll K F (vs ++ ws) (ds ++ es)
  | _, _, _, _, .nil, q => q
  | _, _, _, _, .cons h r, q => .cons h (dpAll_app r q)
theorem dpAll_take {K : PySem.W.Frag} {F : Hp} (n : Nat) : ∀ {vs : List V} {ds : List Pd}, DqAll K F vs ds → DqAll K F (vs.take n) (ds.take n) := by
  induction n with
  | zero => intro _ _ _; exact .nil
  | succ n ih =>
    intro vs ds h
    cases h with
    | nil => exact .nil
    | cons h q => exact .cons h (ih q)
theorem dpAll_drop {K : PySem.W.Frag} {F : Hp} (n : Nat) : ∀ {vs : List V} {ds : List Pd}, DqAll K F vs ds → DqAll K F (vs.drop n) (ds.drop n) := by
  induction n with
  | zero => intro _ _ h; exact h
  | succ n ih =>
    intro vs ds h
    cases h with
    | nil => exact .nil
    | cons h q => exact ih q
theorem dpAll_set {K : PySem.W.Frag} {F : Hp} {v : V} {d : Pd} (h : Dq K F v d) : ∀ (i : Nat) {vs : List V} {ds : List Pd}, DqAll K F vs ds → DqAll K F (vs.set i v) (ds.set i d)
  | _, _, _, .nil => .nil
  | 0, _, _, .cons _ q => .cons h q
  | i + 1, _, _, .cons r q => .cons r (dpAll_set h i q)
theorem dpAll_rev {K : PySem.W.Frag} {F : Hp} : ∀ {vs : List V} {ds : List Pd}, DqAll K F vs ds → DqAll K F vs.reverse ds.reverse
  | _, _, .nil => .nil
  | _, _, .cons h q => by
    rw [List.reverse_cons, List.reverse_cons]
    exact dpAll_app (dpAll_rev q) (.cons h .nil)
theorem dpAll_ints {K : PySem.W.Frag} {F : Hp} : ∀ ns : List Int, DqAll K F (ns.map V.int) (ns.map PyData.int)
  | [] => .nil
  | n :: ns => .cons (.int n) (dpAll_ints ns)

/-! ### what slots hold -/
/-- an object that a slot owns: a list, a dict, a set of keys -/
inductive OB where
  | lst (ds : List Pd)
  | dct (kvs : List (Key × Pd))
  | dtt (kvs : List (List Key × Pd))
  | set (S : Key → Bool) (n : Nat)
inductive DV where
  | dat (d : Pd)
  | obj (o : OB)
abbrev En := List (Option DV)
structure Wd where
  P : Program
  w : World
  K : PySem.W.Frag
abbrev wd (X : Cx) : Wd := ⟨X.prog, X.w, X.K⟩
def DpKv (K : PySem.W.Frag) (F : Hp) (ks : List (Key × V)) (kd : List (Key × Pd)) : Prop := Paired (fun p q => p.1 = q.1 ∧ Dq K F p.2 q.2) ks kd
theorem dpKv_mono {K : PySem.W.Frag} {F F' : Hp} (e : Same F F') {ks : List (Key × V)} {kd : List (Key × Pd)} (h : DpKv K F ks kd) : DpKv K F' ks kd := Paired.mapP h fun _ _ z => ⟨z.1, dp_mono e z.2⟩
def DpKt (K : PySem.W.Frag) (F : Hp) (ks : List (List Key × V)) (kd : List (List Key × Pd)) : Prop := Paired (fun p q => p.1 = q.1 ∧ Dq K F p.2 q.2) ks kd
theorem dpKt_mono {K : PySem.W.Frag} {F F' : Hp} (e : Same F F') {ks : List (List Key × V)} {kd : List (List Key × Pd)} (h : DpKt K F ks kd) : DpKt K F' ks kd := Paired.mapP h fun _ _ z => ⟨z.1, dp_mono e z.2⟩
def OKo (G : Wd) (F : Hp) (a : Addr) (h : HO) : OB → Prop
  | .lst ds => ∃ xs, h = .lst xs ∧ DqAll G.K F xs ds
  | .dct kvs => ∃ ks, h = .dK ks ∧ DpKv G.K F ks kvs
  | .dtt kvs => ∃ ks, h = .dT ks ∧ DpKt G.K F ks kvs
  | .set S n => h = SetK G.P G.w a S n
theorem OKo.mono {G : Wd} {F F' : Hp} {a : Addr} {h : HO} {o : OB} (e : Same F F') (x : OKo G F a h o) : OKo G F' a h o := by
  cases o with
  | lst ds => obtain ⟨xs, e1, q⟩ := x; exact ⟨xs, e1, dpAll_mono e q⟩
  | dct kvs => obtain ⟨ks, e1, q⟩ := x; exact ⟨ks, e1, dpKv_mono e q⟩
  | dtt kvs => obtain ⟨ks, e1, q⟩ := x; exact ⟨ks, e1, dpKt_mono e q⟩
  | set S n => exact x
def Own (σ : L2.St) (ρ : En) (a : Addr) : Prop := ∃ (i : Nat) (o : OB), ρ[i]? = some (some (DV.obj o)) ∧ σ[i]? = some (some (V.ref a))

/-- the slots σ over the heap H hold what ρ says; F is the part of H that is never changed any more -/
structure Sat (G : Wd) (F H : Hp) (σ : L2.St) (ρ : En) : Prop where
  sub : Same F H
  len : ρ.length = σ.length
  dat : ∀ (i : Nat) (d : Pd), ρ[i]? = some (some (DV.dat d)) → ∃ v, σ[i]? = some (some v) ∧ Dq G.K F v d
  obj : ∀ (i : Nat) (o : OB), ρ[i]? = some (some (DV.obj o)) → ∃ a h, σ[i]? = some (some (V.ref a)) ∧ F a = none ∧ H a = some h ∧ OKo G F a h o
  sep : ∀ (i j : Nat) (o u : OB) (a : Addr), ρ[i]? = some (some (DV.obj o)) → ρ[j]? = some (some (DV.obj u)) → σ[i]? = some (some (V.ref a)) → σ[j]? = some (some (V.ref a)) → i = j

/-- one step: from (F, H, σ, ρ) to (F', H', σ', ρ') -/
structure Stp (G : Wd) (F H : Hp) (σ : L2.St) (ρ : En) (F' H' : Hp) (σ' : L2.St) (ρ' : En) : Prop where
  sat : Sat G F' H' σ' ρ'
  ext : Same F F'
  frm : ∀ a o, H a = some o → ¬ Own σ ρ a → H' a = some o
  new : ∀ a, F a = none → F' a ≠ none → H a = none ∨ Own σ ρ a
  own : ∀ a, Own σ' ρ' a → Own σ ρ a ∨ H a = none
  len : σ'.length = σ.length
  per : ∀ a, H' a = none → H a = none
section
variable {G : Wd} {F H F' H' F1 H1 : Hp} {σ σ' σ1 : L2.St} {ρ ρ' ρ1 : En} {a : Addr}
theorem Stp.refl (s : Sat G F H σ ρ) : Stp G F H σ ρ F H σ ρ :=
  ⟨s, Same.refl F, fun _ _ h _ => h, fun _ h h' => absurd h h', fun _ h => .inl h, rfl, fun _ h => h⟩
theorem Sat.own_some (s : Sat G F H σ ρ) (h : Own σ ρ a) : ∃ o, H a = some o ∧ F a = none := by
  obtain ⟨i, o, h1, h2⟩ := h
  obtain ⟨b, u, h3, h4, h5, _⟩ := s.obj i o h1
  rw [h2] at h3
  cases h3
  exact ⟨u, h5, h4⟩
theorem Stp.trans (x : Stp G F H σ ρ F1 H1 σ1 ρ1) (y : Stp G F1 H1 σ1 ρ1 F' H' σ' ρ') : Stp G F H σ ρ F' H' σ' ρ' where
  sat := y.sat
  ext := x.ext.trans y.ext
  frm := fun a o h w => y.frm a o (x.frm a o h w) fun z => (x.own a z).elim w fun q => by rw [h] at q; cases q
  new := fun a h h' => by
    cases q : F1 a with
    | some o => exact x.new a h (by rw [q]; exact nofun)
    | none =>
      rcases y.new a q h' with z | z
      · exact .inl (x.per a z)
      · exact (x.own a z).symm
  own := fun a h => by
    rcases y.own a h with z | z
    · exact x.own a z
    · exact .inr (x.per a z)
  len := y.len.trans x.len
  per := fun a h => x.per a (y.per a h)
end
end Mw

set_option Elab.async false
set_option linter.all false
set_option maxRecDepth 100000
set_option autoImplicit false
namespace Mw
open PySem PySem.Spec PyProof.Rows L2

/-! ### results -/
inductive Rs where
  | dat (d : Pd)
  | slot (i : Nat)
  | new (o : OB)
def RepR (G : Wd) (F H : Hp) (σ : L2.St) (ρ : En) (H0 : Hp) (v : V) : Rs → Prop
  | .dat d => Dq G.K F v d
  | .slot i => σ[i]? = some (some v)
  | .new o => ∃ p h, v = .ref p ∧ F p = none ∧ H p = some h ∧ OKo G F p h o ∧ H0 p = none ∧ ¬ Own σ ρ p
/-- an operand: data, or the object of a slot -/
def RepA (G : Wd) (F : Hp) (σ : L2.St) (v : V) : Rs → Prop
  | .dat d => Dq G.K F v d
  | .slot i => σ[i]? = some (some v)
  | .new _ => False
abbrev ME := En → Option (Rs × En)
abbrev MA := En → Option (List Rs × En)
abbrev MT := En → Option (Bool × En)
structure DE (X : Cx) (e : Expr) (m : ME) : Prop where
  ex : ∃ t : TE, PE X e t ∧ ∀ (σ : L2.St) (H F : Hp) (ρ : En) (r : Rs) (ρ' : En) (Q : VK), Sat (wd X) F H σ ρ → m ρ = some (r, ρ') →
    (∀ v F' H', Stp (wd X) F H σ ρ F' H' σ ρ' → RepR (wd X) F' H' σ ρ' H v r → Q v H') → t σ H Q
structure DA (X : Cx) (es : List Expr) (m : MA) : Prop where
  ex : ∃ t : TA, PA X es t ∧ ∀ (σ : L2.St) (H F : Hp) (ρ : En) (rs : List Rs) (ρ' : En) (Q : List V → Hp → Prop), Sat (wd X) F H σ ρ → m ρ = some (rs, ρ') →
    (∀ vs F' H', Stp (wd X) F H σ ρ F' H' σ ρ' → Paired (RepA (wd X) F' σ) vs rs → Q vs H') → t σ H Q
structure DT (X : Cx) (e : Expr) (m : MT) : Prop where
  ex : ∃ t : TT, PT X e t ∧ ∀ (σ : L2.St) (H F : Hp) (ρ : En) (b : Bool) (ρ' : En) (Q : Bool → Hp → Prop), Sat (wd X) F H σ ρ → m ρ = some (b, ρ') →
    (∀ F' H', Stp (wd X) F H σ ρ F' H' σ ρ' → Q b H') → t σ H Q
structure DW (X : Cx) (e : Expr) (m : MT) : Prop where
  ex : ∃ t : TT, PW X e t ∧ ∀ (σ : L2.St) (H F : Hp) (ρ : En) (b : Bool) (ρ' : En) (Q : Bool → Hp → Prop), Sat (wd X) F H σ ρ → m ρ = some (b, ρ') →
    (∀ F' H', Stp (wd X) F H σ ρ F' H' σ ρ' → Q b H') → t σ H Q

section
variable {G : Wd} {F H F' H' F1 H1 H0 : Hp} {σ σ' σ1 : L2.St} {ρ ρ' ρ1 : En} {a : Addr} {v : V} {d : Pd}
theorem RepA.mono {r : Rs} (e : Same F F') (h : RepA G F σ v r) : RepA G F' σ v r := by
  cases r with
  | dat d => exact dp_mono e h
  | slot i => exact h
  | new o => exact h
theorem repAs_mono (e : Same F F') : ∀ {vs : List V} {rs : List Rs}, Paired (RepA G F σ) vs rs → Paired (RepA G F' σ) vs rs
  | _, _, .nil => .nil
  | _, _, .cons h q => .cons (h.mono e) (repAs_mono e q)
theorem same_free (e : Same F H) (h : H a = none) : F a = none := Same.free e h
/-- the heap grows by new things -/
theorem stp_grow (s : Sat G F H σ ρ) (e1 : Same F F') (e2 : Same H H') (e3 : Same F' H') (hn : ∀ a, F a = none → F' a ≠ none → H a = none) : Stp G F H σ ρ F' H' σ ρ where
  sat := by
    refine ⟨e3, s.len, fun i d h => ?_, fun i o h => ?_, s.sep⟩
    · obtain ⟨v, h1, h2⟩ := s.dat i d h
      exact ⟨v, h1, dp_mono e1 h2⟩
    · obtain ⟨a, u, h1, h2, h3, h4⟩ := s.obj i o h
      refine ⟨a, u, h1, ?_, e2 _ _ h3, h4.mono e1⟩
      cases q : F' a with
      | none => rfl
      | some z =>
        have w := hn a h2 (by rw [q]; exact nofun)
        rw [h3] at w
        cases w
  ext := e1
  frm := fun a o h _ => e2 a o h
  new := fun a h h' => .inl (hn a h h')
  own := fun a h => .inl h
  len := rfl
  per := fun a h => same_free e2 h
theorem same_upd {p : Addr} {o : HO} (h : H p = none) : Same H (upd H p o) := fun b u e => by
  rw [upd_ne (ne_of_none e h)]
  exact e
/-- a new object that nobody owns is laid down for good -/
theorem freeze_new {p : Addr} {h : HO} (x : Stp G F H σ ρ F1 H1 σ1 ρ1) (h1 : F1 p = none) (h2 : H1 p = some h) (h0 : H p = none) (ho : ¬ Own σ1 ρ1 p) : Stp G F H σ ρ (upd F1 p h) H1 σ1 ρ1 := by
  have e : Same F1 (upd F1 p h) := same_upd h1
  refine ⟨⟨fun b u q => ?_, x.sat.len, fun i d q => let ⟨v, q1, q2⟩ := x.sat.dat i d q; ⟨v, q1, dp_mono e q2⟩, fun i o q => ?_, x.sat.sep⟩, x.ext.trans e, x.frm, fun b q q' => ?_, x.own, x.len, x.per⟩
  · by_cases hb : b = p
    · subst hb
      rw [upd_same] at q
      cases q
      exact h2
    · rw [upd_ne hb] at q
      exact x.sat.sub b u q
  · obtain ⟨b, u, q1, q2, q3, q4⟩ := x.sat.obj i o q
    refine ⟨b, u, q1, ?_, q3, q4.mono e⟩
    have nb : b ≠ p := fun z => ho ⟨i, o, q, z ▸ q1⟩
    rw [upd_ne nb]
    exact q2
  · by_cases hb : b = p
    · subst hb
      exact .inl h0
    · rw [upd_ne hb] at q'
      exact x.new b q q'
def frz1 : Rs → Option Rs
  | .new (.lst ds) => some (.dat (.list ds))
  | .new _ => none
  | r => some r
theorem frz1_ok {r r' : Rs} (x : Stp G F H σ ρ F1 H1 σ ρ1) (h : RepR G F1 H1 σ ρ1 H v r) (e : frz1 r = some r') : ∃ F2, Stp G F H σ ρ F2 H1 σ ρ1 ∧ Same F1 F2 ∧ RepA G F2 σ v r' := by
  cases r with
  | dat d =>
    cases e
    exact ⟨F1, x, Same.refl _, h⟩
  | slot i =>
    cases e
    exact ⟨F1, x, Same.refl _, h⟩
  | new o =>
    cases o with
    | lst ds =>
      cases e
      obtain ⟨p, u, rfl, h1, h2, ⟨xs, rfl, h3⟩, h4, h5⟩ := h
      have e := same_upd (o := HO.lst xs) h1
      exact ⟨_, freeze_new x h1 h2 h4 h5, e, .lst upd_same (dpAll_mono e h3)⟩
    | dct _ => cases e
    | dtt _ => cases e
    | set _ _ => cases e
def lookS (ρ : En) : Rs → Option Pd
  | .dat d => some d
  | .slot i => match ρ[i]? with
    | some (some (.dat d)) => some d
    | some (some (.obj (.lst ds))) => some (.list ds)
    | _ => none
  | .new _ => none
def looks (ρ : En) : List Rs → Option (List Pd)
  | [] => some []
  | r :: rs => (lookS ρ r).bind fun d => (looks ρ rs).map (d :: ·)
/-- v is seen as d: laid down for good, or a list that somebody owns -/
def Vw (G : Wd) (F H : Hp) (v : V) (d : Pd) : Prop := Dq G.K F v d ∨ ∃ a xs ds, v = .ref a ∧ H a = some (.lst xs) ∧ DqAll G.K F xs ds ∧ d = .list ds
theorem Vw.dp (e : Same F H) (h : Vw G F H v d) : Dq G.K H v d := by
  rcases h with h | ⟨a, xs, ds, rfl, h1, h2, rfl⟩
  · exact dp_mono e h
  · exact .lst h1 (dpAll_mono e h2)
theorem vw_of {r : Rs} (s : Sat G F H σ ρ) (h : RepA G F σ v r) (e : lookS ρ r = some d) : Vw G F H v d := by
  cases r with
  | dat d =>
    cases e
    exact .inl h
  | new o => cases h
  | slot i =>
    have h' : σ[i]? = some (some v) := h
    simp only [lookS] at e
    split at e
    · next d' q =>
      cases e
      obtain ⟨w, h1, h2⟩ := s.dat i _ q
      rw [h'] at h1
      cases h1
      exact .inl h2
    · next ds q =>
      cases e
      obtain ⟨a, u, h1, h2, h3, xs, rfl, h4⟩ := s.obj i _ q
      rw [h'] at h1
      cases h1
      exact .inr ⟨a, xs, ds, rfl, h3, h4, rfl⟩
    · cases e
theorem vws_of (s : Sat G F H σ ρ) : ∀ {vs : List V} {rs : List Rs} {ds : List Pd}, Paired (RepA G F σ) vs rs → looks ρ rs = some ds → Paired (Vw G F H) vs ds
  | _, _, ds, .nil, e => by
    cases e
    exact .nil
  | _, _, ds, .cons (b := r) (l₂ := rs) h q, e => by
    unfold looks at e
    cases q1 : lookS ρ r with
    | none => rw [q1] at e; cases e
    | some d =>
      rw [q1] at e
      cases q2 : looks ρ rs with
      | none => rw [q2] at e; cases e
      | some es =>
        rw [q2] at e
        cases e
        exact .cons (vw_of s h q1) (vws_of s q q2)
/-- the view as a list: where it stands, its items -/
theorem Vw.list {ds : List Pd} (e : Same F H) (h : Vw G F H v (.list ds)) : ∃ a xs, v = .ref a ∧ H a = some (.lst xs) ∧ DqAll G.K F xs ds := by
  rcases h with h | ⟨a, xs, ds', rfl, h1, h2, h3⟩
  · cases h with
    | lst h q => exact ⟨_, _, rfl, e _ _ h, q⟩
  · cases h3
    exact ⟨a, xs, rfl, h1, h2⟩
theorem Vw.tuple {ds : List Pd} (e : Same F H) (h : Vw G F H v (.tuple ds)) : ∃ a xs, v = .ref a ∧ H a = some (.tup xs) ∧ DqAll G.K F xs ds := by
  rcases h with h | ⟨a, xs, ds', rfl, h1, h2, h3⟩
  · cases h with
    | tup h q => exact ⟨_, _, rfl, e _ _ h, q⟩
  · cases h3
theorem Vw.int {i : Int} (h : Vw G F H v (.int i)) : v = .int i := by
  rcases h with h | ⟨a, xs, ds', rfl, h1, h2, h3⟩
  · cases h; rfl
  · cases h3
theorem Vw.str {x : Str} (h : Vw G F H v (.str x)) : v = .str x := by
  rcases h with h | ⟨a, xs, ds', rfl, h1, h2, h3⟩
  · cases h; rfl
  · cases h3
theorem Vw.bool {b : Bool} (h : Vw G F H v (.bool b)) : v = .bl b := by
  rcases h with h | ⟨a, xs, ds', rfl, h1, h2, h3⟩
  · cases h; rfl
  · cases h3
theorem Vw.none (h : Vw G F H v .none) : v = .non := by
  rcases h with h | ⟨a, xs, ds', rfl, h1, h2, h3⟩
  · cases h; rfl
  · cases h3
end

/-! ### operations by values -/
/-- what comes of an operation: data, or a new object -/
def RepN (G : Wd) (F' H H' : Hp) (v : V) : Rs → Prop
  | .dat d => Dq G.K F' v d
  | .slot _ => False
  | .new o => ∃ p h, v = .ref p ∧ H p = none ∧ F' p = none ∧ H' p = some h ∧ OKo G F' p h o
structure Grow (F H F' H' : Hp) : Prop where
  e1 : Same F F'
  e2 : Same H H'
  e3 : Same F' H'
  nw : ∀ a, F a = none → F' a ≠ none → H a = none
theorem Grow.refl {F H : Hp} (e : Same F H) : Grow F H F H := ⟨Same.refl _, Same.refl _, e, fun _ h h' => absurd h h'⟩
theorem Grow.both {F H : Hp} {p : Addr} {o : HO} (e : Same F H) (h : H p = none) : Grow F H (upd F p o) (upd H p o) := by
  refine ⟨same_upd (same_free e h), same_upd h, fun b u q => ?_, fun b q q' => ?_⟩
  · by_cases hb : b = p
    · subst hb
      rw [upd_same] at q ⊢
      exact q
    · rw [upd_ne hb] at q ⊢
      exact e b u q
  · by_cases hb : b = p
    · subst hb; exact h
    · rw [upd_ne hb] at q'
      exact absurd q q'
theorem Grow.one {F H : Hp} {p : Addr} {o : HO} (e : Same F H) (h : H p = none) : Grow F H F (upd H p o) :=
  ⟨Same.refl _, same_upd h, fun b u q => by
    rw [upd_ne (ne_of_none (e b u q) h)]
    exact e b u q, fun _ q q' => absurd q q'⟩
def BvOk (G : Wd) (r : List V → Hp → VK → Prop) (f : List Pd → Option Rs) : Prop :=
  ∀ (F H : Hp) (vs : List V) (ds : List Pd) (o : Rs) (Q : VK), Same F H → Paired (Vw G F H) vs ds → f ds = some o → (∀ v F' H', Grow F H F' H' → RepN G F' H H' v o → Q v H') → r vs H Q
def mPure (f : List Pd → Option Rs) (ms : MA) : ME := fun ρ => match ms ρ with
  | some (rs, ρ') => match looks ρ' rs with
    | some ds => match f ds with
      | some r => some (r, ρ')
      | none => none
    | none => none
  | none => none
section
variable {G : Wd} {F H F' H' : Hp} {σ : L2.St} {ρ : En} {v : V}
theorem rep_of_n {o : Rs} (s : Sat G F H σ ρ) (g : Grow F H F' H') (h : RepN G F' H H' v o) : Stp G F H σ ρ F' H' σ ρ ∧ RepR G F' H' σ ρ H v o := by
  refine ⟨stp_grow s g.e1 g.e2 g.e3 g.nw, ?_⟩
  cases o with
  | dat d => exact h
  | slot i => exact h.elim
  | new o =>
    obtain ⟨p, u, rfl, h1, h2, h3, h4⟩ := h
    exact ⟨p, u, rfl, h2, h3, h4, h1, fun z => by
      obtain ⟨o, q, _⟩ := s.own_some z
      rw [h1] at q
      cases q⟩
theorem pure_run {r : List V → Hp → VK → Prop} {f : List Pd → Option Rs} {vs : List V} {rs : List Rs} {ds : List Pd} {o : Rs} {F0 H0 : Hp} {ρ0 : En} {Q : VK} (hb : BvOk G r f)
    (x : Stp G F0 H0 σ ρ0 F H σ ρ) (h : Paired (RepA G F σ) vs rs) (e1 : looks ρ rs = some ds) (e2 : f ds = some o)
    (q : ∀ v F' H', Stp G F0 H0 σ ρ0 F' H' σ ρ → RepR G F' H' σ ρ H0 v o → Q v H') : r vs H Q :=
  hb F H vs ds o Q x.sat.sub (vws_of x.sat h e1) e2 fun v F' H' g n => by
    obtain ⟨y, z⟩ := rep_of_n x.sat g n
    refine q v F' H' (x.trans y) ?_
    cases o with
    | dat d => exact z
    | slot i => exact z
    | new o =>
      obtain ⟨p, u, e, z1, z2, z3, z4, z5⟩ := z
      refine ⟨p, u, e, z1, z2, z3, ?_, z5⟩
      exact x.per p z4
end
end Mw

set_option Elab.async false
set_option linter.all false
set_option maxRecDepth 100000
set_option autoImplicit false
namespace Mw
open PySem PySem.Spec PyProof.Rows L2
section
variable {X : Cx} {e a b c : Expr} {es : List Expr} {pos p : Pos} {m ma mb mc : ME} {ms : MA}

/-! ### names, constants -/
def mVar (i : Nat) : ME := fun ρ => match ρ[i]? with
  | some (some (.dat d)) => some (.dat d, ρ)
  | some (some (.obj _)) => some (.slot i, ρ)
  | _ => none
def mC (d : Pd) : ME := fun ρ => some (.dat d, ρ)
theorem de_pv {i : Nat} {x : Str} (h : PE X (.Name x pos) (tVar i)) : DE X (.Name x pos) (mVar i) := by
  refine ⟨_, h, fun σ H F ρ r ρ' Q s e q => ?_⟩
  unfold mVar at e
  split at e
  · next d w =>
    cases e
    obtain ⟨v, h1, h2⟩ := s.dat i d w
    exact ⟨v, h1, q v F H (.refl s) h2⟩
  · next o w =>
    cases e
    obtain ⟨a, u, h1, _⟩ := s.obj i o w
    exact ⟨_, h1, q _ F H (.refl s) h1⟩
  · cases e
theorem dv (i : Nat) {x : Str} (hN : X.N[i]? = some x := by rfl) (hv : Vis X.env.scope x := by first | exact Or.inl rfl | exact Or.inr (Or.inl rfl) | exact Or.inr (Or.inr rfl)) (hd : (x == ("__debug__" : Str)) = false := by decide)
    (hcd : (x == ("__classdict__" : Str)) = false := by decide) : DE X (.Name x pos) (mVar i) := de_pv (pe_var hN hv hd hcd)
theorem de_c {v : V} {d : Pd} (h : PE X e (tC v)) (hd : ∀ F, Dq X.K F v d) : DE X e (mC d) :=
  ⟨_, h, fun σ H F ρ r ρ' Q s e q => by
    cases e
    exact q v F H (.refl s) (hd F)⟩
theorem de_int {i : Int} {j} : DE X (.Constant (.int i) j pos) (mC (.int i)) := de_c pe_int fun _ => .int i
theorem de_str {x : Str} {j} : DE X (.Constant (.str x) j pos) (mC (.str x)) := de_c pe_str fun _ => .str x
theorem de_bl {x : Bool} {j} : DE X (.Constant (.bool x) j pos) (mC (.bool x)) := de_c pe_bl fun _ => .bl x
theorem de_non {j} : DE X (.Constant .none j pos) (mC .none) := de_c pe_non fun _ => .non

/-! ### arguments -/
def mNil : MA := fun ρ => some ([], ρ)
def mCons (m : ME) (ms : MA) : MA := fun ρ => match m ρ with
  | some (r, ρ1) => match frz1 r with
    | some r' => match ms ρ1 with
      | some (rs, ρ2) => some (r' :: rs, ρ2)
      | none => none
    | none => none
  | none => none
theorem mCons_some {m : ME} {ms : MA} {ρ : En} {rs : List Rs} {ρ' : En} (e : mCons m ms ρ = some (rs, ρ')) : ∃ r ρ1 r' rs', m ρ = some (r, ρ1) ∧ frz1 r = some r' ∧ ms ρ1 = some (rs', ρ') ∧ rs = r' :: rs' := by
  unfold mCons at e
  split at e
  · next r ρ1 h1 =>
    split at e
    · next r' h2 =>
      split at e
      · next rs' ρ2 h3 =>
        cases e
        exact ⟨r, ρ1, r', rs', h1, h2, h3, rfl⟩
      · cases e
    · cases e
  · cases e
theorem da_nil : DA X [] mNil := ⟨_, pa_nil, fun σ H F ρ rs ρ' Q s e q => by
  cases e
  exact q [] F H (.refl s) .nil⟩
theorem da_cons (h : DE X e m) (hs : DA X es ms) (hst : starEach (e :: es) X.env = (false, eval e X.env) :: starEach es X.env := by rfl) : DA X (e :: es) (mCons m ms) := by
  obtain ⟨t, ht, k⟩ := h.ex
  obtain ⟨u, hu, l⟩ := hs.ex
  refine ⟨_, pa_cons ht hu hst, fun σ H F ρ rs ρ' Q s e q => ?_⟩
  obtain ⟨r, ρ1, r', rs', e1, e2, e3, rfl⟩ := mCons_some e
  refine k σ H F ρ r ρ1 _ s e1 fun v F1 H1 x1 y1 => ?_
  obtain ⟨F2, x2, em, y2⟩ := frz1_ok x1 y1 e2
  refine l σ H1 F2 ρ1 rs' ρ' _ x2.sat e3 fun vs F3 H3 x3 y3 => ?_
  exact q (v :: vs) F3 H3 (x2.trans x3) (.cons (y2.mono x3.ext) y3)

/-! ### built-in calls, operators -/
theorem mPure_some {f : List Pd → Option Rs} {ms : MA} {ρ : En} {r : Rs} {ρ' : En} (e : mPure f ms ρ = some (r, ρ')) : ∃ rs ds, ms ρ = some (rs, ρ') ∧ looks ρ' rs = some ds ∧ f ds = some r := by
  unfold mPure at e
  split at e
  · next rs ρ1 h1 =>
    split at e
    · next ds h2 =>
      split at e
      · next r' h3 =>
        cases e
        exact ⟨rs, ds, h1, h2, h3⟩
      · cases e
    · cases e
  · cases e
theorem de_callB {x : Str} {id : String} {r : List V → Hp → VK → Prop} {f : List Pd → Option Rs} (hc : CallR X (.builtin id) r) (hb : BvOk (wd X) r f) (hg : Gl X x) (hm : X.mg x = none) (hv : bootBuiltins x = some (.builtin id)) (ha : DA X (e :: es) ms)
    (hn : x ≠ "__name__" := by decide) (hdb : (x == ("__debug__" : Str)) = false := by decide) (hp : ∀ t, PA X (e :: es) t → PE X (.Call (.Name x p) (e :: es) [] pos) (tCB r t) := by intro t ht; exact pe_callB hc hg hm hv ht hn hdb) :
    DE X (.Call (.Name x p) (e :: es) [] pos) (mPure f ms) := by
  obtain ⟨t, ht, k⟩ := ha.ex
  refine ⟨_, hp t ht, fun σ H F ρ r ρ' Q s e q => ?_⟩
  obtain ⟨rs, ds, e1, e2, e3⟩ := mPure_some e
  exact k σ H F ρ rs ρ' _ s e1 fun vs F1 H1 x1 y1 => pure_run hb x1 y1 e2 e3 q
theorem de_callTy {x : Str} {T : String} {r : List V → Hp → VK → Prop} {f : List Pd → Option Rs} (hc : CallR X (.type T) r) (hb : BvOk (wd X) r f) (hg : Gl X x) (hm : X.mg x = none) (hv : bootBuiltins x = some (.type T)) (ha : DA X (e :: es) ms)
    (hn : x ≠ "__name__" := by decide) (hdb : (x == ("__debug__" : Str)) = false := by decide) (hp : ∀ t, PA X (e :: es) t → PE X (.Call (.Name x p) (e :: es) [] pos) (tCB r t) := by intro t ht; exact pe_callTy hc hg hm hv ht hn hdb) :
    DE X (.Call (.Name x p) (e :: es) [] pos) (mPure f ms) := by
  obtain ⟨t, ht, k⟩ := ha.ex
  refine ⟨_, hp t ht, fun σ H F ρ r ρ' Q s e q => ?_⟩
  obtain ⟨rs, ds, e1, e2, e3⟩ := mPure_some e
  exact k σ H F ρ rs ρ' _ s e1 fun vs F1 H1 x1 y1 => pure_run hb x1 y1 e2 e3 q
/-- a two-place operation by values -/
def r2 (r : R2) : List V → Hp → VK → Prop := fun vs H Q => ∃ x y, vs = [x, y] ∧ r x y H Q
def f2 (f : Pd → Pd → Option Rs) : List Pd → Option Rs
  | [a, b] => f a b
  | _ => none
def B2Ok (G : Wd) (r : R2) (f : Pd → Pd → Option Rs) : Prop :=
  ∀ (F H : Hp) (v w : V) (a b : Pd) (o : Rs) (Q : VK), Same F H → Vw G F H v a → Vw G F H w b → f a b = some o → (∀ v F' H', Grow F H F' H' → RepN G F' H H' v o → Q v H') → r v w H Q
theorem B2Ok.l {G : Wd} {r : R2} {f : Pd → Pd → Option Rs} (h : B2Ok G r f) : BvOk G (r2 r) (f2 f) := fun F H vs ds o Q e p q k => by
  cases p with
  | nil => cases q
  | cons p1 p2 => cases p2 with
    | nil => cases q
    | cons p2 p3 => cases p3 with
      | nil => exact ⟨_, _, rfl, h F H _ _ _ _ o Q e p1 p2 q k⟩
      | cons _ _ => cases q
theorem op2_run {r : R2} {ta tb : TE} {f : Pd → Pd → Option Rs} (hb : B2Ok (wd X) r f) (ha : DE X a ma) (hbb : DE X b mb) : ∃ ta tb : TE, PE X a ta ∧ PE X b tb ∧ ∀ (σ : L2.St) (H F : Hp) (ρ : En) (o : Rs) (ρ' : En) (Q : VK), Sat (wd X) F H σ ρ → mPure (f2 f) (mCons ma (mCons mb mNil)) ρ = some (o, ρ') →
    (∀ v F' H', Stp (wd X) F H σ ρ F' H' σ ρ' → RepR (wd X) F' H' σ ρ' H v o → Q v H') → tOp r ta tb σ H Q := by
  obtain ⟨ta, ha, k⟩ := ha.ex
  obtain ⟨tb, hb', l⟩ := hbb.ex
  refine ⟨ta, tb, ha, hb', fun σ H F ρ o ρ' Q s e q => ?_⟩
  obtain ⟨rs, ds, e1, e2, e3⟩ := mPure_some e
  obtain ⟨r1, ρ1, r1', rs1, g1, g2, g3, rfl⟩ := mCons_some e1
  obtain ⟨s1, ρ2, s1', rs2, g4, g5, g6, rfl⟩ := mCons_some g3
  cases g6
  refine k σ H F ρ r1 ρ1 _ s g1 fun v F1 H1 x1 y1 => ?_
  obtain ⟨F2, x2, em, y2⟩ := frz1_ok x1 y1 g2
  refine l σ H1 F2 ρ1 s1 ρ' _ x2.sat g4 fun w F3 H3 x3 y3 => ?_
  obtain ⟨F4, x4, em4, y4⟩ := frz1_ok x3 y3 g5
  obtain ⟨_, _, e0, z⟩ := pure_run hb.l (x2.trans x4) (.cons (y2.mono x4.ext) (.cons y4 .nil)) e2 e3 q
  cases e0
  exact z
def mOp2 (f : Pd → Pd → Option Rs) (ma mb : ME) : ME := mPure (f2 f) (mCons ma (mCons mb mNil))
theorem de_op {op : Operator} {r : R2} {f : Pd → Pd → Option Rs} (ho : OpR X (binaryOp op) r) (hb : B2Ok (wd X) r f) (ha : DE X a ma) (hbb : DE X b mb) : DE X (.BinOp a op b pos) (mOp2 f ma mb) := by
  obtain ⟨ta, tb, h1, h2, k⟩ := op2_run (ta := tC .non) (tb := tC .non) hb ha hbb
  exact ⟨_, pe_op ho h1 h2, k⟩
theorem de_cmp {op : CmpOp} {r : R2} {f : Pd → Pd → Option Rs} (ho : OpR X (compareOp op) r) (hb : B2Ok (wd X) r f) (ha : DE X a ma) (hbb : DE X b mb) (hm : behindInMarks op b = false := by first | exact nomark _ | rfl) : DE X (.Compare a [op] [b] pos) (mOp2 f ma mb) := by
  obtain ⟨ta, tb, h1, h2, k⟩ := op2_run (ta := tC .non) (tb := tC .non) hb ha hbb
  exact ⟨_, pe_cmpR ho h1 h2 hm, k⟩
def mB (m : ME) : MT := fun ρ => match m ρ with
  | some (.dat (.bool b), ρ') => some (b, ρ')
  | _ => none
theorem mB_some {m : ME} {ρ ρ' : En} {b : Bool} (e : mB m ρ = some (b, ρ')) : m ρ = some (.dat (.bool b), ρ') := by
  unfold mB at e
  split at e
  · next q => cases e; exact q
  · cases e
theorem dt_cmp {op : CmpOp} {r : R2} {f : Pd → Pd → Option Rs} (ho : OpR X (compareOp op) r) (hb : B2Ok (wd X) r f) (ha : DE X a ma) (hbb : DE X b mb) (hm : behindInMarks op b = false := by first | exact nomark _ | rfl) : DT X (.Compare a [op] [b] pos) (mB (mOp2 f ma mb)) := by
  obtain ⟨ta, tb, h1, h2, k⟩ := op2_run (ta := tC .non) (tb := tC .non) hb ha hbb
  refine ⟨_, pt_cmpR ho h1 h2 hm, fun σ H F ρ z ρ' Q s e q => ?_⟩
  refine k σ H F ρ _ ρ' _ s (mB_some e) fun v F' H' x y => ?_
  have y' : Dq X.K F' v (.bool z) := y
  cases y'
  exact ⟨z, rfl, q F' H' x⟩
/-- one-place -/
def f1 (f : Pd → Option Rs) : List Pd → Option Rs
  | [a] => f a
  | _ => none
def B1Ok (G : Wd) (r : V → Hp → VK → Prop) (f : Pd → Option Rs) : Prop :=
  ∀ (F H : Hp) (v : V) (a : Pd) (o : Rs) (Q : VK), Same F H → Vw G F H v a → f a = some o → (∀ v F' H', Grow F H F' H' → RepN G F' H H' v o → Q v H') → r v H Q
def mOp1 (f : Pd → Option Rs) (ma : ME) : ME := mPure (f1 f) (mCons ma mNil)
theorem op1_run {r : V → Hp → VK → Prop} {f : Pd → Option Rs} (hb : B1Ok (wd X) r f) (ha : DE X a ma) : ∃ ta : TE, PE X a ta ∧ ∀ (σ : L2.St) (H F : Hp) (ρ : En) (o : Rs) (ρ' : En) (Q : VK), Sat (wd X) F H σ ρ → mOp1 f ma ρ = some (o, ρ') →
    (∀ v F' H', Stp (wd X) F H σ ρ F' H' σ ρ' → RepR (wd X) F' H' σ ρ' H v o → Q v H') → tUn r ta σ H Q := by
  obtain ⟨ta, ha, k⟩ := ha.ex
  refine ⟨ta, ha, fun σ H F ρ o ρ' Q s e q => ?_⟩
  obtain ⟨rs, ds, e1, e2, e3⟩ := mPure_some e
  obtain ⟨r1, ρ1, r1', rs1, g1, g2, g3, rfl⟩ := mCons_some e1
  cases g3
  refine k σ H F ρ r1 _ _ s g1 fun v F1 H1 x1 y1 => ?_
  obtain ⟨F2, x2, em, y2⟩ := frz1_ok x1 y1 g2
  have hl : BvOk (wd X) (fun vs H Q => ∃ x, vs = [x] ∧ r x H Q) (f1 f) := fun F H vs ds o Q e p q k => by
    cases p with
    | nil => cases q
    | cons p1 p2 => cases p2 with
      | nil => exact ⟨_, rfl, hb F H _ _ o Q e p1 q k⟩
      | cons _ _ => cases q
  obtain ⟨_, e0, z⟩ := pure_run hl x2 (.cons y2 .nil) e2 e3 q
  cases e0
  exact z
theorem de_un {op : UnaryOp} {r : V → Hp → VK → Prop} {f : Pd → Option Rs} (ho : UnR X (unaryOp op) r) (hb : B1Ok (wd X) r f) (ha : DE X a ma) : DE X (.UnaryOp op a pos) (mOp1 f ma) := by
  obtain ⟨ta, h1, k⟩ := op1_run hb ha
  exact ⟨_, pe_un ho h1, k⟩

/-! ### truth -/
def truD : Pd → Option Bool
  | .none => some false
  | .bool b => some b
  | .int i => some (i != 0)
  | .str x => if x.length ≤ sizeLine then some ((x.length : Int) != 0) else none
  | .list ds => some (!ds.isEmpty)
  | .tuple ds => some (!ds.isEmpty)
  | .dict _ => none
theorem isEmpty_dp {K : PySem.W.Frag} {F : Hp} {xs : List V} {ds : List Pd} (h : DqAll K F xs ds) : (!ds.isEmpty) = !xs.isEmpty := by
  cases h <;> rfl
theorem tru_of {G : Wd} {F H : Hp} {v : V} {d : Pd} {k : Bool} (e : Same F H) (h : Vw G F H v d) (q : truD d = some k) : TruV G.K v H k := by
  cases d with
  | none => rw [h.none]; cases q; rfl
  | bool b => rw [h.bool]; cases q; rfl
  | int i => rw [h.int]; cases q; rfl
  | str x =>
    rw [h.str]
    simp only [truD] at q
    split at q
    · next hl => cases q; exact ⟨hl, rfl⟩
    · cases q
  | list ds =>
    obtain ⟨a, xs, rfl, h1, h2⟩ := h.list e
    cases q
    exact .inl ⟨xs, SqL.of h1, isEmpty_dp h2⟩
  | tuple ds =>
    obtain ⟨a, xs, rfl, h1, h2⟩ := h.tuple e
    cases q
    exact .inr (.inl ⟨xs, SqT.of h1, isEmpty_dp h2⟩)
  | dict _ => cases q
/-- an operand's truth; the dict of a slot too -/
def truS (ρ : En) (r : Rs) : Option Bool := match r with
  | .slot i => match ρ[i]? with
    | some (some (.obj (.dct kvs))) => some (!kvs.isEmpty)
    | _ => (lookS ρ r).bind truD
  | _ => (lookS ρ r).bind truD
theorem truS_of {G : Wd} {F H : Hp} {σ : L2.St} {ρ : En} {v : V} {r : Rs} {k : Bool} (s : Sat G F H σ ρ) (h : RepA G F σ v r) (e : truS ρ r = some k) : TruV G.K v H k := by
  have gen : (lookS ρ r).bind truD = some k → TruV G.K v H k := fun q => by
    cases q1 : lookS ρ r with
    | none => rw [q1] at q; cases q
    | some d =>
      rw [q1] at q
      exact tru_of s.sub (vw_of s h q1) q
  cases r with
  | dat d => exact gen e
  | new o => cases h
  | slot i =>
    simp only [truS] at e
    split at e
    · next kvs w =>
      cases e
      obtain ⟨a, u, h1, h2, h3, ks, rfl, h4⟩ := s.obj i _ w
      have h' : σ[i]? = some (some v) := h
      rw [h'] at h1
      cases h1
      refine .inr (.inr ⟨ks, h3, ?_⟩)
      cases h4 <;> rfl
    · exact gen e
def mTru (m : ME) : MT := fun ρ => match m ρ with
  | some (r, ρ') => match frz1 r with
    | some r' => match truS ρ' r' with
      | some k => some (k, ρ')
      | none => none
    | none => none
  | none => none
theorem mTru_some {m : ME} {ρ ρ' : En} {k : Bool} (e : mTru m ρ = some (k, ρ')) : ∃ r r', m ρ = some (r, ρ') ∧ frz1 r = some r' ∧ truS ρ' r' = some k := by
  unfold mTru at e
  split at e
  · next r ρ1 h1 =>
    split at e
    · next r' h2 =>
      split at e
      · next k' h3 => cases e; exact ⟨r, r', h1, h2, h3⟩
      · cases e
    · cases e
  · cases e
theorem dt_truth (h : DE X e m) (he : ∀ whole, isTrue e X.env whole = (do let v ← whole; standAt e.pos; holding [v] (truthy v)) := by intro _; rfl) : DT X e (mTru m) := by
  obtain ⟨t, ht, k⟩ := h.ex
  refine ⟨_, pt_truth ht he, fun σ H F ρ b ρ' Q s e q => ?_⟩
  obtain ⟨r, r', e1, e2, e3⟩ := mTru_some e
  refine k σ H F ρ r ρ' _ s e1 fun v F1 H1 x1 y1 => ?_
  obtain ⟨F2, x2, em, y2⟩ := frz1_ok x1 y1 e2
  exact ⟨b, truS_of x2.sat y2 e3, q F2 H1 x2⟩

/-! ### and, or, not -/
variable {rest : List Expr} {mt mu : MT}
def mAnd (m n : MT) : MT := fun ρ => match m ρ with
  | some (true, ρ') => n ρ'
  | r => r
def mOr (m n : MT) : MT := fun ρ => match m ρ with
  | some (false, ρ') => n ρ'
  | r => r
def mNot (m : MT) : MT := fun ρ => match m ρ with
  | some (b, ρ') => some (!b, ρ')
  | none => none
theorem dt_w (h : DW X e mt) : DT X e mt := let ⟨t, ht, k⟩ := h.ex; ⟨t, ht.pt, k⟩
theorem dw_and1 (h : DT X a mt) : DW X (.BoolOp .And [a] pos) mt := let ⟨t, ht, k⟩ := h.ex; ⟨t, pw_and1 ht, k⟩
theorem dw_or1 (h : DT X a mt) : DW X (.BoolOp .Or [a] pos) mt := let ⟨t, ht, k⟩ := h.ex; ⟨t, pw_or1 ht, k⟩
theorem dw_and (h : DT X a mt) (h2 : DW X (.BoolOp .And (b :: rest) pos) mu) : DW X (.BoolOp .And (a :: b :: rest) pos) (mAnd mt mu) := by
  obtain ⟨t, ht, k⟩ := h.ex
  obtain ⟨u, hu, l⟩ := h2.ex
  refine ⟨_, pw_and ht hu, fun σ H F ρ z ρ' Q s e q => ?_⟩
  unfold mAnd at e
  split at e
  · next ρ1 e1 =>
    refine k σ H F ρ true ρ1 _ s e1 fun F1 H1 x1 => ?_
    show if true = true then _ else _
    rw [if_pos rfl]
    exact l σ H1 F1 ρ1 z ρ' Q x1.sat e fun F2 H2 x2 => q F2 H2 (x1.trans x2)
  · next w =>
    refine k σ H F ρ z ρ' _ s e fun F1 H1 x1 => ?_
    cases z with
    | true => exact absurd e (w ρ')
    | false => exact q F1 H1 x1
theorem dw_or (h : DT X a mt) (h2 : DW X (.BoolOp .Or (b :: rest) pos) mu) : DW X (.BoolOp .Or (a :: b :: rest) pos) (mOr mt mu) := by
  obtain ⟨t, ht, k⟩ := h.ex
  obtain ⟨u, hu, l⟩ := h2.ex
  refine ⟨_, pw_or ht hu, fun σ H F ρ z ρ' Q s e q => ?_⟩
  unfold mOr at e
  split at e
  · next ρ1 e1 =>
    refine k σ H F ρ false ρ1 _ s e1 fun F1 H1 x1 => ?_
    show if false = true then _ else _
    rw [if_neg Bool.false_ne_true]
    exact l σ H1 F1 ρ1 z ρ' Q x1.sat e fun F2 H2 x2 => q F2 H2 (x1.trans x2)
  · next w =>
    refine k σ H F ρ z ρ' _ s e fun F1 H1 x1 => ?_
    cases z with
    | false => exact absurd e (w ρ')
    | true => exact q F1 H1 x1
theorem dt_not (h : DT X a mt) : DT X (.UnaryOp .Not a pos) (mNot mt) := by
  obtain ⟨t, ht, k⟩ := h.ex
  refine ⟨_, pt_not ht, fun σ H F ρ z ρ' Q s e q => ?_⟩
  unfold mNot at e
  split at e
  · next b ρ1 e1 =>
    cases e
    exact k σ H F ρ b ρ' _ s e1 fun F1 H1 x1 => q F1 H1 x1
  · cases e
/-- as values -/
def mAndV (m n : ME) : ME := fun ρ => match m ρ with
  | some (r, ρ') => match frz1 r with
    | some r' => match truS ρ' r' with
      | some true => n ρ'
      | some false => some (r, ρ')
      | none => none
    | none => none
  | none => none
def mOrV (m n : ME) : ME := fun ρ => match m ρ with
  | some (r, ρ') => match frz1 r with
    | some r' => match truS ρ' r' with
      | some false => n ρ'
      | some true => some (r, ρ')
      | none => none
    | none => none
  | none => none
def mNotV (m : ME) : ME := fun ρ => match mTru m ρ with
  | some (b, ρ') => some (.dat (.bool (!b)), ρ')
  | none => none
theorem de_one {op} (h : DE X a m) : DE X (.BoolOp op [a] pos) m := let ⟨t, ht, k⟩ := h.ex; ⟨t, pe_one ht, k⟩
theorem repR_of_A {G : Wd} {F H H0 : Hp} {σ : L2.St} {ρ : En} {v : V} {r : Rs} (h : RepA G F σ v r) : RepR G F H σ ρ H0 v r := by
  cases r with
  | dat d => exact h
  | slot i => exact h
  | new o => exact h.elim
theorem repR_back {G : Wd} {F H F1 H1 H2 F2 : Hp} {σ : L2.St} {ρ ρ1 ρ2 : En} {v : V} {r : Rs} (x : Stp G F H σ ρ F1 H1 σ ρ1) (h : RepR G F2 H2 σ ρ2 H1 v r) : RepR G F2 H2 σ ρ2 H v r := by
  cases r with
  | dat d => exact h
  | slot i => exact h
  | new o =>
    obtain ⟨p, u, e, h1, h2, h3, h4, h5⟩ := h
    exact ⟨p, u, e, h1, h2, h3, x.per p h4, h5⟩
theorem de_and (h : DE X a m) (h2 : DE X (.BoolOp .And (b :: rest) pos) mb) : DE X (.BoolOp .And (a :: b :: rest) pos) (mAndV m mb) := by
  obtain ⟨t, ht, k⟩ := h.ex
  obtain ⟨u, hu, l⟩ := h2.ex
  refine ⟨_, pe_andT ht hu, fun σ H F ρ z ρ' Q s e q => ?_⟩
  unfold mAndV at e
  split at e
  · next r ρ1 e1 =>
    split at e
    · next r' e2 =>
      refine k σ H F ρ r ρ1 _ s e1 fun v F1 H1 x1 y1 => ?_
      obtain ⟨F2, x2, em, y2⟩ := frz1_ok x1 y1 e2
      split at e
      · next e3 =>
        refine ⟨true, truS_of x2.sat y2 e3, ?_⟩
        rw [if_pos rfl]
        exact l σ H1 F2 ρ1 z ρ' Q x2.sat e fun w F3 H3 x3 y3 => q w F3 H3 (x2.trans x3) (repR_back x2 y3)
      · next e3 =>
        refine ⟨false, truS_of x2.sat y2 e3, ?_⟩
        rw [if_neg Bool.false_ne_true]
        cases e
        exact q v F1 H1 x1 y1
      · cases e
    · cases e
  · cases e
theorem de_or (h : DE X a m) (h2 : DE X (.BoolOp .Or (b :: rest) pos) mb) : DE X (.BoolOp .Or (a :: b :: rest) pos) (mOrV m mb) := by
  obtain ⟨t, ht, k⟩ := h.ex
  obtain ⟨u, hu, l⟩ := h2.ex
  refine ⟨_, pe_orT ht hu, fun σ H F ρ z ρ' Q s e q => ?_⟩
  unfold mOrV at e
  split at e
  · next r ρ1 e1 =>
    split at e
    · next r' e2 =>
      refine k σ H F ρ r ρ1 _ s e1 fun v F1 H1 x1 y1 => ?_
      obtain ⟨F2, x2, em, y2⟩ := frz1_ok x1 y1 e2
      split at e
      · next e3 =>
        refine ⟨false, truS_of x2.sat y2 e3, ?_⟩
        rw [if_neg Bool.false_ne_true]
        exact l σ H1 F2 ρ1 z ρ' Q x2.sat e fun w F3 H3 x3 y3 => q w F3 H3 (x2.trans x3) (repR_back x2 y3)
      · next e3 =>
        refine ⟨true, truS_of x2.sat y2 e3, ?_⟩
        rw [if_pos rfl]
        cases e
        exact q v F1 H1 x1 y1
      · cases e
    · cases e
  · cases e
theorem de_not (h : DE X a m) : DE X (.UnaryOp .Not a pos) (mNotV m) := by
  obtain ⟨t, ht, k⟩ := h.ex
  refine ⟨_, pe_notT ht, fun σ H F ρ z ρ' Q s e q => ?_⟩
  unfold mNotV at e
  split at e
  · next b ρ1 e0 =>
    cases e
    obtain ⟨r, r', e1, e2, e3⟩ := mTru_some e0
    refine k σ H F ρ r _ _ s e1 fun v F1 H1 x1 y1 => ?_
    obtain ⟨F2, x2, em, y2⟩ := frz1_ok x1 y1 e2
    exact ⟨b, truS_of x2.sat y2 e3, q _ F2 H1 x2 (Dq.bl _)⟩
  · cases e
def mIf (t : MT) (m n : ME) : ME := fun ρ => match t ρ with
  | some (true, ρ') => m ρ'
  | some (false, ρ') => n ρ'
  | none => none
theorem de_if (hc : DT X c mt) (ha : DE X a ma) (hb : DE X b mb) : DE X (.IfExp c a b pos) (mIf mt ma mb) := by
  obtain ⟨t, ht, k⟩ := hc.ex
  obtain ⟨u, hu, l⟩ := ha.ex
  obtain ⟨w, hw, n⟩ := hb.ex
  refine ⟨_, pe_ifExp ht hu hw, fun σ H F ρ z ρ' Q s e q => ?_⟩
  unfold mIf at e
  split at e
  · next ρ1 e1 =>
    refine k σ H F ρ true ρ1 _ s e1 fun F1 H1 x1 => ?_
    show if true = true then _ else _
    rw [if_pos rfl]
    exact l σ H1 F1 ρ1 z ρ' Q x1.sat e fun w F3 H3 x3 y3 => q w F3 H3 (x1.trans x3) (repR_back x1 y3)
  · next ρ1 e1 =>
    refine k σ H F ρ false ρ1 _ s e1 fun F1 H1 x1 => ?_
    show if false = true then _ else _
    rw [if_neg Bool.false_ne_true]
    exact n σ H1 F1 ρ1 z ρ' Q x1.sat e fun w F3 H3 x3 y3 => q w F3 H3 (x1.trans x3) (repR_back x1 y3)
  · cases e
end
end Mw

set_option Elab.async false
set_option linter.all false
set_option maxRecDepth 100000
set_option autoImplicit false
namespace Mw
open PySem PySem.Spec PyProof.Rows L2

/-! ### a def's promise, where nothing is being shown -/
structure FnG (P : Program) (w : World) (K : PySem.W.Frag) (mg : Str → Option Value) (base : Heap) (k : Nat) (f : Addr) (fd : FuncData) (ps : List Str) (sp : Sp) : Prop where
  len : ∀ vs H Q E, sp vs H Q E → vs.length = ps.length
  run : ∀ (A : Around) (outer : List PySem.Env) (s : Shared) (H : Hp) (args : Args) (us : List Value) (vs : List V) (Q : VK) (E : XK),
    Room k A → A.guards = some [] → Env0 P w K mg base A outer s H → BindsTo s fd args (ps.zip us) → Vals vs us → sp vs H Q E →
      codeAny (model P w) A (.call (.ref f) args) (CR (L2.CX P w) outer P w H s Q E) s
theorem FnG.imp {P : Program} {w : World} {K : PySem.W.Frag} {mg : Str → Option Value} {base : Heap} {k : Nat} {f : Addr} {fd : FuncData} {ps : List Str} {sp sp' : Sp}
    (F : FnG P w K mg base k f fd ps sp) (h : ∀ vs H Q E, sp' vs H Q E → sp vs H Q E) : FnG P w K mg base k f fd ps sp' :=
  ⟨fun vs H Q E q => F.len vs H Q E (h vs H Q E q), fun A outer s H args us vs Q E r g e0 b v q => F.run A outer s H args us vs Q E r g e0 b v (h vs H Q E q)⟩
theorem FnG.up {P : Program} {w : World} {K : PySem.W.Frag} {mg : Str → Option Value} {base : Heap} {j k : Nat} {f : Addr} {fd : FuncData} {ps : List Str} {sp : Sp}
    (F : FnG P w K mg base j f fd ps sp) (h : j ≤ k) : FnG P w K mg base k f fd ps sp :=
  ⟨F.len, fun A outer s H args us vs Q E r g e0 b v q => F.run A outer s H args us vs Q E (r.mono h) g e0 b v q⟩
/-- the context of a body of ours -/
abbrev cxG (P : Program) (w : World) (K : PySem.W.Frag) (mg : Str → Option Value) (base : Heap) (N : List Str) (qual : Str) (st : Stmt) (f : Addr) (cdv : Value) (A : Around) (outer : List PySem.Env) (s : Shared) (H : Hp) (E : XK) : Cx :=
  cxOf (L2.CX P w) P w K mg base N qual (defScope st) f cdv A outer s H E
theorem fnG_mk {P : Program} {w : World} {K : PySem.W.Frag} {mg : Str → Option Value} {base : Heap} {x qual : Str} {st : Stmt} {f : Addr} {fd : FuncData} {N ps : List Str} {k : Nat} {sp : Sp}
    (F : Fun K x qual st f fd) (S : FnScope N ps (defScope st)) (hl : ∀ vs H Q E, sp vs H Q E → vs.length = ps.length)
    (body : ∀ (cdv : Value) (A : Around) (outer : List PySem.Env) (s : Shared) (H : Hp) (vs : List V) (Q : VK) (E : XK), Room k (A.deeper (envOfC qual (defScope st) s.heap.objs.size f cdv)) → A.guards = some [] → sp vs H Q E →
      ∃ t, PSs (cxG P w K mg base N qual st f cdv A outer s H E) (defBody st) t ∧ t { nx := fun _ H' => Q .non H', rt := Q } (start N vs) H) :
    FnG P w K mg base (k + 1) f fd ps sp := by
  obtain ⟨oc, od, kV, doc, pm, an, cdv, ct, osl, rfl, lk, hcode⟩ := F.ex
  constructor
  · exact hl
  · intro A outer s H args us vs Q E room gd e0 bind rel want
    have hlen := hl _ _ _ _ want
    have stay : ∀ b o, base.get? b = some o → s.heap.get? b = some o := fun b o q => (e0.bs b o q).1
    have inK : K.In s.heap := e0.mod.kin.keeps stay
    have nl : s.heap.NoLimit := e0.mod.nolimit.keeps stay
    refine codeAny_call_function room.depth (inK _ _ lk) rfl S.co S.gen rfl (PySem.W.codeRec_of inK hcode) (bind _ _ _ _ ?_)
    refine wpAny_newFunctionEnv_cells S.kind (fun ⟨n, v⟩ hy => ?_) fun env he s1 en => ?_
    · exact (S.par n (List.of_mem_zip hy).1).imp id fun q => ⟨q, PySem.W.cellsFrom_some _ _ _ (.inl q)⟩
    · subst he
      obtain ⟨t, ht, hq⟩ := body cdv A outer s H vs Q E (room.deeper _) gd want
      have J0 := inv_start (CX := L2.CX P w) (E := E) S room.hd e0 hlen rel en
      refine ⟨nl.keeps en.toInCall.keep, codeAny_func (wpAny_mono (ht.run [] s1 _ H _ J0 hq) (fun fl s' z => ?_) fun _ _ z => z)⟩
      cases fl with
      | next =>
        obtain ⟨σ', H', J, q⟩ := z
        exact ⟨.non, H', J.os, J.bare, J.base, J.hok, rfl, q⟩
      | ret u =>
        obtain ⟨v, σ', H', J, rv, q⟩ := z
        exact ⟨v, H', J.os, J.bare, J.base, J.hok, rv, q⟩
      | brk =>
        obtain ⟨_, _, _, q⟩ := z
        exact q.elim
      | cont =>
        obtain ⟨_, _, _, q⟩ := z
        exact q.elim
section
variable {X : Cx} {k : Nat} {f : Addr} {fd : FuncData} {ps ks : List Str} {sp : Sp} {E : XK} {x : Str} {p pos : Pos} {e : Expr} {es : List Expr} {kws : List Keyword} {t tk : TA}
/-- the answer of a call, as the caller's state has it -/
theorem back_of {pins : List (Addr × Obj)} {σ : L2.St} {H : Hp} {s : Shared} {Q : VK} (hx : Passes (L2.CX X.prog X.w) X E) (I : Inv X pins σ H s) {cd : Code}
    (h : codeAny (model X.prog X.w) X.A cd (CR (L2.CX X.prog X.w) X.stack X.prog X.w H s Q E) s) :
    codeAny (model X.prog X.w) X.A cd (fun r s' => match r with | .ok (.ret u) => EP X pins σ Q u s' | .ok _ => False | .error er => X.xe er s') s :=
  codeAny_mono h fun r s' q => by
    cases r with
    | error er => exact hx pins σ H s er s' I q
    | ok fl =>
      cases fl with
      | ret u => exact I.after q
      | next => exact q.elim
      | brk => exact q.elim
      | cont => exact q.elim
theorem runG {pins : List (Addr × Obj)} {σ : L2.St} {H : Hp} {s : Shared} {Q : VK} {us ws : List Value} {vs : List V} {kw : List (Str × Value)} (F : FnG X.prog X.w X.K X.mg X.base k f fd ps sp) (hr : Room k X.A) (hgd : X.A.guards = some [])
    (hx : Passes (L2.CX X.prog X.w) X E) (I : Inv X pins σ H s) (hb : BindsTo s fd ⟨us, kw⟩ (ps.zip ws)) (r : Vals vs ws) (h : sp vs H Q E) : wpAny (model X.prog X.w) X.A (call (.ref f) us kw) (EP X pins σ Q) X.xe s := by
  refine wpAny_call (codeAny_mono (back_of (pins := pins) (σ := σ) hx I (F.run X.A X.stack s H ⟨us, kw⟩ ws vs Q E hr hgd I.env0 hb r h)) fun r s' q => ?_)
  cases r with
  | error er => exact q
  | ok fl => cases fl <;> exact q
theorem peG_call (F : FnG X.prog X.w X.K X.mg X.base k f fd ps sp) (hr : Room k X.A) (hgd : X.A.guards = some []) (hg : Gl X x) (hm : X.mg x = some (.ref f)) (hk : PySem.W.keepIn X.K (.ref f) = true) (hb : Binds X.K fd ps []) (hx : Passes (L2.CX X.prog X.w) X E)
    (ha : PA X (e :: es) t) (hdb : (x == ("__debug__" : Str)) = false := by decide) (he : starEach (e :: es) X.env = (false, eval e X.env) :: starEach es X.env := by rfl)
    (hpl : (backTo pos (starEach es X.env)).any (·.1) = false := by rfl) : PE X (.Call (.Name x p) (e :: es) [] pos) (fun σ H Q => t σ H fun vs H1 => sp vs H1 Q E) := by
  constructor
  intro pins s σ H Q I h
  apply wpAny_Call_Name_kw
  refine ld_glob I hg hm ?_ hdb
  refine PySem.W.callWith_K (h₀ := X.base) I.ok.mod.kin hk ?_ he hpl
  refine thn (ha.run pos pins s σ H _ I h) fun us s1 z => ?_
  obtain ⟨vs, H1, I1, r, q⟩ := z
  refine ⟨I1.kIn, ?_⟩
  have hlu : us.length = ps.length := r.length.symm.trans (F.len _ _ _ _ q)
  have b := hb s1 us I1.kIn (by rw [List.append_nil]; exact hlu)
  rw [List.append_nil] at b
  exact runG F hr hgd hx I1 b r q
theorem peG_call0 (F : FnG X.prog X.w X.K X.mg X.base k f fd ps sp) (hr : Room k X.A) (hgd : X.A.guards = some []) (hg : Gl X x) (hm : X.mg x = some (.ref f)) (hk : PySem.W.keepIn X.K (.ref f) = true) (hb : Binds X.K fd ps []) (hx : Passes (L2.CX X.prog X.w) X E)
    (hdb : (x == ("__debug__" : Str)) = false := by decide) : PE X (.Call (.Name x p) [] [] pos) (fun σ H Q => sp [] H Q E) := by
  constructor
  intro pins s σ H Q I h
  apply wpAny_Call_Name_kw
  refine ld_glob I hg hm ?_ hdb
  refine PySem.W.callWith_K0 I.kIn hk ?_
  have hlu : ([] : List V).length = ps.length := F.len _ _ _ _ h
  have b := hb s [] I.kIn hlu
  exact runG (vs := []) F hr hgd hx I b .nil h
/-- no exception is wished for -/
theorem passes0 : Passes (L2.CX X.prog X.w) X (fun _ _ _ => False) := fun _ _ _ _ _ _ _ ⟨_, _, _, _, _, _, _, _, _, _, _, _, z⟩ => z.elim
end
end Mw

set_option Elab.async false
set_option linter.all false
set_option maxRecDepth 100000
set_option autoImplicit false
namespace Mw
open PySem PySem.Spec PyProof.Rows L2

/-! ### statements -/
inductive Fl where
  | next
  | ret (r : Rs)
  | brk
  | cnt
abbrev MS := En → Option (Fl × En)
def EndP (G : Wd) (H0 : Hp) (D : Ends) (fl : Fl) (σ' : L2.St) (F' H' : Hp) (ρ' : En) : Prop := match fl with
  | .next => D.nx σ' H'
  | .brk => D.bk σ' H'
  | .cnt => D.ct σ' H'
  | .ret r => ∀ v, RepR G F' H' σ' ρ' H0 v r → D.rt v H'
/-- the slots that must stay -/
def Kp (B : List Nat) (σ σ' : L2.St) : Prop := ∀ i ∈ B, σ'[i]? = σ[i]?
theorem Kp.refl {B : List Nat} {σ : L2.St} : Kp B σ σ := fun _ _ => rfl
theorem Kp.trans {B : List Nat} {σ σ1 σ2 : L2.St} (a : Kp B σ σ1) (b : Kp B σ1 σ2) : Kp B σ σ2 := fun i h => (b i h).trans (a i h)
structure DS (X : Cx) (B : List Nat) (st : Stmt) (m : MS) : Prop where
  ex : ∃ t : TS, PS X st t ∧ ∀ (σ : L2.St) (H F : Hp) (ρ : En) (fl : Fl) (ρ' : En) (D : Ends), Sat (wd X) F H σ ρ → m ρ = some (fl, ρ') →
    (∀ σ' F' H', Stp (wd X) F H σ ρ F' H' σ' ρ' → Kp B σ σ' → EndP (wd X) H D fl σ' F' H' ρ') → t D σ H
structure DSs (X : Cx) (B : List Nat) (sts : List Stmt) (m : MS) : Prop where
  ex : ∃ t : TS, PSs X sts t ∧ ∀ (σ : L2.St) (H F : Hp) (ρ : En) (fl : Fl) (ρ' : En) (D : Ends), Sat (wd X) F H σ ρ → m ρ = some (fl, ρ') →
    (∀ σ' F' H', Stp (wd X) F H σ ρ F' H' σ' ρ' → Kp B σ σ' → EndP (wd X) H D fl σ' F' H' ρ') → t D σ H
section
variable {X : Cx} {B : List Nat} {st : Stmt} {sts : List Stmt} {m n : MS} {pos : Pos} {e c : Expr} {me : ME} {mt : MT}
def mSkip : MS := fun ρ => some (.next, ρ)
def mSeq (m n : MS) : MS := fun ρ => match m ρ with
  | some (.next, ρ') => n ρ'
  | r => r
theorem endP_back {G : Wd} {F H F1 H1 F2 H2 : Hp} {σ σ1 σ2 : L2.St} {ρ ρ1 ρ2 : En} {D : Ends} {fl : Fl} (x : Stp G F H σ ρ F1 H1 σ1 ρ1) (h : EndP G H D fl σ2 F2 H2 ρ2) : EndP G H1 D fl σ2 F2 H2 ρ2 := by
  cases fl with
  | next => exact h
  | brk => exact h
  | cnt => exact h
  | ret r => exact fun v q => h v (by
      cases r with
      | dat d => exact q
      | slot i => exact q
      | new o =>
        obtain ⟨p, u, e, h1, h2, h3, h4, h5⟩ := q
        exact ⟨p, u, e, h1, h2, h3, x.per p h4, h5⟩)
theorem dss_nil : DSs X B [] mSkip := ⟨_, pss_nil, fun σ H F ρ fl ρ' D s e q => by
  cases e
  exact q σ F H (.refl s) .refl⟩
theorem dss_one (h : DS X B st m) : DSs X B [st] m := let ⟨t, ht, k⟩ := h.ex; ⟨t, pss_one ht, k⟩
theorem dss_cons (h : DS X B st m) (h2 : DSs X B sts n) : DSs X B (st :: sts) (mSeq m n) := by
  obtain ⟨t, ht, k⟩ := h.ex
  obtain ⟨u, hu, l⟩ := h2.ex
  refine ⟨_, pss_cons ht hu, fun σ H F ρ fl ρ' D s e q => ?_⟩
  show t { D with nx := u D } σ H
  unfold mSeq at e
  split at e
  · next ρ1 e1 =>
    refine k σ H F ρ .next ρ1 _ s e1 fun σ1 F1 H1 x1 y1 => ?_
    exact l σ1 H1 F1 ρ1 fl ρ' D x1.sat e fun σ2 F2 H2 x2 y2 => endP_back x1 (q σ2 F2 H2 (x1.trans x2) (y1.trans y2))
  · next w =>
    refine k σ H F ρ fl ρ' _ s e fun σ1 F1 H1 x1 y1 => ?_
    have z := q σ1 F1 H1 x1 y1
    cases fl with
    | next => exact absurd e (w ρ')
    | brk => exact z
    | cnt => exact z
    | ret r => exact z
theorem ds_pass : DS X B (.Pass pos) mSkip := ⟨_, ps_pass, fun σ H F ρ fl ρ' D s e q => by
  cases e
  exact q σ F H (.refl s) .refl⟩
def mBrk : MS := fun ρ => some (.brk, ρ)
def mCnt : MS := fun ρ => some (.cnt, ρ)
theorem ds_break : DS X B (.Break pos) mBrk := ⟨_, ps_break, fun σ H F ρ fl ρ' D s e q => by
  cases e
  exact q σ F H (.refl s) .refl⟩
theorem ds_continue : DS X B (.Continue pos) mCnt := ⟨_, ps_continue, fun σ H F ρ fl ρ' D s e q => by
  cases e
  exact q σ F H (.refl s) .refl⟩
def mDrop (m : ME) : MS := fun ρ => match m ρ with
  | some (_, ρ') => some (.next, ρ')
  | none => none
theorem ds_expr (h : DE X e me) (hs : swapsWith e none pos.line X.env = pure false := by rfl) : DS X B (.Expr e pos) (mDrop me) := by
  obtain ⟨t, ht, k⟩ := h.ex
  refine ⟨_, ps_expr ht hs, fun σ H F ρ fl ρ' D s e q => ?_⟩
  unfold mDrop at e
  split at e
  · next r ρ1 e1 =>
    cases e
    exact k σ H F ρ r _ _ s e1 fun v F1 H1 x1 _ => q σ F1 H1 x1 .refl
  · cases e
def mRet (m : ME) : MS := fun ρ => match m ρ with
  | some (r, ρ') => some (.ret r, ρ')
  | none => none
theorem ds_ret (h : DE X e me) : DS X B (.Return (some e) pos) (mRet me) := by
  obtain ⟨t, ht, k⟩ := h.ex
  refine ⟨_, ps_ret ht, fun σ H F ρ fl ρ' D s e q => ?_⟩
  unfold mRet at e
  split at e
  · next r ρ1 e1 =>
    cases e
    exact k σ H F ρ r _ _ s e1 fun v F1 H1 x1 y1 => q σ F1 H1 x1 .refl v y1
  · cases e
def mRetN : MS := fun ρ => some (.ret (.dat .none), ρ)
theorem ds_retN : DS X B (.Return none pos) mRetN := ⟨_, ps_retN, fun σ H F ρ fl ρ' D s e q => by
  cases e
  exact q σ F H (.refl s) .refl .non .non⟩
def mIfS (t : MT) (m n : MS) : MS := fun ρ => match t ρ with
  | some (true, ρ') => m ρ'
  | some (false, ρ') => n ρ'
  | none => none
theorem ds_if {as bs : List Stmt} (hc : DT X c mt) (ha : DSs X B as m) (hb : DSs X B bs n) : DS X B (.If c as bs pos) (mIfS mt m n) := by
  obtain ⟨t, ht, k⟩ := hc.ex
  obtain ⟨u, hu, l⟩ := ha.ex
  obtain ⟨w, hw, o⟩ := hb.ex
  refine ⟨_, ps_if ht hu hw, fun σ H F ρ fl ρ' D s e q => ?_⟩
  unfold mIfS at e
  split at e
  · next ρ1 e1 =>
    refine k σ H F ρ true ρ1 _ s e1 fun F1 H1 x1 => ?_
    show if true = true then _ else _
    rw [if_pos rfl]
    exact l σ H1 F1 ρ1 fl ρ' D x1.sat e fun σ2 F2 H2 x2 y2 => endP_back x1 (q σ2 F2 H2 (x1.trans x2) y2)
  · next ρ1 e1 =>
    refine k σ H F ρ false ρ1 _ s e1 fun F1 H1 x1 => ?_
    show if false = true then _ else _
    rw [if_neg Bool.false_ne_true]
    exact o σ H1 F1 ρ1 fl ρ' D x1.sat e fun σ2 F2 H2 x2 y2 => endP_back x1 (q σ2 F2 H2 (x1.trans x2) y2)
  · cases e
end

/-! ### stores -/
section
variable {G : Wd} {F H F' H' F1 H1 H0 : Hp} {σ σ' σ1 : L2.St} {ρ ρ' ρ1 : En} {a : Addr} {v : V} {d : Pd} {i : Nat}
/-- a slot gets data -/
theorem sat_setD (s : Sat G F H σ ρ) (h : Dq G.K F v d) : Sat G F H (σ.set i (some v)) (ρ.set i (some (.dat d))) := by
  refine ⟨s.sub, by rw [List.length_set, List.length_set]; exact s.len, fun j d' q => ?_, fun j o q => ?_, fun j l o u b q1 q2 q3 q4 => ?_⟩
  · rw [List.getElem?_set] at q ⊢
    by_cases hj : i = j
    · rw [if_pos hj] at q ⊢
      split at q
      · next hl =>
        cases q
        rw [if_pos (by rw [← s.len]; exact hl)]
        exact ⟨v, rfl, h⟩
      · cases q
    · rw [if_neg hj] at q ⊢
      exact s.dat j d' q
  · rw [List.getElem?_set] at q ⊢
    by_cases hj : i = j
    · rw [if_pos hj] at q
      split at q <;> cases q
    · rw [if_neg hj] at q ⊢
      exact s.obj j o q
  · rw [List.getElem?_set] at q1 q2 q3 q4
    by_cases hj : i = j
    · rw [if_pos hj] at q1
      split at q1 <;> cases q1
    · by_cases hl : i = l
      · rw [if_pos hl] at q2
        split at q2 <;> cases q2
      · rw [if_neg hj] at q1 q3
        rw [if_neg hl] at q2 q4
        exact s.sep j l o u b q1 q2 q3 q4
theorem own_setD {w : Option V} {x : Option DV} (hx : ∀ o, x ≠ some (.obj o)) {b : Addr} (h : Own (σ.set i w) (ρ.set i x) b) : Own σ ρ b := by
  obtain ⟨j, o, q1, q2⟩ := h
  rw [List.getElem?_set] at q1 q2
  by_cases hj : i = j
  · rw [if_pos hj] at q1
    split at q1
    · cases q1
      exact absurd rfl (hx o)
    · cases q1
  · rw [if_neg hj] at q1 q2
    exact ⟨j, o, q1, q2⟩
theorem stp_setD (s : Sat G F H σ ρ) (h : Dq G.K F v d) : Stp G F H σ ρ F H (σ.set i (some v)) (ρ.set i (some (.dat d))) :=
  ⟨sat_setD s h, Same.refl _, fun _ _ q _ => q, fun _ q q' => absurd q q', fun b q => .inl (own_setD (fun o z => by cases z) q), List.length_set, fun _ q => q⟩
/-- a slot gets a new object -/
theorem stp_setO {o : OB} {p : Addr} {h : HO} (s : Sat G F H σ ρ) (h1 : F p = none) (h2 : H p = some h) (h3 : OKo G F p h o) (h4 : ¬ Own σ ρ p) (hi : i < σ.length) : Sat G F H (σ.set i (some (.ref p))) (ρ.set i (some (.obj o))) := by
  have hi' : i < ρ.length := by rw [s.len]; exact hi
  have nob : ∀ {j : Nat} {u : OB}, ρ[j]? = some (some (.obj u)) → σ[j]? ≠ some (some (.ref p)) := fun q1 q2 => h4 ⟨_, _, q1, q2⟩
  refine ⟨s.sub, by rw [List.length_set, List.length_set]; exact s.len, fun j d' q => ?_, fun j u q => ?_, fun j l u w b q1 q2 q3 q4 => ?_⟩
  · rw [List.getElem?_set] at q ⊢
    by_cases hj : i = j
    · rw [if_pos hj] at q
      split at q <;> cases q
    · rw [if_neg hj] at q ⊢
      exact s.dat j d' q
  · rw [List.getElem?_set] at q ⊢
    by_cases hj : i = j
    · rw [if_pos hj] at q ⊢
      rw [if_pos hi'] at q
      cases q
      rw [if_pos hi]
      exact ⟨p, h, rfl, h1, h2, h3⟩
    · rw [if_neg hj] at q ⊢
      exact s.obj j u q
  · rw [List.getElem?_set] at q1 q2 q3 q4
    by_cases hj : i = j
    · by_cases hl : i = l
      · rw [← hj, ← hl]
      · rw [if_pos hj, if_pos hi] at q3
        cases q3
        rw [if_neg hl] at q2 q4
        exact absurd q4 (nob q2)
    · by_cases hl : i = l
      · rw [if_pos hl, if_pos hi] at q4
        cases q4
        rw [if_neg hj] at q1 q3
        exact absurd q3 (nob q1)
      · rw [if_neg hj] at q1 q3
        rw [if_neg hl] at q2 q4
        exact s.sep j l u w b q1 q2 q3 q4
theorem own_setO {x : DV} {p b : Addr} (h : Own (σ.set i (some (.ref p))) (ρ.set i (some x)) b) : Own σ ρ b ∨ b = p := by
  obtain ⟨j, o, q1, q2⟩ := h
  rw [List.getElem?_set] at q1 q2
  by_cases hj : i = j
  · rw [if_pos hj] at q2
    split at q2
    · cases q2
      exact .inr rfl
    · cases q2
  · rw [if_neg hj] at q1 q2
    exact .inl ⟨j, o, q1, q2⟩
/-- the list of a slot is laid down for good -/
theorem freeze_slot {ds : List Pd} (s : Sat G F H σ ρ) (hr : ρ[i]? = some (some (.obj (.lst ds)))) (hv : σ[i]? = some (some v)) :
    ∃ F', Stp G F H σ ρ F' H σ (ρ.set i (some (.dat (.list ds)))) ∧ Same F F' ∧ Dq G.K F' v (.list ds) := by
  obtain ⟨a, u, h1, h2, h3, xs, rfl, h4⟩ := s.obj i _ hr
  rw [hv] at h1
  cases h1
  have e : Same F (upd F a (.lst xs)) := same_upd h2
  have hil : i < ρ.length := (List.getElem?_eq_some_iff.mp hr).1
  have dp : Dq G.K (upd F a (.lst xs)) (.ref a) (.list ds) := .lst upd_same (dpAll_mono e h4)
  refine ⟨_, ⟨⟨fun b w q => ?_, by rw [List.length_set]; exact s.len, fun j d q => ?_, fun j o q => ?_, fun j l o w b q1 q2 q3 q4 => ?_⟩, e, fun _ _ q _ => q, fun b q q' => ?_, fun b q => ?_, rfl, fun _ q => q⟩, e, dp⟩
  · by_cases hb : b = a
    · subst hb
      rw [upd_same] at q
      cases q
      exact h3
    · rw [upd_ne hb] at q
      exact s.sub b w q
  · rw [List.getElem?_set] at q
    by_cases hj : i = j
    · subst hj
      rw [if_pos rfl, if_pos hil] at q
      cases q
      exact ⟨_, hv, dp⟩
    · rw [if_neg hj] at q
      obtain ⟨w, q1, q2⟩ := s.dat j d q
      exact ⟨w, q1, dp_mono e q2⟩
  · rw [List.getElem?_set] at q
    by_cases hj : i = j
    · rw [if_pos hj] at q
      split at q <;> cases q
    · rw [if_neg hj] at q
      obtain ⟨b, w, q1, q2, q3, q4⟩ := s.obj j o q
      refine ⟨b, w, q1, ?_, q3, q4.mono e⟩
      have hb : b ≠ a := fun z => hj (s.sep i j _ _ a hr q hv (z ▸ q1))
      rw [upd_ne hb]
      exact q2
  · rw [List.getElem?_set] at q1 q2
    by_cases hj : i = j
    · rw [if_pos hj] at q1
      split at q1 <;> cases q1
    · by_cases hl : i = l
      · rw [if_pos hl] at q2
        split at q2 <;> cases q2
      · rw [if_neg hj] at q1
        rw [if_neg hl] at q2
        exact s.sep j l o w b q1 q2 q3 q4
  · by_cases hb : b = a
    · subst hb
      exact .inr ⟨i, _, hr, hv⟩
    · rw [upd_ne hb] at q'
      exact absurd q q'
  · obtain ⟨j, o, q1, q2⟩ := q
    rw [List.getElem?_set] at q1
    by_cases hj : i = j
    · rw [if_pos hj] at q1
      split at q1 <;> cases q1
    · rw [if_neg hj] at q1
      exact .inl ⟨j, o, q1, q2⟩
def esc (r : Rs) (ρ : En) : Option (Pd × En) := match r with
  | .dat d => some (d, ρ)
  | .new _ => none
  | .slot i => match ρ[i]? with
    | some (some (.dat d)) => some (d, ρ)
    | some (some (.obj (.lst ds))) => some (.list ds, ρ.set i (some (.dat (.list ds))))
    | _ => none
theorem esc_ok {r : Rs} (s : Sat G F H σ ρ) (h : RepA G F σ v r) (e : esc r ρ = some (d, ρ')) : ∃ F', Stp G F H σ ρ F' H σ ρ' ∧ Same F F' ∧ Dq G.K F' v d := by
  cases r with
  | dat d' =>
    cases e
    exact ⟨F, .refl s, Same.refl _, h⟩
  | new o => cases h
  | slot i =>
    have hv : σ[i]? = some (some v) := h
    simp only [esc] at e
    split at e
    · next d' q =>
      cases e
      obtain ⟨w, q1, q2⟩ := s.dat i _ q
      rw [hv] at q1
      cases q1
      exact ⟨F, .refl s, Same.refl _, q2⟩
    · next ds q =>
      cases e
      exact freeze_slot s q hv
    · cases e
def escAll : List Rs → En → Option (List Pd × En)
  | [], ρ => some ([], ρ)
  | r :: rs, ρ => match esc r ρ with
    | some (d, ρ1) => match escAll rs ρ1 with
      | some (ds, ρ2) => some (d :: ds, ρ2)
      | none => none
    | none => none
theorem escAll_ok : ∀ {vs : List V} {rs : List Rs} {ds : List Pd} {F : Hp} {ρ ρ' : En}, Sat G F H σ ρ → Paired (RepA G F σ) vs rs → escAll rs ρ = some (ds, ρ') → ∃ F', Stp G F H σ ρ F' H σ ρ' ∧ Same F F' ∧ DqAll G.K F' vs ds
  | _, _, ds, F, ρ, ρ', s, .nil, e => by
    cases e
    exact ⟨F, .refl s, Same.refl _, .nil⟩
  | _, _, ds, F, ρ, ρ', s, .cons h q, e => by
    unfold escAll at e
    split at e
    · next d ρ1 e1 =>
      split at e
      · next ds' ρ2 e2 =>
        cases e
        obtain ⟨F1, x1, m1, y1⟩ := esc_ok s h e1
        obtain ⟨F2, x2, m2, y2⟩ := escAll_ok x1.sat (repAs_mono m1 q) e2
        exact ⟨F2, x1.trans x2, m1.trans m2, .cons (dp_mono m2 y1) y2⟩
      · cases e
    · cases e
end

/-! ### displays -/
section
variable {X : Cx} {es : List Expr} {pos : Pos} {ms : MA}
def mTup (ms : MA) : ME := fun ρ => match ms ρ with
  | some (rs, ρ1) => match escAll rs ρ1 with
    | some (ds, ρ2) => some (.dat (.tuple ds), ρ2)
    | none => none
  | none => none
def mLst (ms : MA) : ME := fun ρ => match ms ρ with
  | some (rs, ρ1) => match escAll rs ρ1 with
    | some (ds, ρ2) => some (.new (.lst ds), ρ2)
    | none => none
  | none => none
/-- how many values an argument list gives -/
theorem da_len (h : DA X es ms) : True := trivial
theorem de_tup {x1} {n : Nat} (h : DA X es ms) (hn : ∀ ρ rs ρ', ms ρ = some (rs, ρ') → rs.length = n) (hz : n ≤ sizeLine := by decide) : DE X (.Tuple es x1 pos) (mTup ms) := by
  obtain ⟨t, ht, k⟩ := h.ex
  refine ⟨_, pe_tup ht, fun σ H F ρ r ρ' Q s e q => ?_⟩
  unfold mTup at e
  split at e
  · next rs ρ1 e1 =>
    split at e
    · next ds ρ2 e2 =>
      cases e
      refine k σ H F ρ rs ρ1 _ s e1 fun vs F1 H1 x1 y1 => ?_
      obtain ⟨F2, x2, m2, y2⟩ := escAll_ok x1.sat y1 e2
      have hl : vs.length ≤ sizeLine := by rw [Paired.length y1, hn _ _ _ e1]; exact hz
      refine ⟨hl, fun p np => ?_⟩
      have g := Grow.both (o := HO.tup vs) x2.sat.sub np
      have x3 := stp_grow x2.sat g.e1 g.e2 g.e3 g.nw
      exact q _ _ _ ((x1.trans x2).trans x3) (Dq.tup upd_same (dpAll_mono g.e1 y2))
    · cases e
  · cases e
theorem de_lst {n : Nat} (h : DA X es ms) (hn : ∀ ρ rs ρ', ms ρ = some (rs, ρ') → rs.length = n) (hz : n ≤ sizeLine := by decide) : DE X (.List es pos) (mLst ms) := by
  obtain ⟨t, ht, k⟩ := h.ex
  refine ⟨_, pe_lst ht, fun σ H F ρ r ρ' Q s e q => ?_⟩
  unfold mLst at e
  split at e
  · next rs ρ1 e1 =>
    split at e
    · next ds ρ2 e2 =>
      cases e
      refine k σ H F ρ rs ρ1 _ s e1 fun vs F1 H1 x1 y1 => ?_
      obtain ⟨F2, x2, m2, y2⟩ := escAll_ok x1.sat y1 e2
      have hl : vs.length ≤ sizeLine := by rw [Paired.length y1, hn _ _ _ e1]; exact hz
      refine ⟨hl, fun p np => ?_⟩
      have g := Grow.one (o := HO.lst vs) x2.sat.sub np
      have x3 := stp_grow x2.sat g.e1 g.e2 g.e3 g.nw
      have f2 : F2 p = none := same_free x2.sat.sub np
      refine q _ _ _ ((x1.trans x2).trans x3) ⟨p, _, rfl, f2, upd_same, ⟨vs, rfl, y2⟩, (x1.trans x2).per p np, fun z => ?_⟩
      obtain ⟨o, z1, _⟩ := x2.sat.own_some z
      rw [np] at z1
      cases z1
    · cases e
  · cases e
theorem len_nil : ∀ (ρ : En) (rs : List Rs) (ρ' : En), mNil ρ = some (rs, ρ') → rs.length = 0 := fun _ _ _ e => by
  cases e
  rfl
theorem len_cons {n : Nat} {m : ME} {ms : MA} (h : ∀ (ρ : En) (rs : List Rs) (ρ' : En), ms ρ = some (rs, ρ') → rs.length = n) : ∀ (ρ : En) (rs : List Rs) (ρ' : En), mCons m ms ρ = some (rs, ρ') → rs.length = n + 1 := fun _ _ _ e => by
  obtain ⟨_, _, _, rs', _, _, e3, rfl⟩ := mCons_some e
  exact congrArg (· + 1) (h _ _ _ e3)
end
end Mw

set_option Elab.async false
set_option linter.all false
set_option maxRecDepth 100000
set_option autoImplicit false
namespace Mw
open PySem PySem.Spec PyProof.Rows L2

/-! ### targets -/
abbrev MG := Pd → En → Option En
structure DG (X : Cx) (B : List Nat) (tg : Expr) (m : MG) : Prop where
  ex : ∃ t : TG, PG X tg t ∧ ∀ (v : V) (d : Pd) (σ : L2.St) (H F : Hp) (ρ ρ' : En) (Q : L2.St → Hp → Prop), Sat (wd X) F H σ ρ → Dq X.K F v d → m d ρ = some ρ' →
    (∀ σ', Stp (wd X) F H σ ρ F H σ' ρ' → Kp B σ σ' → Q σ' H) → t v σ H Q
structure DGs (X : Cx) (B : List Nat) (ts : List Expr) (m : List Pd → En → Option En) : Prop where
  ex : ∃ t : TGs, PGs X ts t ∧ ∀ (vs : List V) (ds : List Pd) (σ : L2.St) (H F : Hp) (ρ ρ' : En) (Q : L2.St → Hp → Prop), Sat (wd X) F H σ ρ → DqAll X.K F vs ds → m ds ρ = some ρ' →
    (∀ σ', Stp (wd X) F H σ ρ F H σ' ρ' → Kp B σ σ' → Q σ' H) → t vs σ H Q
section
variable {X : Cx} {B : List Nat} {pos : Pos} {tg e : Expr} {ts : List Expr} {g : MG} {gs : List Pd → En → Option En} {m : ME}
def gN (i : Nat) : MG := fun d ρ => some (ρ.set i (some (.dat d)))
theorem kp_set {B : List Nat} {σ : L2.St} {i : Nat} {x : Option V} (h : i ∉ B) : Kp B σ (σ.set i x) := fun j hj => by
  rw [List.getElem?_set, if_neg (show ¬ i = j from fun z => h (by rw [z]; exact hj))]
theorem dg_name {i : Nat} {x : Str} (hN : X.N.Nodup) (hi : X.N[i]? = some x := by rfl) (hx : Loc X.env.scope x := by first | exact Or.inl rfl | exact Or.inr rfl) (hB : i ∉ B := by decide)
    (hf : X.fn x = true ∨ X.env.scope.names.lookup x = some .local := by first | exact .inl rfl | exact .inr rfl | assumption) : DG X B (.Name x pos) (gN i) :=
  ⟨_, pg_name hN hi hx hf, fun v d σ H F ρ ρ' Q s h e q => by
    cases e
    exact q _ (stp_setD s h) (kp_set hB)⟩
def gsNil : List Pd → En → Option En
  | [], ρ => some ρ
  | _, _ => none
def gsCons (g : MG) (gs : List Pd → En → Option En) : List Pd → En → Option En
  | d :: ds, ρ => match g d ρ with
    | some ρ1 => gs ds ρ1
    | none => none
  | [], _ => none
theorem dgs_nil : DGs X B [] gsNil := ⟨_, pgs_nil, fun vs ds σ H F ρ ρ' Q s h e q => by
  cases h with
  | nil =>
    cases e
    exact ⟨rfl, q σ (.refl s) .refl⟩
  | cons _ _ => cases e⟩
theorem dgs_cons (h1 : DG X B tg g) (h2 : DGs X B ts gs) (hs : (assignEach (tg :: ts) X.env).map (·.2) = assign tg X.env :: (assignEach ts X.env).map (·.2) := by rfl) : DGs X B (tg :: ts) (gsCons g gs) := by
  obtain ⟨t, ht, k⟩ := h1.ex
  obtain ⟨u, hu, l⟩ := h2.ex
  refine ⟨_, pgs_cons ht hu hs, fun vs ds σ H F ρ ρ' Q s h e q => ?_⟩
  cases h with
  | nil => cases e
  | cons a b =>
    simp only [gsCons] at e
    split at e
    · next ρ1 e1 =>
      refine ⟨_, _, rfl, k _ _ σ H F ρ ρ1 _ s a e1 fun σ1 x1 y1 => ?_⟩
      exact l _ _ σ1 H F ρ1 ρ' _ x1.sat b e fun σ2 x2 y2 => q σ2 (x1.trans x2) (y1.trans y2)
    · cases e
def gT (n : Nat) (gs : List Pd → En → Option En) : MG := fun d ρ => match d with
  | .tuple ds => if ds.length = n then gs ds ρ else none
  | _ => none
theorem dg_tup {k n : Nat} (hc : X.calm = true) (h : DGs X B ts gs) (hn : (assignEach ts X.env).length = n := by rfl) (hst : (assignEach ts X.env).findIdx? (·.1) = none := by rfl) : DG X B (.Tuple ts k pos) (gT n gs) := by
  obtain ⟨t, ht, l⟩ := h.ex
  refine ⟨_, pg_tup hc ht hn hst, fun v d σ H F ρ ρ' Q s h e q => ?_⟩
  unfold gT at e
  split at e
  · next ds =>
    split at e
    · next hl =>
      cases h with
      | tup h1 h2 => exact ⟨_, _, rfl, SqT.of (s.sub _ _ h1), (dpAll_len h2).trans hl, l _ ds σ H F ρ ρ' Q s h2 e q⟩
    · cases e
  · cases e

/-! ### assignments -/
/-- a result as data -/
def toD (r : Rs) (ρ : En) : Option (Pd × En) := match frz1 r with
  | some r' => esc r' ρ
  | none => none
theorem toD_ok {G : Wd} {F H F1 H1 : Hp} {σ : L2.St} {ρ ρ1 ρ' : En} {v : V} {r : Rs} {d : Pd} (x : Stp G F H σ ρ F1 H1 σ ρ1) (h : RepR G F1 H1 σ ρ1 H v r) (e : toD r ρ1 = some (d, ρ')) :
    ∃ F2, Stp G F H σ ρ F2 H1 σ ρ' ∧ Same F1 F2 ∧ Dq G.K F2 v d := by
  unfold toD at e
  split at e
  · next r' e1 =>
    obtain ⟨F2, x2, m2, y2⟩ := frz1_ok x h e1
    obtain ⟨F3, x3, m3, y3⟩ := esc_ok x2.sat y2 e
    exact ⟨F3, x2.trans x3, m2.trans m3, y3⟩
  · cases e
def mAsg (m : ME) (g : MG) : MS := fun ρ => match m ρ with
  | some (r, ρ1) => match toD r ρ1 with
    | some (d, ρ2) => match g d ρ2 with
      | some ρ3 => some (.next, ρ3)
      | none => none
    | none => none
  | none => none
theorem ds_asg (h : DE X e m) (hg : DG X B tg g) (hs : swapsWithSole [tg] e pos.line X.env = pure false := by rfl) (hw : swappedStores [tg] e X.env = pure none := by rfl)
    (h1 : (assignEach [tg] X.env).map (·.2) = [assign tg X.env] := by rfl) : DS X B (.Assign [tg] e pos) (mAsg m g) := by
  obtain ⟨t, ht, k⟩ := h.ex
  obtain ⟨u, hu, l⟩ := hg.ex
  refine ⟨_, ps_asg ht hu hs hw h1, fun σ H F ρ fl ρ' D s e q => ?_⟩
  unfold mAsg at e
  split at e
  · next r ρ1 e1 =>
    split at e
    · next d ρ2 e2 =>
      split at e
      · next ρ3 e3 =>
        cases e
        refine k σ H F ρ r ρ1 _ s e1 fun v F1 H1 x1 y1 => ?_
        obtain ⟨F2, x2, m2, y2⟩ := toD_ok x1 y1 e2
        exact l v d σ H1 F2 ρ2 _ _ x2.sat y2 e3 fun σ' x3 y3 => q σ' F2 H1 (x2.trans x3) y3
      · cases e
    · cases e
  · cases e
/-- x = e: the slot owns a new object -/
def setR (i : Nat) (r : Rs) (ρ : En) : Option En := match r with
  | .new o => if i < ρ.length then some (ρ.set i (some (.obj o))) else none
  | r => match esc r ρ with
    | some (d, ρ1) => some (ρ1.set i (some (.dat d)))
    | none => none
theorem setR_ok {G : Wd} {F H F1 H1 : Hp} {σ : L2.St} {ρ ρ1 ρ' : En} {v : V} {r : Rs} {i : Nat} (x : Stp G F H σ ρ F1 H1 σ ρ1) (h : RepR G F1 H1 σ ρ1 H v r) (e : setR i r ρ1 = some ρ') :
    ∃ F2, Stp G F H σ ρ F2 H1 (σ.set i (some v)) ρ' := by
  cases r with
  | new o =>
    simp only [setR] at e
    split at e
    · next hi =>
      cases e
      obtain ⟨p, u, rfl, h1, h2, h3, h4, h5⟩ := h
      refine ⟨F1, stp_setO x.sat h1 h2 h3 h5 (by rw [← x.sat.len]; exact hi), x.ext, x.frm, x.new, fun b w => ?_, by rw [List.length_set], x.per⟩
      rcases own_setO w with z | z
      · exact x.own b z
      · exact .inr (z ▸ h4)
    · cases e
  | dat d =>
    simp only [setR, esc] at e
    cases e
    exact ⟨F1, x.trans (stp_setD x.sat h)⟩
  | slot j =>
    simp only [setR] at e
    split at e
    · next d ρ2 e2 =>
      cases e
      obtain ⟨F2, x2, m2, y2⟩ := esc_ok (r := .slot j) x.sat h e2
      exact ⟨F2, (x.trans x2).trans (stp_setD x2.sat y2)⟩
    · cases e
def mSet (i : Nat) (m : ME) : MS := fun ρ => match m ρ with
  | some (r, ρ1) => match setR i r ρ1 with
    | some ρ2 => some (.next, ρ2)
    | none => none
  | none => none
theorem set_run {i : Nat} {t : TE} (k : ∀ (σ : L2.St) (H F : Hp) (ρ : En) (r : Rs) (ρ' : En) (Q : VK), Sat (wd X) F H σ ρ → m ρ = some (r, ρ') →
    (∀ v F' H', Stp (wd X) F H σ ρ F' H' σ ρ' → RepR (wd X) F' H' σ ρ' H v r → Q v H') → t σ H Q) (hB : i ∉ B) : ∀ (σ : L2.St) (H F : Hp) (ρ : En) (fl : Fl) (ρ' : En) (D : Ends), Sat (wd X) F H σ ρ → mSet i m ρ = some (fl, ρ') →
    (∀ σ' F' H', Stp (wd X) F H σ ρ F' H' σ' ρ' → Kp B σ σ' → EndP (wd X) H D fl σ' F' H' ρ') → tAsg t (gName i) D σ H := fun σ H F ρ fl ρ' D s e q => by
  unfold mSet at e
  split at e
  · next r ρ1 e1 =>
    split at e
    · next ρ2 e2 =>
      cases e
      refine k σ H F ρ r ρ1 _ s e1 fun v F1 H1 x1 y1 => ?_
      obtain ⟨F2, x2⟩ := setR_ok x1 y1 e2
      exact q _ F2 H1 x2 (kp_set hB)
    · cases e
  · cases e
theorem ds_set {i : Nat} {x : Str} {p : Pos} (hN : X.N.Nodup) (h : DE X e m) (hi : X.N[i]? = some x := by rfl) (hx : Loc X.env.scope x := by first | exact Or.inl rfl | exact Or.inr rfl) (hB : i ∉ B := by decide)
    (hf : X.fn x = true ∨ X.env.scope.names.lookup x = some .local := by first | exact .inl rfl | exact .inr rfl | assumption) (hs : swapsWithSole [.Name x p] e pos.line X.env = pure false := by rfl)
    (hw : swappedStores [.Name x p] e X.env = pure none := by rfl) : DS X B (.Assign [.Name x p] e pos) (mSet i m) := by
  obtain ⟨t, ht, k⟩ := h.ex
  exact ⟨_, ps_asg ht (pg_name hN hi hx hf) hs hw, set_run k hB⟩
end

/-! ### loops -/
def YD (G : Wd) (F : Hp) (ds : List Pd) (i : Nat) (H : Hp) (x : V) (H' : Hp) : Prop :=
  ∃ d, ds[i]? = some d ∧ ((H' = H ∧ Dq G.K F x d) ∨ ∃ T xs es, x = .ref T ∧ H T = none ∧ H' = upd H T (.tup xs) ∧ DqAll G.K F xs es ∧ d = .tuple es)
def ItOk (G : Wd) (F : Hp) (J : It) (ds : List Pd) : Prop := Walk J ds.length (fun H => Same F H) (YD G F ds)
abbrev MI := En → Option (List Pd × En)
structure DI (X : Cx) (tg it : Expr) (m : MI) : Prop where
  ex : ∃ wi : TI, PI X tg it wi ∧ ∀ (σ : L2.St) (H F : Hp) (ρ : En) (ds : List Pd) (ρ' : En) (R : It → Hp → Prop), Sat (wd X) F H σ ρ → m ρ = some (ds, ρ') →
    (∀ J F' H', Stp (wd X) F H σ ρ F' H' σ ρ' → ItOk (wd X) F' J ds → R J H') → wi σ H R
/-- what is drawn comes in -/
theorem yd_in {G : Wd} {F F1 H H' : Hp} {σ : L2.St} {ρ : En} {ds : List Pd} {i : Nat} {x : V} (s : Sat G F1 H σ ρ) (e : Same F F1) (y : YD G F ds i H x H') : ∃ F2 d, ds[i]? = some d ∧ Stp G F1 H σ ρ F2 H' σ ρ ∧ Dq G.K F2 x d := by
  obtain ⟨d, h1, h2⟩ := y
  rcases h2 with ⟨rfl, h2⟩ | ⟨T, xs, es, rfl, h2, rfl, h3, rfl⟩
  · exact ⟨F1, d, h1, .refl s, dp_mono e h2⟩
  · have g := Grow.both (o := HO.tup xs) s.sub h2
    exact ⟨_, _, h1, stp_grow s g.e1 g.e2 g.e3 g.nw, .tup upd_same (dpAll_mono (e.trans g.e1) h3)⟩
def loopS (g : MG) (body : MS) : List Pd → MS
  | [], ρ => some (.next, ρ)
  | d :: ds, ρ => match g d ρ with
    | some ρ1 => match body ρ1 with
      | some (.next, ρ2) => loopS g body ds ρ2
      | some (.cnt, ρ2) => loopS g body ds ρ2
      | some (.brk, ρ2) => some (.next, ρ2)
      | some (.ret r, ρ2) => some (.ret r, ρ2)
      | none => none
    | none => none
def mFor (mi : MI) (g : MG) (body : MS) : MS := fun ρ => match mi ρ with
  | some (ds, ρ1) => loopS g body ds ρ1
  | none => none
section
variable {X : Cx} {B : List Nat} {pos : Pos} {tg it c : Expr} {g : MG} {mi : MI} {body : List Stmt} {mb : MS} {mt : MT}
theorem drop_cons {α : Type} {l : List α} {i : Nat} {a : α} (h : l[i]? = some a) : l.drop i = a :: l.drop (i + 1) := by
  obtain ⟨h1, h2⟩ := List.getElem?_eq_some_iff.mp h
  rw [← h2]
  exact List.drop_eq_getElem_cons h1
theorem ds_for (hc : X.calm = true) (hp : PassesOwn (model X.prog X.w) X.A X.env X.xe) (hi : DI X tg it mi) (hg : DG X B tg g) (hb : DSs X B body mb) (hs : ∀ x, foldedSetIterable it X.env x = pure x := by intro _; rfl) :
    DS X B (.For tg it body [] pos) (mFor mi g mb) := by
  obtain ⟨wi, hwi, k⟩ := hi.ex
  obtain ⟨t, ht, l⟩ := hg.ex
  obtain ⟨u, hu, n⟩ := hb.ex
  refine ⟨_, ps_for hp hc hwi ht hu hs, fun σ H F ρ fl ρ' D s e q => ?_⟩
  unfold mFor at e
  split at e
  · next ds ρ1 e1 =>
    refine k σ H F ρ ds ρ1 _ s e1 fun J F1 H1 x1 ok => ?_
    refine for_it ok (fun i σ2 H2 => ∃ F2 ρ2, Stp (wd X) F H σ ρ F2 H2 σ2 ρ2 ∧ Same F1 F2 ∧ Kp B σ σ2 ∧ loopS g mb (ds.drop i) ρ2 = some (fl, ρ')) ⟨F1, ρ1, x1, Same.refl _, .refl, e⟩ (fun i σ2 H2 _ ⟨F2, ρ2, x2, m2, _⟩ => m2.trans x2.sat.sub) ?_ ?_
    · rintro i x σ2 H2 H3 hi ⟨F2, ρ2, x2, m2, kp2, e2⟩ y
      obtain ⟨F3, d, hd, x3, dp⟩ := yd_in x2.sat m2 y
      rw [drop_cons hd] at e2
      simp only [loopS] at e2
      split at e2
      · next ρ3 e3 =>
        refine l x d σ2 H3 F3 ρ2 ρ3 _ x3.sat dp e3 fun σ3 x4 kp4 => ?_
        have x5 := (x2.trans x3).trans x4
        have again : ∀ {σ4 F4 H4 ρ4}, Stp (wd X) F3 H3 σ3 ρ3 F4 H4 σ4 ρ4 → Kp B σ3 σ4 → loopS g mb (ds.drop (i + 1)) ρ4 = some (fl, ρ') →
            ∃ F2 ρ2, Stp (wd X) F H σ ρ F2 H4 σ4 ρ2 ∧ Same F1 F2 ∧ Kp B σ σ4 ∧ loopS g mb (ds.drop (i + 1)) ρ2 = some (fl, ρ') :=
          fun {σ4 F4 H4 ρ4} x6 kp6 e4 => ⟨F4, ρ4, x5.trans x6, (m2.trans x3.ext).trans x6.ext, (kp2.trans kp4).trans kp6, e4⟩
        split at e2
        · next ρ4 e4 => exact n σ3 H3 F3 ρ3 .next ρ4 _ x4.sat e4 fun σ4 F4 H4 x6 kp6 => again x6 kp6 e2
        · next ρ4 e4 => exact n σ3 H3 F3 ρ3 .cnt ρ4 _ x4.sat e4 fun σ4 F4 H4 x6 kp6 => again x6 kp6 e2
        · next ρ4 e4 =>
          cases e2
          exact n σ3 H3 F3 ρ3 .brk _ _ x4.sat e4 fun σ4 F4 H4 x6 kp6 => q σ4 F4 H4 (x5.trans x6) ((kp2.trans kp4).trans kp6)
        · next r ρ4 e4 =>
          cases e2
          refine n σ3 H3 F3 ρ3 (.ret r) _ _ x4.sat e4 fun σ4 F4 H4 x6 kp6 => ?_
          have z := q σ4 F4 H4 (x5.trans x6) ((kp2.trans kp4).trans kp6)
          exact endP_back (D := { D with nx := D.nx }) (fl := .ret r) x5 z
        · cases e2
      · cases e2
    · rintro σ2 H2 ⟨F2, ρ2, x2, m2, kp2, e2⟩
      rw [List.drop_length] at e2
      cases e2
      exact q σ2 F2 H2 x2 kp2
  · cases e

/-! ### while -/
def loopW (t : MT) (body : MS) : Nat → MS
  | 0, _ => none
  | n + 1, ρ => match t ρ with
    | some (false, ρ1) => some (.next, ρ1)
    | some (true, ρ1) => match body ρ1 with
      | some (.next, ρ2) => loopW t body n ρ2
      | some (.cnt, ρ2) => loopW t body n ρ2
      | some (.brk, ρ2) => some (.next, ρ2)
      | some (.ret r, ρ2) => some (.ret r, ρ2)
      | none => none
    | none => none
open Classical in
noncomputable def mWhile (t : MT) (body : MS) : MS := fun ρ => if h : ∃ n r, loopW t body n ρ = some r then some (choose (choose_spec h)) else none
theorem loopW_more {t : MT} {body : MS} : ∀ {n : Nat} {ρ : En} {r : Fl × En}, loopW t body n ρ = some r → ∀ k, loopW t body (n + k) ρ = some r
  | 0, _, _, h, _ => by cases h
  | n + 1, ρ, r, h, k => by
    have e : n + 1 + k = (n + k) + 1 := by omega
    rw [e]
    simp only [loopW] at h ⊢
    split at h
    · exact h
    · split at h
      · exact loopW_more h k
      · exact loopW_more h k
      · exact h
      · exact h
      · exact h
    · exact h
theorem mWhile_some {t : MT} {body : MS} {n : Nat} {ρ : En} {r : Fl × En} (h : loopW t body n ρ = some r) : mWhile t body ρ = some r := by
  unfold mWhile
  have hx : ∃ n r, loopW t body n ρ = some r := ⟨n, r, h⟩
  rw [dif_pos hx]
  have h2 := Classical.choose_spec (Classical.choose_spec hx)
  have a := loopW_more h (Classical.choose hx)
  have b := loopW_more h2 n
  rw [Nat.add_comm] at b
  rw [a] at b
  exact b.symm
theorem mWhile_ex {t : MT} {body : MS} {ρ : En} {r : Fl × En} (h : mWhile t body ρ = some r) : ∃ n, loopW t body n ρ = some r := by
  unfold mWhile at h
  split at h
  · next hx =>
    cases h
    exact ⟨_, Classical.choose_spec (Classical.choose_spec hx)⟩
  · cases h
theorem ds_while (hp : PassesOwn (model X.prog X.w) X.A X.env X.xe) (hc : DT X c mt) (hb : DSs X B body mb) : DS X B (.While c body [] pos) (mWhile mt mb) := by
  obtain ⟨t, ht, l⟩ := hc.ex
  obtain ⟨u, hu, n⟩ := hb.ex
  refine ⟨_, ps_while hp ht hu, fun σ H F ρ fl ρ' D s e q => ?_⟩
  obtain ⟨k, e⟩ := mWhile_ex e
  refine ⟨fun m σ2 H2 => ∃ F2 ρ2, Stp (wd X) F H σ ρ F2 H2 σ2 ρ2 ∧ Kp B σ σ2 ∧ loopW mt mb m ρ2 = some (fl, ρ'), ⟨k, F, ρ, .refl s, .refl, e⟩, ?_⟩
  rintro m σ2 H2 ⟨F2, ρ2, x2, kp2, e2⟩
  cases m with
  | zero => cases e2
  | succ m =>
    simp only [loopW] at e2
    split at e2
    · next ρ3 e3 =>
      cases e2
      refine l σ2 H2 F2 ρ2 false _ _ x2.sat e3 fun F3 H3 x3 => ?_
      show if false = true then _ else _
      rw [if_neg Bool.false_ne_true]
      exact q σ2 F3 H3 (x2.trans x3) kp2
    · next ρ3 e3 =>
      refine l σ2 H2 F2 ρ2 true ρ3 _ x2.sat e3 fun F3 H3 x3 => ?_
      show if true = true then _ else _
      rw [if_pos rfl]
      refine ⟨fun σ4 H4 => ∃ F4 ρ4, Stp (wd X) F H σ ρ F4 H4 σ4 ρ4 ∧ Kp B σ σ4 ∧ loopW mt mb m ρ4 = some (fl, ρ'), fun σ4 H4 w => ⟨m, Nat.lt_succ_self m, w⟩, ?_⟩
      have x5 := x2.trans x3
      split at e2
      · next ρ4 e4 => exact n σ2 H3 F3 ρ3 .next ρ4 _ x3.sat e4 fun σ4 F4 H4 x6 kp6 => ⟨F4, ρ4, x5.trans x6, kp2.trans kp6, e2⟩
      · next ρ4 e4 => exact n σ2 H3 F3 ρ3 .cnt ρ4 _ x3.sat e4 fun σ4 F4 H4 x6 kp6 => ⟨F4, ρ4, x5.trans x6, kp2.trans kp6, e2⟩
      · next ρ4 e4 =>
        cases e2
        exact n σ2 H3 F3 ρ3 .brk _ _ x3.sat e4 fun σ4 F4 H4 x6 kp6 => q σ4 F4 H4 (x5.trans x6) (kp2.trans kp6)
      · next r ρ4 e4 =>
        cases e2
        refine n σ2 H3 F3 ρ3 (.ret r) _ _ x3.sat e4 fun σ4 F4 H4 x6 kp6 => ?_
        exact endP_back (D := D) (fl := .ret r) x5 (q σ4 F4 H4 (x5.trans x6) (kp2.trans kp6))
      · cases e2
    · cases e2
end
end Mw

set_option Elab.async false
set_option linter.all false
set_option maxRecDepth 100000
set_option autoImplicit false
namespace Mw
open PySem PySem.Spec PyProof.Rows L2

/-! ### what is walked -/
def charsD (x : Str) : List Pd := x.cps.toList.map fun c => .str ⟨#[c]⟩
def itemsD : Pd → Option (List Pd)
  | .list ds => some ds
  | .tuple ds => some ds
  | .str x => some (charsD x)
  | _ => none
section
variable {X : Cx} {tg e a b : Expr} {m ma mb : ME} {pos p : Pos}
theorem pi_or {it : Expr} {wi wj : TI} (h1 : PI X tg it wi) (h2 : PI X tg it wj) : PI X tg it (fun σ H R => wi σ H R ∨ wj σ H R) :=
  ⟨fun pins s σ H R I h => h.elim (h1.run pins s σ H R I) (h2.run pins s σ H R I)⟩
def iE (m : ME) : MI := fun ρ => match m ρ with
  | some (r, ρ1) => match toD r ρ1 with
    | some (d, ρ2) => match itemsD d with
      | some ds => some (ds, ρ2)
      | none => none
    | none => none
  | none => none
theorem it_list {G : Wd} {F : Hp} {a : Addr} {xs : List V} {ds : List Pd} (h : F a = some (.lst xs)) (q : DqAll G.K F xs ds) : ItOk G F (Itl G.K a) ds := by
  unfold ItOk
  rw [← dpAll_len q]
  refine (walk_list (K := G.K) (a := a) (xs := xs)).mono (fun H e => SqL.of (e _ _ h)) fun i H x H' hi e y => ?_
  obtain ⟨rfl, y⟩ := y
  obtain ⟨d, h1, h2⟩ := dpAll_getV q y
  exact ⟨d, h1, .inl ⟨rfl, h2⟩⟩
theorem it_tup {G : Wd} {F : Hp} {a : Addr} {xs : List V} {ds : List Pd} (h : F a = some (.tup xs)) (q : DqAll G.K F xs ds) : ItOk G F (Itt G.K a) ds := by
  unfold ItOk
  rw [← dpAll_len q]
  refine (walk_tup (K := G.K) (a := a) (xs := xs)).mono (fun H e => SqT.of (e _ _ h)) fun i H x H' hi e y => ?_
  obtain ⟨rfl, y⟩ := y
  obtain ⟨d, h1, h2⟩ := dpAll_getV q y
  exact ⟨d, h1, .inl ⟨rfl, h2⟩⟩
theorem charsD_len (x : Str) : (charsD x).length = x.cps.size := by
  unfold charsD
  rw [List.length_map, Array.length_toList]
theorem it_str {G : Wd} {F : Hp} {x : Str} : ItOk G F (Its x) (charsD x) := by
  unfold ItOk
  rw [charsD_len]
  refine (walk_str (z := x)).mono (fun H e => trivial) fun i H v H' hi e y => ?_
  obtain ⟨rfl, c, h1, rfl⟩ := y
  refine ⟨.str ⟨#[c]⟩, ?_, .inl ⟨rfl, .str _⟩⟩
  unfold charsD
  rw [List.getElem?_map, Array.getElem?_toList, h1]
  rfl
theorem di_e (h : DE X e m) : DI X tg e (iE m) := by
  obtain ⟨t, ht, k⟩ := h.ex
  refine ⟨_, pi_or (pi_list ht) (pi_or (pi_tup ht) (pi_str ht)), fun σ H F ρ ds ρ' R s e q => ?_⟩
  unfold iE at e
  split at e
  · next r ρ1 e1 =>
    split at e
    · next d ρ2 e2 =>
      split at e
      · next ds' e3 =>
        cases e
        cases d with
        | list ds' =>
          cases e3
          refine .inl (k σ H F ρ r ρ1 _ s e1 fun v F1 H1 x1 y1 => ?_)
          obtain ⟨F2, x2, m2, y2⟩ := toD_ok x1 y1 e2
          cases y2 with
          | lst h1 h2 => exact ⟨_, rfl, ⟨_, SqL.of (x2.sat.sub _ _ h1)⟩, q _ F2 H1 x2 (it_list (G := wd X) h1 h2)⟩
        | tuple ds' =>
          cases e3
          refine .inr (.inl (k σ H F ρ r ρ1 _ s e1 fun v F1 H1 x1 y1 => ?_))
          obtain ⟨F2, x2, m2, y2⟩ := toD_ok x1 y1 e2
          cases y2 with
          | tup h1 h2 => exact ⟨_, rfl, ⟨_, SqT.of (x2.sat.sub _ _ h1)⟩, q _ F2 H1 x2 (it_tup (G := wd X) h1 h2)⟩
        | str x =>
          cases e3
          refine .inr (.inr (k σ H F ρ r ρ1 _ s e1 fun v F1 H1 x1 y1 => ?_))
          obtain ⟨F2, x2, m2, y2⟩ := toD_ok x1 y1 e2
          cases y2
          exact ⟨x, rfl, q _ F2 H1 x2 it_str⟩
        | none => cases e3
        | bool _ => cases e3
        | int _ => cases e3
        | dict _ => cases e3
      · cases e
    · cases e
  · cases e
/-- range(b), range(a, b) -/
def rangeD (lo : Int) (n : Nat) : List Pd := (List.range n).map fun (i : Nat) => .int (lo + (i : Int))
theorem rangeD_len (lo : Int) (n : Nat) : (rangeD lo n).length = n := by
  unfold rangeD
  rw [List.length_map, List.length_range]
theorem it_range {G : Wd} {F : Hp} {lo : Int} {n : Nat} : ItOk G F (Itr lo n) (rangeD lo n) := by
  unfold ItOk
  rw [rangeD_len]
  refine (walk_range (lo := lo) (n := n)).mono (fun H e => trivial) fun i H v H' hi e y => ?_
  obtain ⟨rfl, rfl⟩ := y
  refine ⟨.int (lo + i), ?_, .inl ⟨rfl, .int _⟩⟩
  unfold rangeD
  rw [List.getElem?_map, List.getElem?_range hi]
  rfl
def iR1 (ms : MA) : MI := fun ρ => match ms ρ with
  | some ([.dat (.int j)], ρ1) => if -(2 ^ 62) ≤ j ∧ j < 2 ^ 62 then some (rangeD 0 j.toNat, ρ1) else none
  | _ => none
def iR2 (ms : MA) : MI := fun ρ => match ms ρ with
  | some ([.dat (.int i), .dat (.int j)], ρ1) => if -(2 ^ 62) ≤ i ∧ i < 2 ^ 62 ∧ -(2 ^ 62) ≤ j ∧ j < 2 ^ 62 then some (rangeD i (j - i).toNat, ρ1) else none
  | _ => none
theorem di_r1 {ms : MA} (hg : Gl X "range") (hm : X.mg "range" = none) (h : DA X [a] ms) (hs : starEach [a] X.env = [(false, eval a X.env)] := by rfl) : DI X tg (.Call (.Name "range" p) [a] [] pos) (iR1 ms) := by
  obtain ⟨t, ht, k⟩ := h.ex
  refine ⟨_, pi_range1 hg hm ht hs, fun σ H F ρ ds ρ' R s e q => ?_⟩
  unfold iR1 at e
  split at e
  · next j ρ1 e1 =>
    split at e
    · next hj =>
      cases e
      refine k σ H F ρ _ _ _ s e1 fun vs F1 H1 x1 y1 => ?_
      cases y1 with
      | cons h1 h2 =>
        cases h2
        have h1' : Dq X.K F1 _ (.int j) := h1
        cases h1'
        exact ⟨j, rfl, hj.1, hj.2, q _ F1 H1 x1 it_range⟩
    · cases e
  · cases e
theorem di_r2 {ms : MA} (hg : Gl X "range") (hm : X.mg "range" = none) (h : DA X [a, b] ms) (hs : starEach [a, b] X.env = [(false, eval a X.env), (false, eval b X.env)] := by rfl) (hs2 : starEach [b] X.env = [(false, eval b X.env)] := by rfl) :
    DI X tg (.Call (.Name "range" p) [a, b] [] pos) (iR2 ms) := by
  obtain ⟨t, ht, k⟩ := h.ex
  refine ⟨_, pi_range2 hg hm ht hs hs2, fun σ H F ρ ds ρ' R s e q => ?_⟩
  unfold iR2 at e
  split at e
  · next i j ρ1 e1 =>
    split at e
    · next hj =>
      cases e
      refine k σ H F ρ _ _ _ s e1 fun vs F1 H1 x1 y1 => ?_
      cases y1 with
      | cons h1 h2 =>
        cases h2 with
        | cons h2 h3 =>
          cases h3
          have h1' : Dq X.K F1 _ (.int i) := h1
          have h2' : Dq X.K F1 _ (.int j) := h2
          cases h1'
          cases h2'
          exact ⟨i, j, rfl, hj, q _ F1 H1 x1 it_range⟩
    · cases e
  · cases e
end

/-! ### list comprehensions -/
def wipeE (ρ : En) : List Nat → En
  | [] => ρ
  | v :: vs => (wipeE ρ vs).set v none
def restE (ρ0 ρ1 : En) : List Nat → En
  | [] => ρ1
  | v :: vs => (restE ρ0 ρ1 vs).set v (ρ0[v]?.getD none)
def noOwn (ρ : En) : List Nat → Bool
  | [] => true
  | v :: vs => (match ρ[v]? with
    | some (some (.obj _)) => false
    | _ => true) && noOwn ρ vs
section
variable {G : Wd} {F H F1 H1 : Hp} {σ : L2.St} {ρ ρ1 : En}
theorem wipeE_len (ρ : En) : ∀ vs : List Nat, (wipeE ρ vs).length = ρ.length
  | [] => rfl
  | v :: vs => by unfold wipeE; rw [List.length_set, wipeE_len ρ vs]
theorem wipeE_get {ρ : En} {j : Nat} {x : DV} : ∀ {vs : List Nat}, (wipeE ρ vs)[j]? = some (some x) → ρ[j]? = some (some x) ∧ j ∉ vs
  | [], h => ⟨h, by simp⟩
  | v :: vs, h => by
    unfold wipeE at h
    rw [List.getElem?_set] at h
    by_cases hv : v = j
    · rw [if_pos hv] at h
      split at h <;> cases h
    · rw [if_neg hv] at h
      obtain ⟨h1, h2⟩ := wipeE_get h
      exact ⟨h1, fun z => (List.mem_cons.mp z).elim (fun w => hv w.symm) h2⟩
theorem wipeE_out {ρ : En} {j : Nat} : ∀ {vs : List Nat}, j ∉ vs → (wipeE ρ vs)[j]? = ρ[j]?
  | [], _ => rfl
  | v :: vs, h => by
    unfold wipeE
    rw [List.getElem?_set, if_neg (show ¬ v = j from fun z => h (z ▸ List.mem_cons_self))]
    exact wipeE_out fun z => h (List.mem_cons_of_mem _ z)
theorem wipe_out {σ : L2.St} {j : Nat} : ∀ {vs : List Nat}, j ∉ vs → (wipe σ vs)[j]? = σ[j]?
  | [], _ => rfl
  | v :: vs, h => by
    unfold wipe
    rw [List.getElem?_set, if_neg (show ¬ v = j from fun z => h (z ▸ List.mem_cons_self))]
    exact wipe_out fun z => h (List.mem_cons_of_mem _ z)
theorem restE_len (ρ0 ρ1 : En) : ∀ vs : List Nat, (restE ρ0 ρ1 vs).length = ρ1.length
  | [] => rfl
  | v :: vs => by unfold restE; rw [List.length_set, restE_len ρ0 ρ1 vs]
theorem restE_out {ρ0 ρ1 : En} {j : Nat} : ∀ {vs : List Nat}, j ∉ vs → (restE ρ0 ρ1 vs)[j]? = ρ1[j]?
  | [], _ => rfl
  | v :: vs, h => by
    unfold restE
    rw [List.getElem?_set, if_neg (show ¬ v = j from fun z => h (z ▸ List.mem_cons_self))]
    exact restE_out fun z => h (List.mem_cons_of_mem _ z)
theorem restE_in {ρ0 ρ1 : En} {j : Nat} {x : DV} : ∀ {vs : List Nat}, j ∈ vs → (restE ρ0 ρ1 vs)[j]? = some (some x) → ρ0[j]? = some (some x)
  | v :: vs, h, e => by
    unfold restE at e
    rw [List.getElem?_set] at e
    by_cases hv : v = j
    · rw [if_pos hv] at e
      split at e
      · have e' := Option.some.inj e
        rw [hv] at e'
        cases q : ρ0[j]? with
        | none => rw [q] at e'; cases e'
        | some y => rw [q] at e'; exact congrArg some e'
      · cases e
    · rw [if_neg hv] at e
      exact restE_in ((List.mem_cons.mp h).elim (fun w => absurd w.symm hv) id) e
theorem noOwn_mem {ρ : En} {o : OB} {j : Nat} : ∀ {vs : List Nat}, noOwn ρ vs = true → j ∈ vs → ρ[j]? ≠ some (some (.obj o))
  | v :: vs, h, hj, e => by
    unfold noOwn at h
    rw [Bool.and_eq_true] at h
    rcases List.mem_cons.mp hj with rfl | hj
    · rw [e] at h
      exact absurd h.1 (by simp)
    · exact noOwn_mem h.2 hj e
theorem sat_wipe (vs : List Nat) (s : Sat G F H σ ρ) : Sat G F H (wipe σ vs) (wipeE ρ vs) := by
  refine ⟨s.sub, by rw [wipeE_len, wipe_length]; exact s.len, fun j d q => ?_, fun j o q => ?_, fun j l o u a q1 q2 q3 q4 => ?_⟩
  · obtain ⟨h1, h2⟩ := wipeE_get q
    rw [wipe_out h2]
    exact s.dat j d h1
  · obtain ⟨h1, h2⟩ := wipeE_get q
    rw [wipe_out h2]
    exact s.obj j o h1
  · obtain ⟨h1, h2⟩ := wipeE_get q1
    obtain ⟨h3, h4⟩ := wipeE_get q2
    rw [wipe_out h2] at q3
    rw [wipe_out h4] at q4
    exact s.sep j l o u a h1 h3 q3 q4
theorem own_wipe {vs : List Nat} {a : Addr} (h : Own (wipe σ vs) (wipeE ρ vs) a) : Own σ ρ a := by
  obtain ⟨j, o, q1, q2⟩ := h
  obtain ⟨h1, h2⟩ := wipeE_get q1
  rw [wipe_out h2] at q2
  exact ⟨j, o, h1, q2⟩
theorem own_unwipe {vs : List Nat} {a : Addr} (n : noOwn ρ vs = true) (h : Own σ ρ a) : Own (wipe σ vs) (wipeE ρ vs) a := by
  obtain ⟨j, o, q1, q2⟩ := h
  have hj : j ∉ vs := fun z => noOwn_mem n z q1
  exact ⟨j, o, by rw [wipeE_out hj]; exact q1, by rw [wipe_out hj]; exact q2⟩
/-- from the block's state back to the def's -/
theorem stp_unwipe {vs : List Nat} (s : Sat G F H σ ρ) (n : noOwn ρ vs = true) (x : Stp G F H (wipe σ vs) (wipeE ρ vs) F1 H1 (wipe σ vs) (wipeE ρ1 vs)) : Stp G F H σ ρ F1 H1 σ (restE ρ ρ1 vs) := by
  have hw := x.sat
  have look : ∀ {j : Nat} {y : DV}, (restE ρ ρ1 vs)[j]? = some (some y) → (j ∈ vs ∧ ρ[j]? = some (some y)) ∨ (j ∉ vs ∧ (wipeE ρ1 vs)[j]? = some (some y)) := fun {j y} q => by
    by_cases hj : j ∈ vs
    · exact .inl ⟨hj, restE_in hj q⟩
    · rw [restE_out hj] at q
      exact .inr ⟨hj, by rw [wipeE_out hj]; exact q⟩
  have lookO : ∀ {j : Nat} {o : OB}, (restE ρ ρ1 vs)[j]? = some (some (.obj o)) → j ∉ vs ∧ (wipeE ρ1 vs)[j]? = some (some (.obj o)) := fun q =>
    (look q).elim (fun w => absurd w.2 (noOwn_mem n w.1)) id
  have lenq : (restE ρ ρ1 vs).length = σ.length := by
    have := hw.len
    rw [wipeE_len, wipe_length] at this
    rw [restE_len]
    exact this
  refine ⟨⟨hw.sub, lenq, fun j d q => ?_, fun j o q => ?_, fun j l o u a q1 q2 q3 q4 => ?_⟩, x.ext, fun a o q w => x.frm a o q fun z => w (own_wipe z), fun a q q' => (x.new a q q').imp id own_wipe, fun a q => ?_, rfl, x.per⟩
  · rcases look q with ⟨_, w⟩ | ⟨h1, w⟩
    · obtain ⟨v, z1, z2⟩ := s.dat j d w
      exact ⟨v, z1, dp_mono x.ext z2⟩
    · obtain ⟨v, z1, z2⟩ := hw.dat j d w
      rw [wipe_out h1] at z1
      exact ⟨v, z1, z2⟩
  · obtain ⟨h1, w⟩ := lookO q
    obtain ⟨a, u, z1, z2⟩ := hw.obj j o w
    rw [wipe_out h1] at z1
    exact ⟨a, u, z1, z2⟩
  · obtain ⟨h1, w1⟩ := lookO q1
    obtain ⟨h2, w2⟩ := lookO q2
    exact hw.sep j l o u a w1 w2 (by rw [wipe_out h1]; exact q3) (by rw [wipe_out h2]; exact q4)
  · obtain ⟨j, o, q1, q2⟩ := q
    obtain ⟨h1, w1⟩ := lookO q1
    exact (x.own a ⟨j, o, w1, by rw [wipe_out h1]; exact q2⟩).imp own_wipe id
/-- the list in the making grows -/
theorem stp_grown {F0 H0 : Hp} {σ0 : L2.St} {ρ0 : En} {D : Addr} {o : HO} (x : Stp G F0 H0 σ0 ρ0 F H σ ρ) (h0 : H0 D = none) (h1 : F D = none) (h2 : ¬ Own σ ρ D) : Stp G F0 H0 σ0 ρ0 F (upd H D o) σ ρ := by
  refine ⟨⟨fun b u q => ?_, x.sat.len, x.sat.dat, fun j u q => ?_, x.sat.sep⟩, x.ext, fun b u q w => ?_, x.new, x.own, x.len, fun b q => ?_⟩
  · rw [upd_ne (ne_of_none q h1)]
    exact x.sat.sub b u q
  · obtain ⟨b, w, z1, z2, z3, z4⟩ := x.sat.obj j u q
    refine ⟨b, w, z1, z2, ?_, z4⟩
    rw [upd_ne (show b ≠ D from fun z => h2 ⟨j, u, q, z ▸ z1⟩)]
    exact z3
  · rw [upd_ne (ne_of_none q h0)]
    exact x.frm b u q w
  · by_cases hb : b = D
    · rw [hb]; exact h0
    · rw [upd_ne hb] at q
      exact x.per b q
end
/-- the tests of a comprehension -/
structure DTs (X : Cx) (es : List Expr) (m : MT) : Prop where
  ex : ∃ t : TT, PTs X es t ∧ ∀ (σ : L2.St) (H F : Hp) (ρ : En) (b : Bool) (ρ' : En) (Q : Bool → Hp → Prop), Sat (wd X) F H σ ρ → m ρ = some (b, ρ') →
    (∀ F' H', Stp (wd X) F H σ ρ F' H' σ ρ' → Q b H') → t σ H Q
def mYes : MT := fun ρ => some (true, ρ)
def loopC (vs : List Nat) (g : MG) (t : MT) (me : ME) : List Pd → List Pd → En → Option (List Pd × En)
  | [], acc, ρ => some (acc, ρ)
  | d :: ds, acc, ρ => match g d ρ with
    | some ρ1 => match t ρ1 with
      | some (true, ρ2) => match me ρ2 with
        | some (r, ρ3) => match toD r ρ3 with
          | some (d', ρ4) => loopC vs g t me ds (acc ++ [d']) (wipeE ρ4 vs)
          | none => none
        | none => none
      | some (false, ρ2) => loopC vs g t me ds acc (wipeE ρ2 vs)
      | none => none
    | none => none
def mLc (mi : MI) (vs : List Nat) (g : MG) (t : MT) (me : ME) : ME := fun ρ => match mi ρ with
  | some (ds, ρ1) => if ds.length < sizeLine ∧ noOwn ρ1 vs = true then match loopC vs g t me ds [] (wipeE ρ1 vs) with
      | some (acc, ρ2) => some (.new (.lst acc), restE ρ1 ρ2 vs)
      | none => none
    else none
  | none => none
/-! ### one reading for many contexts -/
section
variable {ι : Type} {c : ι → Cx} {G : Wd} {e tg : Expr} {es : List Expr} {B : List Nat}
theorem uni_e {m : ME} (hG : ∀ i, wd (c i) = G) (h : ∀ i, DE (c i) e m) : ∃ t : TE, (∀ i, PE (c i) e t) ∧ ∀ (σ : L2.St) (H F : Hp) (ρ : En) (r : Rs) (ρ' : En) (Q : VK), Sat G F H σ ρ → m ρ = some (r, ρ') →
    (∀ v F' H', Stp G F H σ ρ F' H' σ ρ' → RepR G F' H' σ ρ' H v r → Q v H') → t σ H Q := by
  refine ⟨fun σ H Q => ∀ i pins s, Inv (c i) pins σ H s → wpAny (model (c i).prog (c i).w) (c i).A (eval e (c i).env) (EP (c i) pins σ Q) (c i).xe s, fun i => ⟨fun pins s σ H Q I h => h i pins s I⟩, ?_⟩
  intro σ H F ρ r ρ' Q s e1 q i pins sh I
  obtain ⟨t, ht, k⟩ := (h i).ex
  rw [hG i] at k
  exact ht.run pins sh σ H Q I (k σ H F ρ r ρ' Q s e1 q)
theorem uni_t {m : MT} (hG : ∀ i, wd (c i) = G) (h : ∀ i, DTs (c i) es m) : ∃ t : TT, (∀ i, PTs (c i) es t) ∧ ∀ (σ : L2.St) (H F : Hp) (ρ : En) (b : Bool) (ρ' : En) (Q : Bool → Hp → Prop), Sat G F H σ ρ → m ρ = some (b, ρ') →
    (∀ F' H', Stp G F H σ ρ F' H' σ ρ' → Q b H') → t σ H Q := by
  refine ⟨fun σ H Q => ∀ i, ∃ t, PTs (c i) es t ∧ t σ H Q, fun i => ⟨fun pins s σ H Q I hq => ?_⟩, ?_⟩
  · obtain ⟨t, ht, hq⟩ := hq i
    exact ht.run pins s σ H Q I hq
  · intro σ H F ρ b ρ' Q s e1 q i
    obtain ⟨t, ht, k⟩ := (h i).ex
    rw [hG i] at k
    exact ⟨t, ht, k σ H F ρ b ρ' Q s e1 q⟩
theorem uni_g {m : MG} (hG : ∀ i, wd (c i) = G) (h : ∀ i, DG (c i) B tg m) : ∃ t : TG, (∀ i, PG (c i) tg t) ∧ ∀ (v : V) (d : Pd) (σ : L2.St) (H F : Hp) (ρ ρ' : En) (Q : L2.St → Hp → Prop), Sat G F H σ ρ → Dq G.K F v d → m d ρ = some ρ' →
    (∀ σ', Stp G F H σ ρ F H σ' ρ' → Kp B σ σ' → Q σ' H) → t v σ H Q := by
  refine ⟨fun v σ H Q => ∀ i, ∃ t, PG (c i) tg t ∧ t v σ H Q, fun i => ⟨fun pins s σ H v u Q I r hq => ?_⟩, ?_⟩
  · obtain ⟨t, ht, hq⟩ := hq i
    exact ht.run pins s σ H v u Q I r hq
  · intro v d σ H F ρ ρ' Q s dp e1 q i
    obtain ⟨t, ht, k⟩ := (h i).ex
    have hK : (c i).K = G.K := congrArg Wd.K (hG i)
    rw [hG i, hK] at k
    exact ⟨t, ht, k v d σ H F ρ ρ' Q s dp e1 q⟩
end
section
variable {X : Cx} {elt tg iter : Expr} {ifs : List Expr} {scope : Scope} {own : List (Str × Nat)} {pos : Pos} {mi : MI} {g : MG} {mt : MT} {me : ME} {B : List Nat}
theorem dts_nil : DTs X [] mYes := ⟨_, pts_nil, fun σ H F ρ b ρ' Q s e q => by
  cases e
  exact q F H (.refl s)⟩
theorem dts_one {c : Expr} (h : DT X c mt) : DTs X [c] mt := let ⟨t, ht, k⟩ := h.ex; ⟨t, pts_one ht, k⟩
/-- the slots that a target may change -/
def OnlyB (vs : List Nat) (n : Nat) : List Nat := (List.range n).filter fun i => !vs.contains i
theorem onlyB_mem {vs : List Nat} {n i : Nat} (h : i < n) (hv : i ∉ vs) : i ∈ OnlyB vs n := by
  unfold OnlyB
  rw [List.mem_filter]
  exact ⟨List.mem_range.mpr h, by simpa using hv⟩
theorem wipe_ext {vs : List Nat} {σ σ2 : L2.St} (hl : σ2.length = σ.length) (h : ∀ i, i ∉ vs → σ2[i]? = σ[i]?) : wipe σ2 vs = wipe σ vs := by
  apply List.ext_getElem?
  intro i
  by_cases hi : i ∈ vs
  · have a : ∀ (τ : L2.St) {ws : List Nat}, i ∈ ws → (wipe τ ws)[i]? = if i < τ.length then some none else none := by
      intro τ ws
      induction ws with
      | nil => intro z; cases z
      | cons w ws ih =>
        intro z
        unfold wipe
        rw [List.getElem?_set, wipe_length]
        by_cases hw : w = i
        · rw [if_pos hw]
          subst hw
          rfl
        · rw [if_neg hw]
          exact ih ((List.mem_cons.mp z).elim (fun q => absurd q.symm hw) id)
    rw [a σ2 hi, a σ hi, hl]
  · rw [wipe_out hi, wipe_out hi]
    exact h i hi
theorem lc_run {wi : TI} {tg' : TG} {tt : TT} {te : TE} {vs : List Nat}
    (ki : ∀ (σ : L2.St) (H F : Hp) (ρ : En) (ds : List Pd) (ρ' : En) (R : It → Hp → Prop), Sat (wd X) F H σ ρ → mi ρ = some (ds, ρ') → (∀ J F' H', Stp (wd X) F H σ ρ F' H' σ ρ' → ItOk (wd X) F' J ds → R J H') → wi σ H R)
    (kg : ∀ n, ∀ (v : V) (d : Pd) (σ : L2.St) (H F : Hp) (ρ ρ' : En) (Q : L2.St → Hp → Prop), σ.length = n → Sat (wd X) F H σ ρ → Dq X.K F v d → g d ρ = some ρ' → (∀ σ', Stp (wd X) F H σ ρ F H σ' ρ' → Kp (OnlyB vs n) σ σ' → Q σ' H) → tg' v σ H Q)
    (kt : ∀ (σ : L2.St) (H F : Hp) (ρ : En) (b : Bool) (ρ' : En) (Q : Bool → Hp → Prop), Sat (wd X) F H σ ρ → mt ρ = some (b, ρ') → (∀ F' H', Stp (wd X) F H σ ρ F' H' σ ρ' → Q b H') → tt σ H Q)
    (ke : ∀ (σ : L2.St) (H F : Hp) (ρ : En) (r : Rs) (ρ' : En) (Q : VK), Sat (wd X) F H σ ρ → me ρ = some (r, ρ') → (∀ v F' H', Stp (wd X) F H σ ρ F' H' σ ρ' → RepR (wd X) F' H' σ ρ' H v r → Q v H') → te σ H Q) :
    ∀ (σ : L2.St) (H F : Hp) (ρ : En) (r : Rs) (ρ' : En) (Q : VK), Sat (wd X) F H σ ρ → mLc mi vs g mt me ρ = some (r, ρ') →
      (∀ v F' H', Stp (wd X) F H σ ρ F' H' σ ρ' → RepR (wd X) F' H' σ ρ' H v r → Q v H') → tLc wi tg' tt te vs σ H Q := by
  intro σ H F ρ r ρ' Q s e q
  unfold mLc at e
  split at e
  · next ds ρ1 e1 =>
    split at e
    · next hz =>
      obtain ⟨hz, hno⟩ := hz
      split at e
      · next acc ρ2 e2 =>
        cases e
        refine ki σ H F ρ ds ρ1 _ s e1 fun J F1 H1 x1 ok D hD => ?_
        have sw := sat_wipe vs x1.sat
        have fD : F1 D = none := same_free x1.sat.sub hD
        have x0 : Stp (wd X) F1 H1 (wipe σ vs) (wipeE ρ1 vs) F1 (upd H1 D (.lst [])) (wipe σ vs) (wipeE ρ1 vs) := by
          have gr := Grow.one (o := HO.lst []) x1.sat.sub hD
          exact stp_grow sw gr.e1 gr.e2 gr.e3 gr.nw
        refine lc_it ok (fun i H2 => ∃ F2 ρ3 ys bs, Stp (wd X) F1 H1 (wipe σ vs) (wipeE ρ1 vs) F2 H2 (wipe σ vs) (wipeE ρ3 vs) ∧ H2 D = some (.lst ys) ∧ F2 D = none ∧ ¬ Own (wipe σ vs) (wipeE ρ3 vs) D ∧ DqAll X.K F2 ys bs ∧ ys.length ≤ i ∧ loopC vs g mt me (ds.drop i) bs (wipeE ρ3 vs) = some (acc, ρ2))
          ⟨F1, ρ1, [], [], x0, upd_same, fD, ?_, .nil, Nat.le_refl _, e2⟩ (fun i H2 _ ⟨F2, ρ3, _, _, x2, _⟩ => x2.ext.trans x2.sat.sub) ?_ ?_
        · intro z
          obtain ⟨o, z1, _⟩ := sw.own_some z
          rw [hD] at z1
          cases z1
        · rintro i x H2 H3 hi ⟨F2, ρ3, ys, bs, x2, hy, f2, no2, dp2, hlen, e3⟩ y
          obtain ⟨F3, d, hd, x3, dp⟩ := yd_in x2.sat x2.ext y
          have hy3 : H3 D = some (.lst ys) := x3.frm D _ hy no2
          have keepF : ∀ {F4 H4 : Hp} {σ4 : L2.St} {ρ4 : En}, Stp (wd X) F3 H3 (wipe σ vs) (wipeE ρ3 vs) F4 H4 σ4 ρ4 → H4 D = some (.lst ys) ∧ F4 D = none ∧ ¬ Own σ4 ρ4 D := fun {F4 H4 σ4 ρ4} x4 => by
            have n3 : F3 D = none := by
              cases w : F3 D with
              | none => rfl
              | some u =>
                rcases x3.new D f2 (by rw [w]; exact nofun) with z | z
                · rw [hy] at z; cases z
                · exact absurd z no2
            refine ⟨x4.frm D _ hy3 no2, ?_, fun z => ?_⟩
            · cases w : F4 D with
              | none => rfl
              | some u =>
                rcases x4.new D n3 (by rw [w]; exact nofun) with z | z
                · rw [hy3] at z; cases z
                · exact absurd z no2
            · rcases x4.own D z with w | w
              · exact no2 w
              · rw [hy3] at w; cases w
          rw [drop_cons hd] at e3
          simp only [loopC] at e3
          split at e3
          · next ρ4 e4 =>
            refine kg (wipe σ vs).length x d _ H3 F3 _ ρ4 _ rfl x3.sat dp e4 fun σ4 x4 kp4 => ?_
            have hw4 : wipe σ4 vs = wipe σ vs := by
              have h1 : wipe σ4 vs = wipe (wipe σ vs) vs := wipe_ext x4.len fun j hj => by
                by_cases hl : j < (wipe σ vs).length
                · exact kp4 j (onlyB_mem hl hj)
                · rw [List.getElem?_eq_none (by rw [x4.len]; omega), List.getElem?_eq_none (by omega)]
              rw [h1]
              exact wipe_ext (wipe_length σ vs) fun j hj => wipe_out hj
            refine ⟨hw4, ?_⟩
            have base := x2.trans x3
            -- what a turn leaves, in the block's own terms
            have close : ∀ {F5 H5 : Hp} {ρ5 : En}, Stp (wd X) F3 H3 (wipe σ vs) (wipeE ρ3 vs) F5 H5 σ4 ρ5 → Stp (wd X) F1 H1 (wipe σ vs) (wipeE ρ1 vs) F5 H5 (wipe σ vs) (wipeE ρ5 vs) := fun {F5 H5 ρ5} x5 => by
              have x6 := base.trans x5
              have sw5 := sat_wipe vs x6.sat
              rw [hw4] at sw5
              refine ⟨sw5, x6.ext, x6.frm, x6.new, fun b z => x6.own b ?_, rfl, x6.per⟩
              rw [← hw4] at z
              exact own_wipe z
            split at e3
            · next ρ5 e5 =>
              refine kt σ4 H3 F3 ρ4 true ρ5 _ x4.sat e5 fun F5 H5 x5 => ?_
              show if true = true then _ else _
              rw [if_pos rfl]
              split at e3
              · next r6 ρ6 e6 =>
                split at e3
                · next d7 ρ7 e7 =>
                  refine ke σ4 H5 F5 ρ5 r6 ρ6 _ x5.sat e6 fun v6 F6 H6 x6 y6 => ?_
                  obtain ⟨F7, x7, m7, y7⟩ := toD_ok x6 y6 e7
                  have x8 := (x4.trans x5).trans x7
                  obtain ⟨k1, k2, k3⟩ := keepF x8
                  have no8 : ¬ Own (wipe σ vs) (wipeE ρ7 vs) D := fun z => by
                    rw [← hw4] at z
                    exact k3 (own_wipe z)
                  refine ⟨ys, k1, by omega, F7, ρ7, ys ++ [v6], bs ++ [d7], stp_grown (close x8) hD k2 no8, upd_same, k2, no8, ?_, ?_, e3⟩
                  · exact dpAll_app (dpAll_mono ((x3.ext.trans x8.ext)) dp2) (.cons y7 .nil)
                  · rw [List.length_append]
                    show ys.length + 1 ≤ i + 1
                    omega
                · cases e3
              · cases e3
            · next ρ5 e5 =>
              refine kt σ4 H3 F3 ρ4 false ρ5 _ x4.sat e5 fun F5 H5 x5 => ?_
              show if false = true then _ else _
              rw [if_neg Bool.false_ne_true]
              have x8 := x4.trans x5
              obtain ⟨k1, k2, k3⟩ := keepF x8
              have no8 : ¬ Own (wipe σ vs) (wipeE ρ5 vs) D := fun z => by
                rw [← hw4] at z
                exact k3 (own_wipe z)
              exact ⟨F5, ρ5, ys, bs, close x8, k1, k2, no8, dpAll_mono (x3.ext.trans x8.ext) dp2, by omega, e3⟩
            · cases e3
          · cases e3
        · rintro H2 ⟨F2, ρ3, ys, bs, x2, hy, f2, no2, dp2, hlen, e3⟩
          rw [List.drop_length] at e3
          cases e3
          have x3 := stp_unwipe (ρ1 := wipeE ρ3 vs) x1.sat hno (by
            have : wipeE (wipeE ρ3 vs) vs = wipeE ρ3 vs := by
              apply List.ext_getElem?
              intro j
              by_cases hj : j ∈ vs
              · have a : ∀ (τ : En) {ws : List Nat}, j ∈ ws → (wipeE τ ws)[j]? = if j < τ.length then some none else none := by
                  intro τ ws
                  induction ws with
                  | nil => intro z; cases z
                  | cons w ws ih =>
                    intro z
                    unfold wipeE
                    rw [List.getElem?_set, wipeE_len]
                    by_cases hw : w = j
                    · rw [if_pos hw]
                      subst hw
                      rfl
                    · rw [if_neg hw]
                      exact ih ((List.mem_cons.mp z).elim (fun q => absurd q.symm hw) id)
                rw [a _ hj, a _ hj, wipeE_len]
              · rw [wipeE_out hj]
            rw [this]
            exact x2)
          refine q _ F2 H2 (x1.trans x3) ⟨D, _, rfl, f2, hy, ⟨ys, rfl, dp2⟩, x1.per D hD, fun z => ?_⟩
          rcases x3.own D z with w | w
          · obtain ⟨o, w1, _⟩ := x1.sat.own_some w
            rw [hD] at w1
            cases w1
          · obtain ⟨j, o, z1, z2⟩ := z
            by_cases hv : j ∈ vs
            · exact absurd (restE_in hv z1) (noOwn_mem hno hv)
            · rw [restE_out hv] at z1
              exact no2 ⟨j, o, z1, by rw [wipe_out hv]; exact z2⟩
      · cases e
    · cases e
  · cases e
theorem not_onlyB {vs : List Nat} {n i : Nat} (h : i ∈ vs) : i ∉ OnlyB vs n := fun z => by
  unfold OnlyB at z
  rw [List.mem_filter] at z
  have := z.2
  simp at this
  exact this h
theorem uni_gn {ι : Type} {c : ι → Cx} {G : Wd} {tg : Expr} {vs : List Nat} {m : MG} (hG : ∀ i, wd (c i) = G) (h : ∀ n i, DG (c i) (OnlyB vs n) tg m) : ∃ t : TG, (∀ i, PG (c i) tg t) ∧
    ∀ (n : Nat) (v : V) (d : Pd) (σ : L2.St) (H F : Hp) (ρ ρ' : En) (Q : L2.St → Hp → Prop), σ.length = n → Sat G F H σ ρ → Dq G.K F v d → m d ρ = some ρ' → (∀ σ', Stp G F H σ ρ F H σ' ρ' → Kp (OnlyB vs n) σ σ' → Q σ' H) → t v σ H Q := by
  refine ⟨fun v σ H Q => ∀ i, ∃ t, PG (c i) tg t ∧ t v σ H Q, fun i => ⟨fun pins s σ H v u Q I r hq => ?_⟩, ?_⟩
  · obtain ⟨t, ht, hq⟩ := hq i
    exact ht.run pins s σ H v u Q I r hq
  · intro n v d σ H F ρ ρ' Q hn s dp e1 q i
    obtain ⟨t, ht, k⟩ := (h n i).ex
    have hK : (c i).K = G.K := congrArg Wd.K (hG i)
    rw [hG i, hK] at k
    exact ⟨t, ht, k v d σ H F ρ ρ' Q s dp e1 q⟩
/-- the contexts of a block -/
structure Bx where
  s : Shared
  H : Hp
  C : Addr
  cl : List (Str × Addr)
  fp : List Addr
abbrev blkX (X : Cx) (scope : Scope) (i : Bx) : Cx := X.blk i.s i.H scope (compEnvC scope i.cl i.C X.env) i.fp
theorem de_lc {vs : List Nat} (hc : X.calm = true) (hN : X.N.Nodup) (ok : BlkOk X.N X.env.scope scope own) (hv : own.map (·.2) = vs) (hi : DI X tg iter mi) (hg : ∀ n i, DG (blkX X scope i) (OnlyB vs n) tg g) (ht : ∀ i, DTs (blkX X scope i) ifs mt)
    (he : ∀ i, DE (blkX X scope i) elt me) (hs : ∀ x, foldedSetIterable iter X.env x = pure x := by intro _; rfl) : DE X (.ListComp elt [⟨tg, iter, ifs, 0⟩] scope pos) (mLc mi vs g mt me) := by
  subst hv
  obtain ⟨wi, h1, ki⟩ := hi.ex
  obtain ⟨tg', h2, kg⟩ := uni_gn (c := blkX X scope) (G := wd X) (fun _ => rfl) hg
  obtain ⟨tt, h3, kt⟩ := uni_t (c := blkX X scope) (G := wd X) (fun _ => rfl) ht
  obtain ⟨te, h4, ke⟩ := uni_e (c := blkX X scope) (G := wd X) (fun _ => rfl) he
  exact ⟨_, pe_lc hc hN h1 ok (fun s H C cl fp => h2 ⟨s, H, C, cl, fp⟩) (fun s H C cl fp => h3 ⟨s, H, C, cl, fp⟩) (fun s H C cl fp => h4 ⟨s, H, C, cl, fp⟩) hs, lc_run ki kg kt ke⟩
theorem ds_setLc {vs : List Nat} {i : Nat} {y : Str} {py spos : Pos} (hc : X.calm = true) (hN : X.N.Nodup) (ok : BlkOk X.N X.env.scope scope own) (hv : own.map (·.2) = vs)
    (hsw : swapsWith (.ListComp elt [⟨tg, iter, ifs, 0⟩] scope pos) (some (.Name y py)) spos.line X.env = pure true) (hi : DI X tg iter mi) (hg : ∀ n i, DG (blkX X scope i) (OnlyB vs n) tg g) (ht : ∀ i, DTs (blkX X scope i) ifs mt)
    (he : ∀ i, DE (blkX X scope i) elt me) (hy : X.N[i]? = some y := by rfl) (hyl : X.env.scope.names.lookup y = some .local := by rfl) (hB : i ∉ B := by decide) (hs : ∀ x, foldedSetIterable iter X.env x = pure x := by intro _; rfl) :
    DS X B (.Assign [.Name y py] (.ListComp elt [⟨tg, iter, ifs, 0⟩] scope pos) spos) (mSet i (mLc mi vs g mt me)) := by
  subst hv
  obtain ⟨wi, h1, ki⟩ := hi.ex
  obtain ⟨tg', h2, kg⟩ := uni_gn (c := blkX X scope) (G := wd X) (fun _ => rfl) hg
  obtain ⟨tt, h3, kt⟩ := uni_t (c := blkX X scope) (G := wd X) (fun _ => rfl) ht
  obtain ⟨te, h4, ke⟩ := uni_e (c := blkX X scope) (G := wd X) (fun _ => rfl) he
  exact ⟨_, ps_setLc hc hN hy hyl hsw h1 ok (fun s H C cl fp => h2 ⟨s, H, C, cl, fp⟩) (fun s H C cl fp => h3 ⟨s, H, C, cl, fp⟩) (fun s H C cl fp => h4 ⟨s, H, C, cl, fp⟩) hs, set_run (lc_run ki kg kt ke) hB⟩
end
end Mw

set_option Elab.async false
set_option linter.all false
set_option maxRecDepth 100000
set_option autoImplicit false
namespace Mw
open PySem PySem.Spec PyProof.Rows L2

/-! ### defs as functions of what they are handed -/
abbrev FM := List DV → Option (Rs × List DV)
abbrev sm (l : List V) : L2.St := l.map some
abbrev em (l : List DV) : En := l.map some
def spF (G : Wd) (n : Nat) (fm : FM) : Sp := fun vs H Q _ => vs.length = n ∧ ∃ F args r args', Sat G F H (sm vs) (em args) ∧ fm args = some (r, args') ∧
  ∀ v F' H', Stp G F H (sm vs) (em args) F' H' (sm vs) (em args') → RepR G F' H' (sm vs) (em args') H v r → Q v H'
/-- what is handed in: objects stand at the places B alone -/
def okArgs (B : List Nat) : Nat → List DV → Bool
  | _, [] => true
  | i, .dat _ :: as => okArgs B (i + 1) as
  | i, .obj _ :: as => B.contains i && okArgs B (i + 1) as
def outA : List DV → En → Option (List DV)
  | [], _ => some []
  | .dat d :: as, _ :: ρ => match outA as ρ with
    | some r => some (.dat d :: r)
    | none => none
  | .obj _ :: as, some (.obj x) :: ρ => match outA as ρ with
    | some r => some (.obj x :: r)
    | none => none
  | _, _ => none
def outR (B : List Nat) (ρ : En) : Rs → Option Rs
  | .dat d => some (.dat d)
  | .new o => some (.new o)
  | .slot i => match ρ[i]? with
    | some (some (.dat d)) => some (.dat d)
    | some (some (.obj o)) => if B.contains i then none else some (.new o)
    | _ => none
def finF (B : List Nat) (args : List DV) (r : Rs) (ρ : En) : Option (Rs × List DV) := match outR B ρ r with
  | some r' => match outA args ρ with
    | some as => some (r', as)
    | none => none
  | none => none
def runF (n N : Nat) (B : List Nat) (m : MS) : FM := fun args =>
  if args.length = n ∧ okArgs B 0 args = true then match m (em args ++ List.replicate (N - n) none) with
    | some (.next, ρ) => finF B args (.dat .none) ρ
    | some (.ret r, ρ) => finF B args r ρ
    | _ => none
  else none
section
variable {G : Wd} {F H F1 H1 : Hp} {σ σ1 : L2.St} {ρ ρ1 : En} {vs : List V} {args args' : List DV} {B : List Nat}
theorem okArgs_at : ∀ {args : List DV} {k : Nat}, okArgs B k args = true → ∀ (i : Nat) (o : OB), args[i]? = some (.obj o) → k + i ∈ B
  | [], _, _, i, _, e => by simp at e
  | .dat _ :: as, k, h, 0, _, e => by simp at e
  | .obj _ :: as, k, h, 0, _, e => by
    unfold okArgs at h
    rw [Bool.and_eq_true] at h
    simpa using h.1
  | .dat _ :: as, k, h, i + 1, o, e => by
    unfold okArgs at h
    have := okArgs_at h i o (by simpa using e)
    rw [show k + (i + 1) = k + 1 + i by omega]
    exact this
  | .obj _ :: as, k, h, i + 1, o, e => by
    unfold okArgs at h
    rw [Bool.and_eq_true] at h
    have := okArgs_at h.2 i o (by simpa using e)
    rw [show k + (i + 1) = k + 1 + i by omega]
    exact this
theorem outA_len : ∀ {args : List DV} {ρ : En} {as : List DV}, outA args ρ = some as → as.length = args.length
  | [], _, _, e => by cases e; rfl
  | .dat d :: as, [], _, e => by cases e
  | .dat d :: as, x :: ρ, _, e => by
    simp only [outA] at e
    split at e
    · next r h => cases e; exact congrArg (· + 1) (outA_len h)
    · cases e
  | .obj o :: as, [], _, e => by cases e
  | .obj o :: as, none :: ρ, _, e => by cases e
  | .obj o :: as, some (.dat _) :: ρ, _, e => by cases e
  | .obj o :: as, some (.obj x) :: ρ, _, e => by
    simp only [outA] at e
    split at e
    · next r h => cases e; exact congrArg (· + 1) (outA_len h)
    · cases e
theorem outA_at : ∀ {args : List DV} {ρ : En} {as : List DV}, outA args ρ = some as → ∀ (i : Nat) (x : DV), as[i]? = some x → (∃ d, args[i]? = some (.dat d) ∧ x = .dat d) ∨ (∃ o u, args[i]? = some (.obj o) ∧ x = .obj u ∧ ρ[i]? = some (some (.obj u)))
  | [], _, _, e, i, x, q => by cases e; simp at q
  | .dat d :: as, [], _, e, i, x, q => by cases e
  | .dat d :: as, y :: ρ, _, e, i, x, q => by
    simp only [outA] at e
    split at e
    · next r h =>
      cases e
      cases i with
      | zero => simp at q; exact .inl ⟨d, rfl, q.symm⟩
      | succ i => simpa using outA_at h i x (by simpa using q)
    · cases e
  | .obj o :: as, [], _, e, i, x, q => by cases e
  | .obj o :: as, none :: ρ, _, e, i, x, q => by cases e
  | .obj o :: as, some (.dat _) :: ρ, _, e, i, x, q => by cases e
  | .obj o :: as, some (.obj y) :: ρ, _, e, i, x, q => by
    simp only [outA] at e
    split at e
    · next r h =>
      cases e
      cases i with
      | zero => simp at q; exact .inr ⟨o, y, rfl, q.symm, rfl⟩
      | succ i => simpa using outA_at h i x (by simpa using q)
    · cases e
theorem em_get {l : List DV} {i : Nat} {x : DV} : (em l)[i]? = some (some x) ↔ l[i]? = some x := by
  simp [em]
theorem sm_get {l : List V} {i : Nat} {x : V} : (sm l)[i]? = some (some x) ↔ l[i]? = some x := by
  simp [sm]
/-- the entry: the arguments, the other slots empty -/
theorem pad_get {α : Type} {l : List (Option α)} {k i : Nat} {x : α} (h : (l ++ List.replicate k none)[i]? = some (some x)) : l[i]? = some (some x) := by
  rw [List.getElem?_append] at h
  split at h
  · exact h
  · rw [List.getElem?_replicate] at h
    split at h <;> cases h
theorem pad_put {α : Type} {l : List (Option α)} {k i : Nat} {x : α} (h : l[i]? = some (some x)) : (l ++ List.replicate k none)[i]? = some (some x) := by
  rw [List.getElem?_append_left (List.getElem?_eq_some_iff.mp h).1]
  exact h
theorem sat_pad {k : Nat} (s : Sat G F H σ ρ) : Sat G F H (σ ++ List.replicate k none) (ρ ++ List.replicate k none) := by
  refine ⟨s.sub, by rw [List.length_append, List.length_append, s.len, List.length_replicate, List.length_replicate], fun i d q => ?_, fun i o q => ?_, fun i j o u a q1 q2 q3 q4 => s.sep i j o u a (pad_get q1) (pad_get q2) (pad_get q3) (pad_get q4)⟩
  · obtain ⟨v, h1, h2⟩ := s.dat i d (pad_get q)
    exact ⟨v, pad_put h1, h2⟩
  · obtain ⟨a, u, h1, h2⟩ := s.obj i o (pad_get q)
    exact ⟨a, u, pad_put h1, h2⟩
theorem own_pad {k : Nat} {a : Addr} : Own (σ ++ List.replicate k none) (ρ ++ List.replicate k none) a ↔ Own σ ρ a :=
  ⟨fun ⟨i, o, h1, h2⟩ => ⟨i, o, pad_get h1, pad_get h2⟩, fun ⟨i, o, h1, h2⟩ => ⟨i, o, pad_put h1, pad_put h2⟩⟩
/-- from the body's end back to the arguments -/
theorem fin_ok {k : Nat} {r r' : Rs} {v : V} (s : Sat G F H (sm vs) (em args)) (hB : okArgs B 0 args = true) (x : Stp G F H (sm vs ++ List.replicate k none) (em args ++ List.replicate k none) F1 H1 σ1 ρ1) (kp : Kp B (sm vs ++ List.replicate k none) σ1)
    (h : RepR G F1 H1 σ1 ρ1 H v r) (e : finF B args r ρ1 = some (r', args')) : Stp G F H (sm vs) (em args) F1 H1 (sm vs) (em args') ∧ RepR G F1 H1 (sm vs) (em args') H v r' := by
  unfold finF at e
  split at e
  · next r2 e1 =>
    split at e
    · next as e2 =>
      cases e
      have lenE : (sm vs).length = args.length := by rw [← s.len]; exact List.length_map ..
      have keep : ∀ {i : Nat} {o : OB}, args[i]? = some (.obj o) → ∃ a, (sm vs)[i]? = some (some (.ref a)) ∧ σ1[i]? = some (some (.ref a)) := fun {i o} q => by
        obtain ⟨a, u, h1, _⟩ := s.obj i o (em_get.mpr q)
        refine ⟨a, h1, ?_⟩
        have hb : i ∈ B := by simpa using okArgs_at hB i o q
        rw [kp i hb]
        exact pad_put h1
      have back : ∀ {i : Nat} {o : OB}, (em args')[i]? = some (some (.obj o)) → ∃ a, (sm vs)[i]? = some (some (.ref a)) ∧ σ1[i]? = some (some (.ref a)) ∧ ρ1[i]? = some (some (.obj o)) ∧ i ∈ B := fun {i o} q => by
        rcases outA_at e2 i _ (em_get.mp q) with ⟨d, _, z⟩ | ⟨o', u, h1, h0, h2⟩
        · cases z
        · cases h0
          obtain ⟨a, z1, z2⟩ := keep h1
          exact ⟨a, z1, z2, h2, by simpa using okArgs_at hB i o' h1⟩
      have sat' : Sat G F1 H1 (sm vs) (em args') := by
        refine ⟨x.sat.sub, ?_, fun i d q => ?_, fun i o q => ?_, fun i j o u a q1 q2 q3 q4 => ?_⟩
        · rw [lenE]
          show (args'.map some).length = _
          rw [List.length_map]
          exact outA_len e2
        · rcases outA_at e2 i _ (em_get.mp q) with ⟨d', h1, z⟩ | ⟨o', u, h1, h0, h2⟩
          · cases z
            obtain ⟨w, z1, z2⟩ := s.dat i d (em_get.mpr h1)
            exact ⟨w, z1, dp_mono x.ext z2⟩
          · cases h0
        · obtain ⟨a, z1, z2, z3, _⟩ := back q
          obtain ⟨b, u, w1, w2⟩ := x.sat.obj i o z3
          rw [z2] at w1
          cases w1
          exact ⟨a, u, z1, w2⟩
        · obtain ⟨b, z1, z2, z3, _⟩ := back q1
          obtain ⟨c, y1, y2, y3, _⟩ := back q2
          rw [q3] at z1
          cases z1
          rw [q4] at y1
          cases y1
          exact x.sat.sep i j o u a z3 y3 z2 y2
      have ow : ∀ a, Own (sm vs) (em args') a → Own σ1 ρ1 a := fun a ⟨i, o, q1, q2⟩ => by
        obtain ⟨b, z1, z2, z3, _⟩ := back q1
        rw [q2] at z1
        cases z1
        exact ⟨i, o, z3, z2⟩
      refine ⟨⟨sat', x.ext, fun a o q w => x.frm a o q fun z => w (own_pad.mp z), fun a q q' => (x.new a q q').imp id own_pad.mp, fun a q => (x.own a (ow a q)).imp own_pad.mp id, rfl, x.per⟩, ?_⟩
      cases r with
      | dat d =>
        cases e1
        exact h
      | new o =>
        cases e1
        obtain ⟨p, u, e, h1, h2, h3, h4, h5⟩ := h
        exact ⟨p, u, e, h1, h2, h3, h4, fun z => h5 (ow p z)⟩
      | slot j =>
        have hv : σ1[j]? = some (some v) := h
        simp only [outR] at e1
        split at e1
        · next d q =>
          cases e1
          obtain ⟨w, w1, w2⟩ := x.sat.dat j d q
          rw [hv] at w1
          cases w1
          exact w2
        · next o q =>
          split at e1
          · cases e1
          · next hb =>
            cases e1
            obtain ⟨a, u, w1, w2, w3, w4⟩ := x.sat.obj j o q
            rw [hv] at w1
            cases w1
            refine ⟨a, u, rfl, w2, w3, w4, ?_, fun z => ?_⟩
            · rcases x.own a ⟨j, o, q, hv⟩ with z | z
              · exfalso
                obtain ⟨i, o', z1, z2⟩ := own_pad.mp z
                have hb2 : i ∈ B := by simpa using okArgs_at hB i o' (em_get.mp z1)
                have z3 : σ1[i]? = some (some (.ref a)) := by
                  rw [kp i hb2]
                  exact pad_put z2
                obtain ⟨w, hw⟩ : ∃ w, args'[i]? = some w := by
                  have l1 : i < args.length := (List.getElem?_eq_some_iff.mp (em_get.mp z1)).1
                  rw [← outA_len e2] at l1
                  exact ⟨_, List.getElem?_eq_getElem l1⟩
                rcases outA_at e2 i w hw with ⟨d, y1, _⟩ | ⟨o2, u2, y1, _, y2⟩
                · rw [em_get.mp z1] at y1; cases y1
                · have := x.sat.sep i j u2 o a y2 q z3 hv
                  subst this
                  exact hb (by simpa using hb2)
              · exact z
            · obtain ⟨i, o', z1, z2⟩ := z
              obtain ⟨b, y1, y2, y3, y4⟩ := back z1
              rw [z2] at y1
              cases y1
              have := x.sat.sep i j o' o a y3 q y2 hv
              subst this
              exact hb (by simpa using y4)
        · cases e1
    · cases e
  · cases e
end
end Mw

set_option Elab.async false
set_option linter.all false
set_option maxRecDepth 100000
set_option autoImplicit false
namespace Mw
open PySem PySem.Spec PyProof.Rows L2

/-- the context of a plain body: nothing is let out -/
abbrev cxN (P : Program) (w : World) (K : PySem.W.Frag) (mg : Str → Option Value) (base : Heap) (N : List Str) (qual : Str) (st : Stmt) (f : Addr) (cdv : Value) (A : Around) (outer : List PySem.Env) (s : Shared) (H : Hp) (E : XK) : Cx :=
  (cxG P w K mg base N qual st f cdv A outer s H E).nox
theorem fnF_mk {P : Program} {w : World} {K : PySem.W.Frag} {mg : Str → Option Value} {base : Heap} {x qual : Str} {st : Stmt} {f : Addr} {fd : FuncData} {N ps : List Str} {k : Nat} {B : List Nat} {m : MS}
    (F : Fun K x qual st f fd) (S : FnScope N ps (defScope st))
    (body : ∀ (cdv : Value) (A : Around) (outer : List PySem.Env) (s : Shared) (H : Hp) (E : XK), Room k (A.deeper (envOfC qual (defScope st) s.heap.objs.size f cdv)) → A.guards = some [] →
      DSs (cxN P w K mg base N qual st f cdv A outer s H E) B (defBody st) m) :
    FnG P w K mg base (k + 1) f fd ps (spF ⟨P, w, K⟩ ps.length (runF ps.length N.length B m)) := by
  refine fnG_mk F S (fun vs H Q E h => h.1) fun cdv A outer s H vs Q E hr hg h => ?_
  obtain ⟨hn, F0, args, r, args', hs, hf, q⟩ := h
  obtain ⟨t, ht, l⟩ := (body cdv A outer s H E hr hg).ex
  refine ⟨t, ht.nox, ?_⟩
  unfold runF at hf
  split at hf
  · next hh =>
    have est : start N vs = sm vs ++ List.replicate (N.length - ps.length) none := by
      unfold L2.start
      rw [hn]
    rw [est]
    have s0 := sat_pad (k := N.length - ps.length) hs
    split at hf
    · next ρ1 e1 =>
      refine l _ H F0 _ .next ρ1 _ s0 e1 fun σ1 F1 H1 x1 kp => ?_
      obtain ⟨y1, y2⟩ := fin_ok (r := .dat .none) (v := .non) hs hh.2 x1 kp Dq.non hf
      exact q _ F1 H1 y1 y2
    · next r1 ρ1 e1 =>
      refine l _ H F0 _ (.ret r1) ρ1 _ s0 e1 fun σ1 F1 H1 x1 kp v y => ?_
      obtain ⟨y1, y2⟩ := fin_ok hs hh.2 x1 kp y hf
      exact q v F1 H1 y1 y2
    · cases hf
  · cases hf
theorem spF_imp {G : Wd} {n : Nat} {fm fm' : FM} (h : ∀ args r as, fm args = some (r, as) → fm' args = some (r, as)) (vs : List V) (H : Hp) (Q : VK) (E : XK) (q : spF G n fm vs H Q E) : spF G n fm' vs H Q E := by
  obtain ⟨hn, F0, args, r, args', hs, hf, q⟩ := q
  exact ⟨hn, F0, args, r, args', hs, h _ _ _ hf, q⟩

/-! ### calls -/
def escB (B : List Nat) : Nat → List Rs → En → Option (List Rs × En)
  | _, [], ρ => some ([], ρ)
  | k, r :: rs, ρ => if B.contains k then match escB B (k + 1) rs ρ with
      | some (rs', ρ') => some (r :: rs', ρ')
      | none => none
    else match esc r ρ with
      | some (d, ρ1) => match escB B (k + 1) rs ρ1 with
        | some (rs', ρ') => some (.dat d :: rs', ρ')
        | none => none
      | none => none
def argsOf (ρ : En) : List Rs → Option (List DV)
  | [] => some []
  | .dat d :: rs => match argsOf ρ rs with
    | some l => some (.dat d :: l)
    | none => none
  | .slot i :: rs => match ρ[i]? with
    | some (some (.obj o)) => match argsOf ρ rs with
      | some l => some (.obj o :: l)
      | none => none
    | _ => none
  | .new _ :: _ => none
def slotsOf : List Rs → List Nat
  | [] => []
  | .slot i :: rs => i :: slotsOf rs
  | _ :: rs => slotsOf rs
def putBack : List Rs → List DV → En → En
  | .slot i :: rs, x :: xs, ρ => putBack rs xs (ρ.set i (some x))
  | _ :: rs, _ :: xs, ρ => putBack rs xs ρ
  | _, _, ρ => ρ
def mCall (B : List Nat) (fm : FM) (ms : MA) : ME := fun ρ => match ms ρ with
  | some (rs, ρ1) => match escB B 0 rs ρ1 with
    | some (rs', ρ2) => match argsOf ρ2 rs' with
      | some args => if (slotsOf rs').Nodup then match fm args with
          | some (r, args') => some (r, putBack rs' args' ρ2)
          | none => none
        else none
      | none => none
    | none => none
  | none => none
section
variable {G : Wd} {F H F1 H1 : Hp} {σ : L2.St} {ρ ρ1 : En}
theorem escB_ok {B : List Nat} : ∀ {vs : List V} {rs rs' : List Rs} {k : Nat} {F : Hp} {ρ ρ' : En}, Sat G F H σ ρ → Paired (RepA G F σ) vs rs → escB B k rs ρ = some (rs', ρ') → ∃ F', Stp G F H σ ρ F' H σ ρ' ∧ Same F F' ∧ Paired (RepA G F' σ) vs rs'
  | _, _, rs', k, F, ρ, ρ', s, .nil, e => by
    cases e
    exact ⟨F, .refl s, Same.refl _, .nil⟩
  | _, _, rs', k, F, ρ, ρ', s, .cons h q, e => by
    unfold escB at e
    split at e
    · split at e
      · next rs2 ρ2 e2 =>
        cases e
        obtain ⟨F2, x2, m2, y2⟩ := escB_ok s q e2
        exact ⟨F2, x2, m2, .cons (h.mono m2) y2⟩
      · cases e
    · split at e
      · next d ρ1 e1 =>
        split at e
        · next rs2 ρ2 e2 =>
          cases e
          obtain ⟨F1, x1, m1, y1⟩ := esc_ok s h e1
          obtain ⟨F2, x2, m2, y2⟩ := escB_ok x1.sat (repAs_mono m1 q) e2
          exact ⟨F2, x1.trans x2, m1.trans m2, .cons (show RepA G F2 σ _ (.dat d) from dp_mono m2 y1) y2⟩
        · cases e
      · cases e
theorem argsOf_at : ∀ {rs : List Rs} {args : List DV}, argsOf ρ rs = some args → ∀ (p : Nat) (x : DV), args[p]? = some x → (∃ d, x = .dat d ∧ rs[p]? = some (.dat d)) ∨ ∃ i o, x = .obj o ∧ rs[p]? = some (.slot i) ∧ ρ[i]? = some (some (.obj o))
  | [], _, e, p, x, q => by cases e; simp at q
  | .dat d :: rs, _, e, p, x, q => by
    simp only [argsOf] at e
    split at e
    · next l e1 =>
      cases e
      cases p with
      | zero => simp at q; exact .inl ⟨d, q.symm, rfl⟩
      | succ p => simpa using argsOf_at e1 p x (by simpa using q)
    · cases e
  | .slot i :: rs, _, e, p, x, q => by
    simp only [argsOf] at e
    split at e
    · next o w =>
      split at e
      · next l e1 =>
        cases e
        cases p with
        | zero => simp at q; exact .inr ⟨i, o, q.symm, rfl, w⟩
        | succ p => simpa using argsOf_at e1 p x (by simpa using q)
      · cases e
    · cases e
  | .new _ :: rs, _, e, p, x, q => by cases e
theorem argsOf_len : ∀ {rs : List Rs} {args : List DV}, argsOf ρ rs = some args → args.length = rs.length
  | [], _, e => by cases e; rfl
  | .dat d :: rs, _, e => by
    simp only [argsOf] at e
    split at e
    · next l e1 => cases e; exact congrArg (· + 1) (argsOf_len e1)
    · cases e
  | .slot i :: rs, _, e => by
    simp only [argsOf] at e
    split at e
    · split at e
      · next l e1 => cases e; exact congrArg (· + 1) (argsOf_len e1)
      · cases e
    · cases e
  | .new _ :: rs, _, e => by cases e
theorem slots_mem {i : Nat} : ∀ {rs : List Rs} {p : Nat}, rs[p]? = some (.slot i) → i ∈ slotsOf rs
  | [], _, e => by simp at e
  | .slot j :: rs, 0, e => by
    simp at e
    subst e
    exact List.mem_cons_self
  | .slot j :: rs, p + 1, e => List.mem_cons_of_mem _ (slots_mem (p := p) (by simpa using e))
  | .dat _ :: rs, 0, e => by simp at e
  | .new _ :: rs, 0, e => by simp at e
  | .dat _ :: rs, p + 1, e => slots_mem (rs := rs) (p := p) (by simpa using e)
  | .new _ :: rs, p + 1, e => slots_mem (rs := rs) (p := p) (by simpa using e)
theorem slots_inj {i : Nat} : ∀ {rs : List Rs} {p q : Nat}, (slotsOf rs).Nodup → rs[p]? = some (.slot i) → rs[q]? = some (.slot i) → p = q
  | [], _, _, _, e, _ => by simp at e
  | .slot j :: rs, 0, 0, _, _, _ => rfl
  | .slot j :: rs, 0, q + 1, n, e, e' => by
    simp at e
    subst e
    exact absurd (slots_mem (p := q) (by simpa using e')) (List.nodup_cons.mp n).1
  | .slot j :: rs, p + 1, 0, n, e, e' => by
    simp at e'
    subst e'
    exact absurd (slots_mem (p := p) (by simpa using e)) (List.nodup_cons.mp n).1
  | .slot j :: rs, p + 1, q + 1, n, e, e' => congrArg (· + 1) (slots_inj (rs := rs) (List.nodup_cons.mp n).2 (by simpa using e) (by simpa using e'))
  | .dat _ :: rs, 0, _, _, e, _ => by simp at e
  | .new _ :: rs, 0, _, _, e, _ => by simp at e
  | .dat _ :: rs, p + 1, 0, _, _, e => by simp at e
  | .new _ :: rs, p + 1, 0, _, _, e => by simp at e
  | .dat _ :: rs, p + 1, q + 1, n, e, e' => congrArg (· + 1) (slots_inj (rs := rs) n (by simpa using e) (by simpa using e'))
  | .new _ :: rs, p + 1, q + 1, n, e, e' => congrArg (· + 1) (slots_inj (rs := rs) n (by simpa using e) (by simpa using e'))
theorem putBack_len : ∀ {rs : List Rs} {xs : List DV} {ρ : En}, (putBack rs xs ρ).length = ρ.length
  | [], _, _ => rfl
  | .slot i :: rs, [], _ => rfl
  | .dat _ :: rs, [], _ => rfl
  | .new _ :: rs, [], _ => rfl
  | .slot i :: rs, x :: xs, ρ => by
    show (putBack rs xs (ρ.set i (some x))).length = _
    rw [putBack_len, List.length_set]
  | .dat _ :: rs, x :: xs, ρ => putBack_len (rs := rs)
  | .new _ :: rs, x :: xs, ρ => putBack_len (rs := rs)
theorem putBack_out {j : Nat} : ∀ {rs : List Rs} {xs : List DV} {ρ : En}, j ∉ slotsOf rs → (putBack rs xs ρ)[j]? = ρ[j]?
  | [], _, _, _ => rfl
  | .slot i :: rs, [], _, _ => rfl
  | .dat _ :: rs, [], _, _ => rfl
  | .new _ :: rs, [], _, _ => rfl
  | .slot i :: rs, x :: xs, ρ, h => by
    show (putBack rs xs (ρ.set i (some x)))[j]? = _
    rw [putBack_out fun z => h (List.mem_cons_of_mem _ z), List.getElem?_set, if_neg (show ¬ i = j from fun z => h (z ▸ List.mem_cons_self))]
  | .dat _ :: rs, x :: xs, ρ, h => putBack_out (rs := rs) h
  | .new _ :: rs, x :: xs, ρ, h => putBack_out (rs := rs) h
theorem putBack_in {i : Nat} : ∀ {rs : List Rs} {xs : List DV} {ρ : En} {p : Nat}, (slotsOf rs).Nodup → rs[p]? = some (.slot i) → rs.length = xs.length → i < ρ.length → ∃ x, xs[p]? = some x ∧ (putBack rs xs ρ)[i]? = some (some x)
  | [], _, _, p, _, e, _, _ => by simp at e
  | r :: rs, [], _, p, _, _, e, _ => by cases e
  | .slot j :: rs, x :: xs, ρ, 0, n, e, l, hi => by
    simp at e
    subst e
    refine ⟨x, rfl, ?_⟩
    show (putBack rs xs (ρ.set j (some x)))[j]? = _
    rw [putBack_out (List.nodup_cons.mp n).1, List.getElem?_set, if_pos rfl, if_pos hi]
  | .slot j :: rs, x :: xs, ρ, p + 1, n, e, l, hi => by
    obtain ⟨y, h1, h2⟩ := putBack_in (rs := rs) (xs := xs) (ρ := ρ.set j (some x)) (p := p) (List.nodup_cons.mp n).2 (by simpa using e) (by simpa using l) (by rw [List.length_set]; exact hi)
    exact ⟨y, by simpa using h1, h2⟩
  | .dat _ :: rs, x :: xs, ρ, 0, n, e, l, hi => by simp at e
  | .new _ :: rs, x :: xs, ρ, 0, n, e, l, hi => by simp at e
  | .dat _ :: rs, x :: xs, ρ, p + 1, n, e, l, hi => by
    obtain ⟨y, h1, h2⟩ := putBack_in (rs := rs) (xs := xs) (ρ := ρ) (p := p) n (by simpa using e) (by simpa using l) hi
    exact ⟨y, by simpa using h1, h2⟩
  | .new _ :: rs, x :: xs, ρ, p + 1, n, e, l, hi => by
    obtain ⟨y, h1, h2⟩ := putBack_in (rs := rs) (xs := xs) (ρ := ρ) (p := p) n (by simpa using e) (by simpa using l) hi
    exact ⟨y, by simpa using h1, h2⟩
theorem slots_pos {i : Nat} : ∀ {rs : List Rs}, i ∈ slotsOf rs → ∃ p : Nat, rs[p]? = some (.slot i)
  | [], h => by cases h
  | .slot j :: rs, h => by
    rcases List.mem_cons.mp h with rfl | h
    · exact ⟨0, rfl⟩
    · obtain ⟨p, e⟩ := slots_pos h
      exact ⟨p + 1, by simpa using e⟩
  | .dat _ :: rs, h => by
    obtain ⟨p, e⟩ := slots_pos (rs := rs) h
    exact ⟨p + 1, by simpa using e⟩
  | .new _ :: rs, h => by
    obtain ⟨p, e⟩ := slots_pos (rs := rs) h
    exact ⟨p + 1, by simpa using e⟩
theorem paired_at {α β : Type} {R : α → β → Prop} : ∀ {xs : List α} {ys : List β} {p : Nat} {y : β}, Paired R xs ys → ys[p]? = some y → ∃ x, xs[p]? = some x ∧ R x y
  | _, _, p, y, .nil, e => by simp at e
  | _, _, 0, y, .cons h _, e => by simp at e; exact ⟨_, rfl, e ▸ h⟩
  | _, _, p + 1, y, .cons _ q, e => by
    obtain ⟨x, h1, h2⟩ := paired_at (p := p) q (by simpa using e)
    exact ⟨x, by simpa using h1, h2⟩
/-- the arguments as the callee sees them -/
theorem call_in {vs : List V} {rs : List Rs} {args : List DV} (s : Sat G F H σ ρ) (h : Paired (RepA G F σ) vs rs) (e : argsOf ρ rs = some args) (nd : (slotsOf rs).Nodup) : Sat G F H (sm vs) (em args) := by
  refine ⟨s.sub, ?_, fun p d q => ?_, fun p o q => ?_, fun p q o u a q1 q2 q3 q4 => ?_⟩
  · show (args.map some).length = (vs.map some).length
    rw [List.length_map, List.length_map, argsOf_len e, Paired.length h]
  · rcases argsOf_at e p _ (em_get.mp q) with ⟨d', z, w⟩ | ⟨i, o, z, _⟩
    · cases z
      obtain ⟨v, h1, h2⟩ := paired_at h w
      exact ⟨v, sm_get.mpr h1, h2⟩
    · cases z
  · rcases argsOf_at e p _ (em_get.mp q) with ⟨d', z, w⟩ | ⟨i, o', z, w, w2⟩
    · cases z
    · cases z
      obtain ⟨v, h1, h2⟩ := paired_at h w
      have h2' : σ[i]? = some (some v) := h2
      obtain ⟨a, u, z1, z2, z3, z4⟩ := s.obj i o w2
      rw [h2'] at z1
      cases z1
      exact ⟨a, u, sm_get.mpr h1, z2, z3, z4⟩
  · rcases argsOf_at e p _ (em_get.mp q1) with ⟨d', z, w⟩ | ⟨i, o', z, w, w2⟩
    · cases z
    · rcases argsOf_at e q _ (em_get.mp q2) with ⟨d', z', w'⟩ | ⟨j, o'', z', w', w2'⟩
      · cases z'
      · obtain ⟨v, h1, h2⟩ := paired_at h w
        obtain ⟨v', h1', h2'⟩ := paired_at h w'
        rw [sm_get.mp q3] at h1
        cases h1
        rw [sm_get.mp q4] at h1'
        cases h1'
        have : i = j := s.sep i j o' o'' a w2 w2' h2 h2'
        subst this
        exact slots_inj nd w w'
theorem call_own {vs : List V} {rs : List Rs} {args : List DV} {a : Addr} (h : Paired (RepA G F σ) vs rs) (e : argsOf ρ rs = some args) (w : Own (sm vs) (em args) a) : ∃ (i p : Nat) (o : OB), rs[p]? = some (.slot i) ∧ ρ[i]? = some (some (.obj o)) ∧ σ[i]? = some (some (.ref a)) ∧ vs[p]? = some (.ref a) := by
  obtain ⟨p, o, q1, q2⟩ := w
  rcases argsOf_at e p _ (em_get.mp q1) with ⟨d', z, w⟩ | ⟨i, o', z, w, w2⟩
  · cases z
  · obtain ⟨v, h1, h2⟩ := paired_at h w
    rw [sm_get.mp q2] at h1
    cases h1
    exact ⟨i, p, o', w, w2, h2, sm_get.mp q2⟩
theorem call_out {vs : List V} {rs : List Rs} {args args' : List DV} {r : Rs} {v : V} (s : Sat G F H σ ρ) (h : Paired (RepA G F σ) vs rs) (e : argsOf ρ rs = some args) (nd : (slotsOf rs).Nodup)
    (x : Stp G F H (sm vs) (em args) F1 H1 (sm vs) (em args')) (y : RepR G F1 H1 (sm vs) (em args') H v r) (hr : ∀ i, r ≠ .slot i) : Stp G F H σ ρ F1 H1 σ (putBack rs args' ρ) ∧ RepR G F1 H1 σ (putBack rs args' ρ) H v r := by
  have lenA : args'.length = rs.length := by
    have h1 := x.sat.len
    have h2 := Paired.length h
    simp only [sm, em, List.length_map] at h1
    omega
  -- a slot behind the call: not touched, or the object of an argument
  have split : ∀ {j : Nat} {z : DV}, (putBack rs args' ρ)[j]? = some (some z) → (j ∉ slotsOf rs ∧ ρ[j]? = some (some z)) ∨ ∃ (p : Nat) (o : OB) (a : Addr), rs[p]? = some (.slot j) ∧ args'[p]? = some z ∧ ρ[j]? = some (some (.obj o)) ∧ σ[j]? = some (some (.ref a)) ∧ vs[p]? = some (.ref a) := fun {j z} q => by
    by_cases hj : j ∈ slotsOf rs
    · right
      obtain ⟨p, hp⟩ := slots_pos hj
      have hpl : p < args.length := by
        rw [argsOf_len e]
        exact (List.getElem?_eq_some_iff.mp hp).1
      rcases argsOf_at e p _ (List.getElem?_eq_getElem hpl) with ⟨d, _, w⟩ | ⟨i, o, _, w, w2⟩
      · rw [hp] at w; cases w
      · rw [hp] at w
        cases w
        obtain ⟨a, u, z1, _⟩ := s.obj j o w2
        obtain ⟨v', h1, h2⟩ := paired_at h hp
        have h2' : σ[j]? = some (some v') := h2
        rw [z1] at h2'
        cases h2'
        obtain ⟨y', g1, g2⟩ := putBack_in (ρ := ρ) nd hp lenA.symm (List.getElem?_eq_some_iff.mp w2).1
        rw [q] at g2
        cases g2
        exact ⟨p, o, a, hp, g1, w2, z1, h1⟩
    · rw [putBack_out hj] at q
      exact .inl ⟨hj, q⟩
  have ownIn : ∀ a, Own (sm vs) (em args) a → Own σ ρ a := fun a w => by
    obtain ⟨i, p, o, _, w2, w3, _⟩ := call_own h e w
    exact ⟨i, o, w2, w3⟩
  have apart : ∀ {j : Nat} {o : OB} {a : Addr}, j ∉ slotsOf rs → ρ[j]? = some (some (.obj o)) → σ[j]? = some (some (.ref a)) → ¬ Own (sm vs) (em args) a := fun {j o a} hj q1 q2 w => by
    obtain ⟨i, p, o', w1, w2, w3, _⟩ := call_own h e w
    have : i = j := s.sep i j o' o a w2 q1 w3 q2
    subst this
    exact hj (slots_mem w1)
  have ownOut : ∀ a, Own σ (putBack rs args' ρ) a → Own σ ρ a := fun a ⟨j, o, q1, q2⟩ => by
    rcases split q1 with ⟨_, w⟩ | ⟨p, o', a', _, _, w, _⟩
    · exact ⟨j, o, w, q2⟩
    · exact ⟨j, o', w, q2⟩
  have sat' : Sat G F1 H1 σ (putBack rs args' ρ) := by
    refine ⟨x.sat.sub, by rw [putBack_len]; exact s.len, fun j d q => ?_, fun j o q => ?_, fun j l o u a q1 q2 q3 q4 => ?_⟩
    · rcases split q with ⟨_, w⟩ | ⟨p, o', a', g1, g2, g3, g4, g5⟩
      · obtain ⟨v', z1, z2⟩ := s.dat j d w
        exact ⟨v', z1, dp_mono x.ext z2⟩
      · obtain ⟨v', z1, z2⟩ := x.sat.dat p d (em_get.mpr g2)
        rw [sm_get.mp z1] at g5
        cases g5
        exact ⟨_, g4, z2⟩
    · rcases split q with ⟨hj, w⟩ | ⟨p, o', a', g1, g2, g3, g4, g5⟩
      · obtain ⟨a, u, z1, z2, z3, z4⟩ := s.obj j o w
        have na := apart hj w z1
        refine ⟨a, u, z1, ?_, x.frm a u z3 na, z4.mono x.ext⟩
        cases w1 : F1 a with
        | none => rfl
        | some y1 =>
          rcases x.new a z2 (by rw [w1]; exact nofun) with y2 | y2
          · rw [z3] at y2; cases y2
          · exact absurd y2 na
      · obtain ⟨a, u, z1, z2⟩ := x.sat.obj p o (em_get.mpr g2)
        rw [sm_get.mp z1] at g5
        cases g5
        exact ⟨_, u, g4, z2⟩
    · have back : ∀ {j : Nat} {o : OB}, (putBack rs args' ρ)[j]? = some (some (.obj o)) → ∃ o', ρ[j]? = some (some (.obj o')) := fun q => by
        rcases split q with ⟨_, w⟩ | ⟨p, o', a', _, _, w, _⟩
        · exact ⟨_, w⟩
        · exact ⟨_, w⟩
      obtain ⟨o1, w1⟩ := back q1
      obtain ⟨o2, w2⟩ := back q2
      exact s.sep j l o1 o2 a w1 w2 q3 q4
  refine ⟨⟨sat', x.ext, fun a o q w => x.frm a o q fun z => w (ownIn a z), fun a q q' => (x.new a q q').imp id (ownIn a), fun a q => .inl (ownOut a q), rfl, x.per⟩, ?_⟩
  cases r with
  | dat d => exact y
  | slot i => exact absurd rfl (hr i)
  | new o =>
    obtain ⟨p, u, e', h1, h2, h3, h4, h5⟩ := y
    refine ⟨p, u, e', h1, h2, h3, h4, fun z => ?_⟩
    obtain ⟨o', z1, _⟩ := s.own_some (ownOut p z)
    rw [h4] at z1
    cases z1
end
section
variable {X : Cx} {k n : Nat} {f : Addr} {fd : FuncData} {ps ks : List Str} {x : Str} {p pos : Pos} {e : Expr} {es : List Expr} {ms : MA} {fm : FM} {B : List Nat}
/-- a result is data or new -/
def NoSlot (fm : FM) : Prop := ∀ args i as, fm args ≠ some (.slot i, as)
theorem outR_noslot {B : List Nat} {ρ : En} {r : Rs} {i : Nat} : outR B ρ r ≠ some (.slot i) := fun h => by
  cases r with
  | dat d => cases h
  | new o => cases h
  | slot j =>
    simp only [outR] at h
    split at h
    · cases h
    · split at h <;> cases h
    · cases h
theorem runF_noslot {n N : Nat} {B : List Nat} {m : MS} : NoSlot (runF n N B m) := fun args i as h => by
  have fin : ∀ {r : Rs} {ρ : En}, finF B args r ρ ≠ some (.slot i, as) := fun {r ρ} z => by
    unfold finF at z
    split at z
    · next r' e1 =>
      split at z
      · cases z; exact outR_noslot e1
      · cases z
    · cases z
  unfold runF at h
  split at h
  · split at h
    · exact fin h
    · exact fin h
    · cases h
  · cases h
theorem call_run {t : TA} (l : ∀ (σ : L2.St) (H F : Hp) (ρ : En) (rs : List Rs) (ρ' : En) (Q : List V → Hp → Prop), Sat (wd X) F H σ ρ → ms ρ = some (rs, ρ') → (∀ vs F' H', Stp (wd X) F H σ ρ F' H' σ ρ' → Paired (RepA (wd X) F' σ) vs rs → Q vs H') → t σ H Q)
    (hn : ∀ ρ rs ρ', ms ρ = some (rs, ρ') → rs.length = n) (hf : NoSlot fm) : ∀ (σ : L2.St) (H F : Hp) (ρ : En) (r : Rs) (ρ' : En) (Q : VK), Sat (wd X) F H σ ρ → mCall B fm ms ρ = some (r, ρ') →
      (∀ v F' H', Stp (wd X) F H σ ρ F' H' σ ρ' → RepR (wd X) F' H' σ ρ' H v r → Q v H') → t σ H fun vs H1 => spF (wd X) n fm vs H1 Q fun _ _ _ => False := by
  intro σ H F ρ r ρ' Q s e q
  unfold mCall at e
  split at e
  · next rs ρ1 e1 =>
    split at e
    · next rs' ρ2 e2 =>
      split at e
      · next args e3 =>
        split at e
        · next nd =>
          split at e
          · next r' args' e4 =>
            cases e
            refine l σ H F ρ rs ρ1 _ s e1 fun vs F1 H1 x1 y1 => ?_
            obtain ⟨F2, x2, m2, y2⟩ := escB_ok x1.sat y1 e2
            refine ⟨(Paired.length y1).trans (hn _ _ _ e1), F2, args, r, args', call_in x2.sat y2 e3 nd, e4, fun v F3 H3 x3 y3 => ?_⟩
            obtain ⟨z1, z2⟩ := call_out x2.sat y2 e3 nd x3 y3 fun i w => hf args i args' (by rw [e4, w])
            exact q v F3 H3 ((x1.trans x2).trans z1) (repR_back (x1.trans x2) z2)
          · cases e
        · cases e
      · cases e
    · cases e
  · cases e
theorem de_call (Fn : FnG X.prog X.w X.K X.mg X.base k f fd ps (spF (wd X) n fm)) (hf : NoSlot fm) (hr : Room k X.A) (hgd : X.A.guards = some []) (hg : Gl X x) (hm : X.mg x = some (.ref f)) (hk : PySem.W.keepIn X.K (.ref f) = true) (hb : Binds X.K fd ps []) (ha : DA X (e :: es) ms)
    (hn : ∀ ρ rs ρ', ms ρ = some (rs, ρ') → rs.length = n) (hdb : (x == ("__debug__" : Str)) = false := by decide) (he : starEach (e :: es) X.env = (false, eval e X.env) :: starEach es X.env := by rfl)
    (hpl : (backTo pos (starEach es X.env)).any (·.1) = false := by rfl) : DE X (.Call (.Name x p) (e :: es) [] pos) (mCall B fm ms) := by
  obtain ⟨t, ht, l⟩ := ha.ex
  exact ⟨_, peG_call Fn hr hgd hg hm hk hb passes0 ht hdb he hpl, call_run l hn hf⟩
end
end Mw

set_option Elab.async false
set_option linter.all false
set_option maxRecDepth 100000
set_option autoImplicit false
namespace Mw
open PySem PySem.Spec PyProof.Rows L2

mutual
theorem dq_dp {K : PySem.W.Frag} {F : Hp} : ∀ {v : V} {d : Pd}, Dq K F v d → d.canLay0 = true → Dp K F v d
  | _, _, .non, _ => .non
  | _, _, .bl b, _ => .bl b
  | _, _, .int i, _ => .int i
  | _, _, .str x, _ => .str x
  | _, _, .lst h q, c => .lst (SqL.of h) (dqAll_dp q (by simpa [PyData.canLay0] using c))
  | _, _, .tup h q, c => .tup (SqT.of h) (dqAll_dp q (by simpa [PyData.canLay0] using c))
  | _, _, .scr h, c => by simp [PyData.canLay0] at c
theorem dqAll_dp {K : PySem.W.Frag} {F : Hp} : ∀ {vs : List V} {ds : List Pd}, DqAll K F vs ds → PyData.canLayAll0 ds = true → DpAll K F vs ds
  | _, _, .nil, _ => .nil
  | _, _, .cons h q, c => by
    rw [PyData.canLayAll0, Bool.and_eq_true] at c
    exact .cons (dq_dp h c.1) (dqAll_dp q c.2)
end
section
variable {G : Wd} {X : Cx}
/-- an answer that makes nothing -/
theorem bv_dat {F H : Hp} {v : V} {d : Pd} {Q : VK} (e : Same F H) (h : Dq G.K F v d) (q : ∀ v F' H', Grow F H F' H' → RepN G F' H H' v (.dat d) → Q v H') : Q v H := q v F H (.refl e) h

/-! ### whole numbers -/
def i2 (g : Int → Int → Pd) : Pd → Pd → Option Rs
  | .int i, .int j => some (.dat (g i j))
  | _, _ => none
def i2c (C : Int → Int → Bool) (g : Int → Int → Pd) : Pd → Pd → Option Rs
  | .int i, .int j => if C i j then some (.dat (g i j)) else none
  | _, _ => none
theorem b2_i {g : Int → Int → Pd} {gv : Int → Int → V} (hg : ∀ F i j, Dq G.K F (gv i j) (g i j)) : B2Ok G (rI0 gv) (i2 g) := fun F H v w a b o Q e h1 h2 h3 q => by
  cases a <;> cases b <;> first | (cases h3; done) | skip
  cases h3
  exact ⟨_, _, h1.int, h2.int, bv_dat e (hg F _ _) q⟩
theorem b2_ic {C : Int → Int → Prop} {c : Int → Int → Bool} {g : Int → Int → Pd} {gv : Int → Int → V} (hc : ∀ i j, c i j = true → C i j) (hg : ∀ F i j, Dq G.K F (gv i j) (g i j)) : B2Ok G (rI C gv) (i2c c g) := fun F H v w a b o Q e h1 h2 h3 q => by
  cases a <;> cases b <;> first | (cases h3; done) | skip
  simp only [i2c] at h3
  split at h3
  · next hh =>
    cases h3
    exact ⟨_, _, h1.int, h2.int, hc _ _ hh, bv_dat e (hg F _ _) q⟩
  · cases h3
theorem B2Ok.or {r r' : R2} {f f' : Pd → Pd → Option Rs} (h : B2Ok G r f) (h' : B2Ok G r' f') : B2Ok G (fun x y H Q => r x y H Q ∨ r' x y H Q) (fun a b => match f a b with | some o => some o | none => f' a b) := fun F H v w a b o Q e h1 h2 h3 q => by
  dsimp only at h3
  split at h3
  · next o' e1 =>
    cases h3
    exact .inl (h F H v w a b o Q e h1 h2 e1 q)
  · exact .inr (h' F H v w a b o Q e h1 h2 h3 q)
abbrev fOr (f f' : Pd → Pd → Option Rs) : Pd → Pd → Option Rs := fun a b => match f a b with | some o => some o | none => f' a b
def cDivB (i j : Int) : Bool := decide (j ≠ 0) && decide (j.natAbs < 1073741824)
def cModB (i j : Int) : Bool := decide (j ≠ 0)
def cMulB (i j : Int) : Bool := (decide (-(2 ^ 64) < i) && decide (i < 2 ^ 64)) || (decide (-(2 ^ 64) < j) && decide (j < 2 ^ 64))
def cPowB (i j : Int) : Bool := decide (0 ≤ j) && decide (j ≤ 1000000) && decide (i.natAbs < 2 ^ 64)
/-- + -/
def catS : Pd → Pd → Option Rs
  | .str x, .str y => if x.length + y.length ≤ sizeLine then some (.dat (.str (x ++ y))) else none
  | _, _ => none
def catL : Pd → Pd → Option Rs
  | .list xs, .list ys => if xs.length + ys.length ≤ sizeLine then some (.new (.lst (xs ++ ys))) else none
  | _, _ => none
def catT : Pd → Pd → Option Rs
  | .tuple xs, .tuple ys => if xs.length + ys.length ≤ sizeLine then some (.dat (.tuple (xs ++ ys))) else none
  | _, _ => none
theorem b2_catS : B2Ok G (fun x y H Q => ∃ i j, x = .str i ∧ y = .str j ∧ i.length + j.length ≤ sizeLine ∧ Q (.str (i ++ j)) H) catS := fun F H v w a b o Q e h1 h2 h3 q => by
  cases a <;> cases b <;> first | (cases h3; done) | skip
  simp only [catS] at h3
  split at h3
  · next hh =>
    cases h3
    exact ⟨_, _, h1.str, h2.str, hh, bv_dat e (.str _) q⟩
  · cases h3
theorem b2_catL : B2Ok G rCat catL := fun F H v w a b o Q e h1 h2 h3 q => by
  cases a <;> cases b <;> first | (cases h3; done) | skip
  simp only [catL] at h3
  split at h3
  · next hh =>
    cases h3
    obtain ⟨l, xs, rfl, g1, g2⟩ := h1.list e
    obtain ⟨l', ys, rfl, g3, g4⟩ := h2.list e
    refine ⟨l, l', xs, ys, rfl, rfl, g1, g3, by rw [dpAll_len g2, dpAll_len g4]; exact hh, fun p hp => ?_⟩
    exact q _ F _ (.one e hp) ⟨p, _, rfl, hp, same_free e hp, upd_same, _, rfl, dpAll_app g2 g4⟩
  · cases h3
theorem b2_catT : B2Ok G (rCatA G.K) catT := fun F H v w a b o Q e h1 h2 h3 q => by
  cases a <;> cases b <;> first | (cases h3; done) | skip
  simp only [catT] at h3
  split at h3
  · next hh =>
    cases h3
    have d1 := h1
    have d2 := h2
    obtain ⟨l, xs, rfl, g1, g2⟩ := h1.tuple e
    obtain ⟨l', ys, rfl, g3, g4⟩ := h2.tuple e
    have dq1 : Dq G.K F (.ref l) (.tuple _) := d1.elim id fun ⟨_, _, _, _, _, _, z⟩ => by cases z
    have dq2 : Dq G.K F (.ref l') (.tuple _) := d2.elim id fun ⟨_, _, _, _, _, _, z⟩ => by cases z
    refine ⟨l, l', xs, ys, rfl, rfl, SqT.of g1, SqT.of g3, by rw [dpAll_len g2, dpAll_len g4]; exact hh, fun z => ?_, fun _ z => ?_, fun _ _ p hp => ?_⟩
    · subst z
      cases g2
      exact bv_dat e dq2 q
    · subst z
      cases g4
      rw [List.append_nil] at q
      exact bv_dat e dq1 q
    · exact q _ _ _ (.both e hp) (Dq.tup upd_same (dpAll_mono (same_upd (same_free e hp)) (dpAll_app g2 g4)))
  · cases h3
def addD : Pd → Pd → Option Rs := fOr (i2 fun i j => .int (i + j)) (fOr catS (fOr catL catT))
theorem op_addD : OpR X (binaryOp .Add) (fun x y H Q => (rI0 fun i j => .int (i + j)) x y H Q ∨ (∃ i j, x = .str i ∧ y = .str j ∧ i.length + j.length ≤ sizeLine ∧ Q (.str (i ++ j)) H) ∨ rCat x y H Q ∨ rCatA X.K x y H Q) :=
  OpR.or op_add (OpR.or op_add_str (OpR.or op_cat op_catA))
theorem b2_add : B2Ok (wd X) (fun x y H Q => (rI0 fun i j => .int (i + j)) x y H Q ∨ (∃ i j, x = .str i ∧ y = .str j ∧ i.length + j.length ≤ sizeLine ∧ Q (.str (i ++ j)) H) ∨ rCat x y H Q ∨ rCatA X.K x y H Q) addD :=
  B2Ok.or (b2_i fun _ _ _ => .int _) (B2Ok.or b2_catS (B2Ok.or b2_catL (b2_catT (G := wd X))))
def subD : Pd → Pd → Option Rs := i2 fun i j => .int (i - j)
theorem b2_sub : B2Ok G (rI0 fun i j => .int (i - j)) subD := b2_i fun _ _ _ => .int _
/-- * -/
def repL : Pd → Pd → Option Rs
  | .list xs, .int k => if -(2 ^ 63) ≤ k ∧ k < 2 ^ 63 ∧ xs.length * k.toNat ≤ sizeLine then some (.new (.lst (List.replicate k.toNat xs).flatten)) else none
  | _, _ => none
theorem dpAll_rep {K : PySem.W.Frag} {F : Hp} {xs : List V} {ds : List Pd} (h : DqAll K F xs ds) : ∀ n : Nat, DqAll K F (List.replicate n xs).flatten (List.replicate n ds).flatten
  | 0 => .nil
  | n + 1 => by
    rw [List.replicate_succ, List.replicate_succ, List.flatten_cons, List.flatten_cons]
    exact dpAll_app h (dpAll_rep h n)
theorem b2_rep : B2Ok G rRep repL := fun F H v w a b o Q e h1 h2 h3 q => by
  cases a <;> cases b <;> first | (cases h3; done) | skip
  simp only [repL] at h3
  split at h3
  · next hh =>
    cases h3
    obtain ⟨l, xs, rfl, g1, g2⟩ := h1.list e
    refine ⟨l, _, xs, rfl, h2.int, g1, hh.1, hh.2.1, by rw [dpAll_len g2]; exact hh.2.2, fun p hp => ?_⟩
    exact q _ F _ (.one e hp) ⟨p, _, rfl, hp, same_free e hp, upd_same, _, rfl, dpAll_rep g2 _⟩
  · cases h3
def mulD : Pd → Pd → Option Rs := fOr (i2c cMulB fun i j => .int (i * j)) repL
theorem op_mulD : OpR X (binaryOp .Mult) (fun x y H Q => rI CMul (fun i j => .int (i * j)) x y H Q ∨ rRep x y H Q) := OpR.or op_mul op_rep
theorem b2_mul : B2Ok G (fun x y H Q => rI CMul (fun i j => .int (i * j)) x y H Q ∨ rRep x y H Q) mulD :=
  B2Ok.or (b2_ic (fun i j h => by simp only [cMulB, Bool.or_eq_true, Bool.and_eq_true, decide_eq_true_eq] at h; exact h) fun _ _ _ => .int _) b2_rep
def fdivD : Pd → Pd → Option Rs := i2c cDivB fun i j => .int (i.fdiv j)
theorem b2_fdiv : B2Ok G (rI CDivN fun i j => .int (i.fdiv j)) fdivD := b2_ic (fun i j h => by simp only [cDivB, Bool.and_eq_true, decide_eq_true_eq] at h; exact h) fun _ _ _ => .int _
def modD : Pd → Pd → Option Rs := i2c cModB fun i j => .int (i.fmod j)
theorem b2_mod : B2Ok G (rI (fun _ j => j ≠ 0) fun i j => .int (i.fmod j)) modD := b2_ic (fun i j h => by simp only [cModB, decide_eq_true_eq] at h; exact h) fun _ _ _ => .int _
def powD : Pd → Pd → Option Rs := i2c cPowB fun i j => .int (i ^ j.toNat)
theorem b2_pow : B2Ok G (rI CPow fun i j => .int (i ^ j.toNat)) powD := b2_ic (fun i j h => by simp only [cPowB, Bool.and_eq_true, decide_eq_true_eq] at h; exact ⟨h.1.1, h.1.2, h.2⟩) fun _ _ _ => .int _
def negD : Pd → Option Rs
  | .int i => some (.dat (.int (-i)))
  | _ => none
theorem b1_neg : B1Ok G (rU fun i => .int (-i)) negD := fun F H v a o Q e h1 h2 q => by
  cases a <;> first | (cases h2; done) | skip
  cases h2
  exact ⟨_, h1.int, bv_dat e (.int _) q⟩

/-! ### comparisons -/
def eqD : Pd → Pd → Option Rs := fun a b => if SeqAt.shaped a && SeqAt.shaped b then some (.dat (.bool (PyData.eqv a b))) else none
def neD : Pd → Pd → Option Rs := fun a b => if SeqAt.shaped a && SeqAt.shaped b then some (.dat (.bool (!PyData.eqv a b))) else none
theorem lay_of_shaped {d : Pd} (h : SeqAt.shaped d = true) : d.canLay0 = true := by
  unfold SeqAt.shaped at h
  rw [Bool.and_eq_true] at h
  exact h.1
theorem b2_eq : B2Ok G (rEqD G.K) eqD := fun F H v w a b o Q e h1 h2 h3 q => by
  unfold eqD at h3
  split at h3
  · next hh =>
    rw [Bool.and_eq_true] at hh
    cases h3
    exact ⟨a, b, dq_dp (h1.dp e) (lay_of_shaped hh.1), dq_dp (h2.dp e) (lay_of_shaped hh.2), hh.1, hh.2, bv_dat e (.bl _) q⟩
  · cases h3
theorem b2_ne : B2Ok G (rNeD G.K) neD := fun F H v w a b o Q e h1 h2 h3 q => by
  unfold neD at h3
  split at h3
  · next hh =>
    rw [Bool.and_eq_true] at hh
    cases h3
    exact ⟨a, b, dq_dp (h1.dp e) (lay_of_shaped hh.1), dq_dp (h2.dp e) (lay_of_shaped hh.2), hh.1, hh.2, bv_dat e (.bl _) q⟩
  · cases h3
/-- texts, and data alike, by < -/
def ltS (g : List Nat → List Nat → Bool) : Pd → Pd → Option Rs
  | .str x, .str y => some (.dat (.bool (g x.cps.toList y.cps.toList)))
  | _, _ => none
theorem b2_strs {g : List Nat → List Nat → Bool} : B2Ok G (fun x y H Q => ∃ i j, x = .str i ∧ y = .str j ∧ Q (.bl (g i.cps.toList j.cps.toList)) H) (ltS g) := fun F H v w a b o Q e h1 h2 h3 q => by
  cases a <;> cases b <;> first | (cases h3; done) | skip
  cases h3
  exact ⟨_, _, h1.str, h2.str, bv_dat e (.bl _) q⟩
def rLtA (K : PySem.W.Frag) : R2 := fun x y H Q => ∃ d e, Dp K H x d ∧ Dp K H y e ∧ PySem.W.alike d e = true ∧ d ≠ .none ∧ d.depth ≤ 64 ∧ Q (.bl (PySem.W.dataLt d e)) H
theorem op_ltA (hu : X.A.units + 64 < cLine) : OpR X (compareOp .Lt) (rLtA X.K) := by
  intro pins s σ H x y v u Q I rx ry h
  obtain ⟨d, e, hd, he, ha, hn, hz, q⟩ := h
  obtain ⟨as, r1⟩ := Dp.reads I d x v hd rx
  obtain ⟨bs, r2⟩ := Dp.reads I e y u he ry
  exact PySem.W.rcLt_alike d e X.A s v u as bs r1 r2 ha hn (by omega) X.prog X.w X.xe _ ⟨.bl _, H, I, rfl, q⟩
def ltA : Pd → Pd → Option Rs := fun a b => if PySem.W.alike a b && a.canLay0 && b.canLay0 && decide (a.depth ≤ 64) then (match a with
  | .none => none
  | a => some (.dat (.bool (PySem.W.dataLt a b)))) else none
theorem b2_ltA : B2Ok G (rLtA G.K) ltA := fun F H v w a b o Q e h1 h2 h3 q => by
  unfold ltA at h3
  split at h3
  · next hh =>
    simp only [Bool.and_eq_true, decide_eq_true_eq] at hh
    obtain ⟨⟨⟨c1, c2⟩, c3⟩, c4⟩ := hh
    split at h3
    · cases h3
    · next hn =>
      cases h3
      exact ⟨a, b, dq_dp (h1.dp e) c2, dq_dp (h2.dp e) c3, c1, fun z => hn z, c4, bv_dat e (.bl _) q⟩
  · cases h3
def ltD : Pd → Pd → Option Rs := fOr (i2 fun i j => .bool (decide (i < j))) (fOr (ltS fun x y => decide (x < y)) ltA)
def gtD : Pd → Pd → Option Rs := i2 fun i j => .bool (decide (j < i))
def leD : Pd → Pd → Option Rs := fOr (i2 fun i j => .bool (decide (i ≤ j))) (ltS fun x y => !decide (y < x))
def geD : Pd → Pd → Option Rs := i2 fun i j => .bool (decide (j ≤ i))
def rLt4 (K : PySem.W.Frag) : R2 := fun x y H Q => (rI0 fun i j => .bl (decide (i < j))) x y H Q ∨ (∃ i j, x = .str i ∧ y = .str j ∧ Q (.bl (decide (i.cps.toList < j.cps.toList))) H) ∨ rLtA K x y H Q
theorem op_ltD (hu : X.A.units + 64 < cLine) : OpR X (compareOp .Lt) (rLt4 X.K) := OpR.or op_lt (OpR.or op_lt_str (op_ltA hu))
theorem b2_lt : B2Ok G (rLt4 G.K) ltD := B2Ok.or (b2_i fun _ _ _ => .bl _) (B2Ok.or (b2_strs (g := fun x y => decide (x < y))) b2_ltA)
theorem b2_gt : B2Ok G (rI0 fun i j => .bl (decide (j < i))) gtD := b2_i fun _ _ _ => .bl _
theorem b2_ge : B2Ok G (rI0 fun i j => .bl (decide (j ≤ i))) geD := b2_i fun _ _ _ => .bl _
def rLe3 : R2 := fun x y H Q => (rI0 fun i j => .bl (decide (i ≤ j))) x y H Q ∨ ∃ i j, x = .str i ∧ y = .str j ∧ Q (.bl (!decide (j.cps.toList < i.cps.toList))) H
theorem op_leD : OpR X (compareOp .LtE) rLe3 := OpR.or op_le op_le_str
theorem b2_le : B2Ok G rLe3 leD := B2Ok.or (b2_i fun _ _ _ => .bl _) (b2_strs (g := fun x y => !decide (y < x)))
/-- is -/
def isD : Pd → Pd → Option Rs
  | .bool a, .bool b => some (.dat (.bool (decide (a = b))))
  | a, .none => some (.dat (.bool (match a with | .none => true | _ => false)))
  | _, _ => none
def isnD : Pd → Pd → Option Rs
  | .bool a, .bool b => some (.dat (.bool (!decide (a = b))))
  | a, .none => some (.dat (.bool (!(match a with | .none => true | _ => false))))
  | _, _ => none
end
end Mw

set_option Elab.async false
set_option linter.all false
set_option maxRecDepth 100000
set_option autoImplicit false
namespace Mw
open PySem PySem.Spec PyProof.Rows L2
section
variable {G : Wd} {X : Cx} {a b c e : Expr} {es : List Expr} {ma mb mc m : ME} {ms : MA} {pos p p2 : Pos}

/-! ### is -/
def rIs : R2 := fun x y H Q => rIsB x y H Q ∨ (y = .non ∧ Q (.bl (decide (x = .non))) H)
def rIsn : R2 := fun x y H Q => rNotB x y H Q ∨ (y = .non ∧ Q (.bl (!decide (x = .non))) H)
theorem op_isD : OpR X (compareOp .Is) rIs := OpR.or op_isBl op_isN
theorem op_isnD : OpR X (compareOp .IsNot) rIsn := OpR.or op_notBl op_notN
theorem vw_isnone {F H : Hp} {v : V} {d : Pd} (h : Vw G F H v d) : decide (v = .non) = (match d with | .none => true | _ => false) := by
  rcases h with h | ⟨x, xs, ds, rfl, _, _, rfl⟩
  · cases h <;> rfl
  · rfl
theorem b2_is : B2Ok G rIs isD := fun F H v w a b o Q e h1 h2 h3 q => by
  cases b <;> first | (cases a <;> cases h3 <;> done) | skip
  · have e1 := vw_isnone h1
    refine .inr ⟨h2.none, ?_⟩
    rw [e1]
    cases a <;> cases h3 <;> exact bv_dat e (.bl _) q
  · cases a <;> first | (cases h3; done) | skip
    cases h3
    exact .inl ⟨_, _, h1.bool, h2.bool, bv_dat e (.bl _) q⟩
theorem b2_isn : B2Ok G rIsn isnD := fun F H v w a b o Q e h1 h2 h3 q => by
  cases b <;> first | (cases a <;> cases h3 <;> done) | skip
  · have e1 := vw_isnone h1
    refine .inr ⟨h2.none, ?_⟩
    rw [e1]
    cases a <;> cases h3 <;> exact bv_dat e (.bl _) q
  · cases a <;> first | (cases h3; done) | skip
    cases h3
    exact .inl ⟨_, _, h1.bool, h2.bool, bv_dat e (.bl _) q⟩

/-! ### chains a < b < c -/
def mChain (f g : Pd → Pd → Option Rs) (ma mb mc : ME) : ME := fun ρ => match mCons ma (mCons mb mNil) ρ with
  | some ([r1, r2], ρ1) => match looks ρ1 [r1, r2] with
    | some [d1, d2] => match f d1 d2 with
      | some (.dat (.bool false)) => some (.dat (.bool false), ρ1)
      | some (.dat (.bool true)) => match mc ρ1 with
        | some (r3, ρ2) => match frz1 r3 with
          | some r3' => match looks ρ2 [r2, r3'] with
            | some [d2', d3] => match g d2' d3 with
              | some r => some (r, ρ2)
              | none => none
            | _ => none
          | none => none
        | none => none
      | _ => none
    | _ => none
  | _ => none
theorem chain_run {f g : Pd → Pd → Option Rs} {r r' : R2} (hf : B2Ok (wd X) r f) (hg : B2Ok (wd X) r' g) (ha : DE X a ma) (hb : DE X b mb) (hc : DE X c mc) : ∃ ta tb tc : TE, PE X a ta ∧ PE X b tb ∧ PE X c tc ∧
    ∀ (σ : L2.St) (H F : Hp) (ρ : En) (o : Rs) (ρ' : En) (Q : VK), Sat (wd X) F H σ ρ → mChain f g ma mb mc ρ = some (o, ρ') → (∀ v F' H', Stp (wd X) F H σ ρ F' H' σ ρ' → RepR (wd X) F' H' σ ρ' H v o → Q v H') → tChain r r' ta tb tc σ H Q := by
  obtain ⟨ta, ha, k⟩ := ha.ex
  obtain ⟨tb, hb, l⟩ := hb.ex
  obtain ⟨tc, hc, n⟩ := hc.ex
  refine ⟨ta, tb, tc, ha, hb, hc, fun σ H F ρ o ρ' Q s e q => ?_⟩
  unfold mChain at e
  split at e
  · next r1 r2 ρ1 e1 =>
    obtain ⟨s1, ρ0, s1', rs1, g1, g2, g3, g4⟩ := mCons_some e1
    obtain ⟨s2, ρ00, s2', rs2, g5, g6, g7, g8⟩ := mCons_some g3
    cases g7
    rw [g8] at g4
    cases g4
    split at e
    · next d1 d2 e2 =>
      refine k σ H F ρ s1 ρ0 _ s g1 fun v F1 H1 x1 y1 => ?_
      obtain ⟨F2, x2, m2, y2⟩ := frz1_ok x1 y1 g2
      refine l σ H1 F2 ρ0 s2 _ _ x2.sat g5 fun w F3 H3 x3 y3 => ?_
      obtain ⟨F4, x4, m4, y4⟩ := frz1_ok x3 y3 g6
      have x5 := x2.trans x4
      have vv := vws_of x4.sat (.cons (y2.mono x4.ext) (.cons y4 .nil)) e2
      cases vv with
      | cons v1 vv => cases vv with
        | cons v2 vv =>
          split at e
          · next e3 =>
            cases e
            refine hf F4 H3 v w d1 d2 _ _ x4.sat.sub v1 v2 e3 fun z F5 H5 gr rn => ?_
            obtain ⟨x6, _⟩ := rep_of_n x4.sat gr rn
            have rn' : Dq X.K F5 z (.bool false) := rn
            cases rn'
            refine ⟨false, rfl, ?_⟩
            rw [if_neg Bool.false_ne_true]
            exact q _ F5 H5 (x5.trans x6) (Dq.bl _)
          · next e3 =>
            split at e
            · next r3 ρ2 e4 =>
              split at e
              · next r3' e5 =>
                split at e
                · next d2' d3 e6 =>
                  split at e
                  · next r4 e7 =>
                    cases e
                    refine hf F4 H3 v w d1 d2 _ _ x4.sat.sub v1 v2 e3 fun z F5 H5 gr rn => ?_
                    obtain ⟨x6, _⟩ := rep_of_n x4.sat gr rn
                    have rn' : Dq X.K F5 z (.bool true) := rn
                    cases rn'
                    refine ⟨true, rfl, ?_⟩
                    rw [if_pos rfl]
                    have x7 := x5.trans x6
                    refine n σ H5 F5 _ r3 _ _ x6.sat e4 fun u F7 H7 x8 y8 => ?_
                    obtain ⟨F8, x9, m9, y9⟩ := frz1_ok x8 y8 e5
                    obtain ⟨_, _, e0, zz⟩ := pure_run hg.l (x7.trans x9) (.cons ((y4.mono x6.ext).mono x9.ext) (.cons y9 .nil)) e6 (show f2 g [d2', d3] = some _ from e7) q
                    cases e0
                    exact zz
                  · cases e
                · cases e
              · cases e
            · cases e
          · cases e
    · cases e
  · cases e
theorem de_chain {op op' : CmpOp} {f g : Pd → Pd → Option Rs} {r r' : R2} (ho : OpR X (compareOp op) r) (ho' : OpR X (compareOp op') r') (hf : B2Ok (wd X) r f) (hg : B2Ok (wd X) r' g) (ha : DE X a ma) (hb : DE X b mb) (hc : DE X c mc)
    (hm : lastMarks [op, op'] [b, c] = false := by with_unfolding_all rfl) : DE X (.Compare a [op, op'] [b, c] pos) (mChain f g ma mb mc) := by
  obtain ⟨ta, tb, tc, h1, h2, h3, k⟩ := chain_run hf hg ha hb hc
  exact ⟨_, pe_chain ho ho' h1 h2 h3 hm, k⟩
theorem dt_chain {op op' : CmpOp} {f g : Pd → Pd → Option Rs} {r r' : R2} (ho : OpR X (compareOp op) r) (ho' : OpR X (compareOp op') r') (hf : B2Ok (wd X) r f) (hg : B2Ok (wd X) r' g) (ha : DE X a ma) (hb : DE X b mb) (hc : DE X c mc)
    (hm : lastMarks [op, op'] [b, c] = false := by with_unfolding_all rfl) : DT X (.Compare a [op, op'] [b, c] pos) (mB (mChain f g ma mb mc)) := by
  obtain ⟨ta, tb, tc, h1, h2, h3, k⟩ := chain_run hf hg ha hb hc
  refine ⟨_, pt_chain ho ho' h1 h2 h3 hm, fun σ H F ρ z ρ' Q s e q => ?_⟩
  refine k σ H F ρ _ ρ' _ s (mB_some e) fun v F' H' x y => ?_
  have y' : Dq X.K F' v (.bool z) := y
  cases y'
  exact ⟨z, rfl, q F' H' x⟩

/-! ### isinstance -/
def tyD : Pd → Option String
  | .none => some "NoneType"
  | .bool _ => some "bool"
  | .int _ => some "int"
  | .str _ => some "str"
  | .list _ => some "list"
  | .tuple _ => some "tuple"
  | .dict _ => none
theorem ty_of {F H : Hp} {v : V} {d : Pd} {T : String} (e : Same F H) (h : Vw G F H v d) (q : tyD d = some T) : TyX G.K H v (.type T) := by
  cases d with
  | none => cases q; rw [h.none]; exact .base (.non)
  | bool b => cases q; rw [h.bool]; exact .base (.bl b)
  | int i => cases q; rw [h.int]; exact .base (.int i)
  | str x => cases q; rw [h.str]; exact .base (.str x)
  | list ds =>
    cases q
    obtain ⟨a, xs, rfl, h1, _⟩ := h.list e
    exact .base (.lst h1)
  | tuple ds =>
    cases q
    obtain ⟨a, xs, rfl, h1, _⟩ := h.tuple e
    exact .base (.tup h1)
  | dict _ => cases q
def isTy (t T : String) : Bool := (t == T) || (t == "bool" && T == "int")
def tyNames : List String := ["NoneType", "bool", "int", "str", "list", "tuple"]
theorem tyD_in {d : Pd} {T : String} (h : tyD d = some T) : T ∈ tyNames := by
  cases d <;> cases h <;> decide
/-- isinstance asks of T what isTy says -/
def TyOk (T : String) : Prop := ∀ t ∈ tyNames, kitB t T = some (isTy t T)
theorem tyOk_int : TyOk "int" := by unfold TyOk; decide +kernel
theorem tyOk_bool : TyOk "bool" := by unfold TyOk; decide +kernel
theorem tyOk_str : TyOk "str" := by unfold TyOk; decide +kernel
theorem tyOk_list : TyOk "list" := by unfold TyOk; decide +kernel
theorem tyOk_tuple : TyOk "tuple" := by unfold TyOk; decide +kernel
def isiD (Ts : List String) : Pd → Option Rs := fun d => match tyD d with
  | some t => some (.dat (.bool (Ts.any (isTy t))))
  | none => none
/-- a built-in class by its name -/
def PTy (X : Cx) (e : Expr) (T : String) : Prop := PE X e (tC (.ty T))
theorem pty {x : Str} {T : String} (hg : Gl X x) (hm : X.mg x = none) (hv : bootBuiltins x = some (.type T)) (hn : x ≠ "__name__" := by decide) (hd : (x == ("__debug__" : Str)) = false := by decide) : PTy X (.Name x pos) T := pe_bltn hg hm hv rfl hn hd
theorem de_isi {tyE : Expr} {T : String} (hg : Gl X "isinstance") (hm : X.mg "isinstance" = none) (hT : TyOk T) (ha : DE X a ma) (ht : PTy X tyE T) (hs1 : starEach [a, tyE] X.env = (false, eval a X.env) :: starEach [tyE] X.env := by rfl) (hs2 : starEach [tyE] X.env = (false, eval tyE X.env) :: starEach [] X.env := by rfl)
    (hp : ∀ t, PA X [a, tyE] t → PE X (.Call (.Name "isinstance" p) [a, tyE] [] pos) (tCB (rIsi X.K) t) := by intro t ht; exact pe_callB call_isi (by first | assumption | rfl) (by first | assumption | rfl) boot_isinstance ht) :
    DE X (.Call (.Name "isinstance" p) [a, tyE] [] pos) (mOp1 (isiD [T]) ma) := by
  obtain ⟨ta, h1, k⟩ := ha.ex
  refine ⟨_, hp _ (pa_cons h1 (pa_cons ht pa_nil hs2) hs1), fun σ H F ρ o ρ' Q s e q => ?_⟩
  obtain ⟨rs, ds, e1, e2, e3⟩ := mPure_some e
  obtain ⟨r1, ρ1, r1', rs1, g1, g2, g3, rfl⟩ := mCons_some e1
  cases g3
  refine k σ H F ρ r1 _ _ s g1 fun v F1 H1 x1 y1 => ?_
  obtain ⟨F2, x2, em, y2⟩ := frz1_ok x1 y1 g2
  have vv := vws_of x2.sat (.cons y2 .nil) e2
  cases vv with
  | cons v1 v2 =>
    cases v2
    simp only [f1, isiD] at e3
    split at e3
    · next t' e4 =>
      cases e3
      refine ⟨v, .ty T, .type t', .type T, isTy t' T, rfl, .ty T, ty_of x2.sat.sub v1 e4, kit_ty (hT t' (tyD_in e4)), ?_⟩
      have z := q (.bl (isTy t' T)) F2 H1 x2 (by show Dq X.K F2 _ _; simp only [List.any_cons, List.any_nil, Bool.or_false]; exact .bl _)
      exact z
    · cases e3
theorem de_isi2 {tyE tyE2 : Expr} {T T2 : String} {kt} {pt : Pos} (hg : Gl X "isinstance") (hm : X.mg "isinstance" = none) (hT : TyOk T) (hT2 : TyOk T2) (ha : DE X a ma) (ht : PTy X tyE T) (ht2 : PTy X tyE2 T2)
    (hs1 : starEach [a, .Tuple [tyE, tyE2] kt pt] X.env = (false, eval a X.env) :: starEach [.Tuple [tyE, tyE2] kt pt] X.env := by rfl) (hs2 : starEach [.Tuple [tyE, tyE2] kt pt] X.env = (false, eval (.Tuple [tyE, tyE2] kt pt) X.env) :: starEach [] X.env := by rfl)
    (hs3 : starEach [tyE, tyE2] X.env = (false, eval tyE X.env) :: starEach [tyE2] X.env := by rfl) (hs4 : starEach [tyE2] X.env = (false, eval tyE2 X.env) :: starEach [] X.env := by rfl)
    (hp : ∀ t, PA X [a, .Tuple [tyE, tyE2] kt pt] t → PE X (.Call (.Name "isinstance" p) [a, .Tuple [tyE, tyE2] kt pt] [] pos) (tCB (rIsiT X.K) t) := by intro t ht; exact pe_callB call_isiT (by first | assumption | rfl) (by first | assumption | rfl) boot_isinstance ht) :
    DE X (.Call (.Name "isinstance" p) [a, .Tuple [tyE, tyE2] kt pt] [] pos) (mOp1 (isiD [T, T2]) ma) := by
  obtain ⟨ta, h1, k⟩ := ha.ex
  refine ⟨_, hp _ (pa_cons h1 (pa_cons (pe_tup (pa_cons ht (pa_cons ht2 pa_nil hs4) hs3)) pa_nil hs2) hs1), fun σ H F ρ o ρ' Q s e q => ?_⟩
  obtain ⟨rs, ds, e1, e2, e3⟩ := mPure_some e
  obtain ⟨r1, ρ1, r1', rs1, g1, g2, g3, rfl⟩ := mCons_some e1
  cases g3
  refine k σ H F ρ r1 _ _ s g1 fun v F1 H1 x1 y1 => ?_
  obtain ⟨F2, x2, em, y2⟩ := frz1_ok x1 y1 g2
  have vv := vws_of x2.sat (.cons y2 .nil) e2
  cases vv with
  | cons v1 v2 =>
    cases v2
    simp only [f1, isiD] at e3
    split at e3
    · next t' e4 =>
      cases e3
      refine ⟨by show 2 ≤ sizeLine; decide, fun tp np => ?_⟩
      have gr := Grow.one (o := HO.tup [.ty T, .ty T2]) x2.sat.sub np
      have x3 := stp_grow x2.sat gr.e1 gr.e2 gr.e3 gr.nw
      have v1' : Vw (wd X) F2 (upd H1 tp (.tup [.ty T, .ty T2])) v _ := v1.imp id fun ⟨a, xs, ds, z1, z2, z3⟩ => ⟨a, xs, ds, z1, gr.e2 _ _ z2, z3⟩
      have hk : PySem.W.kitAny X.K (.type t') [.type T, .type T2] = some (isTy t' T || isTy t' T2) := by
        refine kitAny_cons (kit_ty (hT t' (tyD_in e4))) (fun z => ?_) fun z => by rw [z]; rfl
        rw [z, Bool.false_or]
        refine kitAny_cons (kit_ty (hT2 t' (tyD_in e4))) (fun z2 => ?_) fun z2 => z2
        rw [z2]
        exact kitAny_nil
      refine ⟨v, tp, [.ty T, .ty T2], .type t', [.type T, .type T2], _, rfl, upd_same, .cons (.ty T) (.cons (.ty T2) .nil), ty_of x3.sat.sub v1' e4, hk, ?_⟩
      exact q (.bl (isTy t' T || isTy t' T2)) F2 _ (x2.trans x3) (by show Dq X.K F2 _ _; simp only [List.any_cons, List.any_nil, Bool.or_false]; exact .bl _)
    · cases e3

/-! ### one-place built-ins -/
theorem B1Ok.call {r : List V → Hp → VK → Prop} {f : Pd → Option Rs} (h : B1Ok G (fun v H Q => r [v] H Q) f) : BvOk G r (f1 f) := fun F H vs ds o Q e p q k => by
  cases p with
  | nil => cases q
  | cons p1 p2 => cases p2 with
    | nil => exact h F H _ _ o Q e p1 q k
    | cons _ _ => cases q
def lenD : Pd → Option Rs
  | .str x => if x.length ≤ sizeLine then some (.dat (.int x.length)) else none
  | .list ds => some (.dat (.int ds.length))
  | .tuple ds => some (.dat (.int ds.length))
  | _ => none
theorem b1_len : B1Ok G (fun v H Q => (fun xs H Q => ∃ x n, xs = [x] ∧ LenV G.K x H n ∧ Q (.int n) H) [v] H Q) lenD := fun F H v a o Q e h1 h2 q => by
  cases a <;> first | (cases h2; done) | skip
  · next x =>
    simp only [lenD] at h2
    split at h2
    · next hl =>
      cases h2
      refine ⟨v, x.length, rfl, ?_, bv_dat e (.int _) q⟩
      rw [h1.str]
      exact ⟨hl, rfl⟩
    · cases h2
  · next ds =>
    cases h2
    obtain ⟨l, xs, rfl, g1, g2⟩ := h1.list e
    exact ⟨_, ds.length, rfl, .inl ⟨xs, SqL.of g1, (dpAll_len g2).symm⟩, bv_dat e (.int _) q⟩
  · next ds =>
    cases h2
    obtain ⟨l, xs, rfl, g1, g2⟩ := h1.tuple e
    exact ⟨_, ds.length, rfl, .inr ⟨xs, SqT.of g1, (dpAll_len g2).symm⟩, bv_dat e (.int _) q⟩
theorem de_len (hg : Gl X "len") (hm : X.mg "len" = none) (ha : DE X a m) (hs : starEach [a] X.env = (false, eval a X.env) :: starEach [] X.env := by rfl)
    (hp : ∀ t, PA X [a] t → PE X (.Call (.Name "len" p) [a] [] pos) (tCB (fun xs H Q => ∃ x n, xs = [x] ∧ LenV X.K x H n ∧ Q (.int n) H) t) := by intro t ht; exact pe_callB call_len (by first | assumption | rfl) (by first | assumption | rfl) PySem.boot_len ht) : DE X (.Call (.Name "len" p) [a] [] pos) (mOp1 lenD m) :=
  de_callB call_len (B1Ok.call (G := wd X) b1_len) hg hm PySem.boot_len (da_cons ha da_nil hs) (hp := hp)
def boolsD : List Pd → Option (List Bool)
  | [] => some []
  | .bool b :: ds => match boolsD ds with
    | some bs => some (b :: bs)
    | none => none
  | _ => none
theorem bools_of {K : PySem.W.Frag} {F : Hp} : ∀ {xs : List V} {ds : List Pd} {bs : List Bool}, DqAll K F xs ds → boolsD ds = some bs → xs = bs.map V.bl
  | _, _, _, .nil, e => by cases e; rfl
  | _, _, _, .cons (d := d) h q, e => by
    cases d <;> first | (cases e; done) | skip
    simp only [boolsD] at e
    split at e
    · next bs' e1 =>
      cases e
      cases h
      rw [bools_of q e1]
      rfl
    · cases e
def allD : Pd → Option Rs
  | .list ds => match boolsD ds with
    | some bs => some (.dat (.bool (bs.all id)))
    | none => none
  | _ => none
def anyD : Pd → Option Rs
  | .list ds => match boolsD ds with
    | some bs => some (.dat (.bool (bs.any id)))
    | none => none
  | _ => none
theorem b1_all : B1Ok G (fun v H Q => rAll G.K [v] H Q) allD := fun F H v a o Q e h1 h2 q => by
  cases a <;> first | (cases h2; done) | skip
  simp only [allD] at h2
  split at h2
  · next bs e1 =>
    cases h2
    obtain ⟨l, xs, rfl, g1, g2⟩ := h1.list e
    exact ⟨l, bs, rfl, by rw [← bools_of g2 e1]; exact SqL.of g1, bv_dat e (.bl _) q⟩
  · cases h2
theorem b1_any : B1Ok G (fun v H Q => rAny G.K [v] H Q) anyD := fun F H v a o Q e h1 h2 q => by
  cases a <;> first | (cases h2; done) | skip
  simp only [anyD] at h2
  split at h2
  · next bs e1 =>
    cases h2
    obtain ⟨l, xs, rfl, g1, g2⟩ := h1.list e
    exact ⟨l, bs, rfl, by rw [← bools_of g2 e1]; exact SqL.of g1, bv_dat e (.bl _) q⟩
  · cases h2
theorem de_all (hc : X.calm = true) (hg : Gl X "all") (hm : X.mg "all" = none) (ha : DE X a m) (hs : starEach [a] X.env = (false, eval a X.env) :: starEach [] X.env := by rfl)
    (hp : ∀ t, PA X [a] t → PE X (.Call (.Name "all" p) [a] [] pos) (tCB (rAll X.K) t) := by intro t ht; exact pe_callB (cr_all (by first | assumption | rfl)) (by first | assumption | rfl) (by first | assumption | rfl) boot_all ht) : DE X (.Call (.Name "all" p) [a] [] pos) (mOp1 allD m) :=
  de_callB (cr_all hc) (B1Ok.call (G := wd X) b1_all) hg hm boot_all (da_cons ha da_nil hs) (hp := hp)
theorem de_any (hc : X.calm = true) (hg : Gl X "any") (hm : X.mg "any" = none) (ha : DE X a m) (hs : starEach [a] X.env = (false, eval a X.env) :: starEach [] X.env := by rfl)
    (hp : ∀ t, PA X [a] t → PE X (.Call (.Name "any" p) [a] [] pos) (tCB (rAny X.K) t) := by intro t ht; exact pe_callB (cr_any (by first | assumption | rfl)) (by first | assumption | rfl) (by first | assumption | rfl) boot_any ht) : DE X (.Call (.Name "any" p) [a] [] pos) (mOp1 anyD m) :=
  de_callB (cr_any hc) (B1Ok.call (G := wd X) b1_any) hg hm boot_any (da_cons ha da_nil hs) (hp := hp)
end
end Mw

set_option Elab.async false
set_option linter.all false
set_option maxRecDepth 100000
set_option autoImplicit false
namespace Mw
open PySem PySem.Spec PyProof.Rows L2

/-! ### min, max of two -/
section
variable {prog : Program} {w : World} {A : Around} {E : Value → Shared → Prop} {s : Shared}
theorem two_walk {v0 v1 : Value} {op : CmpOp} {bt : Nat → Nat → Bool} {Q : Value → Shared → Prop} (hh : A.handled = none) (hc : ∀ i j vi vj (s : Shared) (Q : Value → Shared → Prop) (E : Value → Shared → Prop), #[v0, v1][i]? = some vi → #[v0, v1][j]? = some vj → Q (.bool (bt i j)) s → wpAny (model prog w) A.in1 (richCompare op vi vj) Q E s)
    (h : ∀ h' tk, (∀ c o, s.heap.get? c = some o → h'.get? c = some o) → Q (if bt 1 0 then v1 else v0) { s with heap := h', toks := tk }) :
    wpAny (model prog w) A.in1 (pyIter (.ref s.heap.objs.size)) (fun it s₂ => ∃ I fp wr n P St bt, it = .ref I ∧ Walks prog w A.in1 I fp wr n P St ∧ St 0 s₂.heap ∧ (∀ b ∈ fp, b < s₂.heap.objs.size) ∧ 0 < n ∧ CmpOf prog w A.in1 op P bt ∧
      ∀ v h' tk, P (argBest bt (n - 1)) v → (∀ b o, b ∉ wr → s₂.heap.get? b = some o → h'.get? b = some o) → Q v { s₂ with heap := h', toks := tk }) E
      { s with heap := s.heap.push { cls := .type "tuple", data := .seq #[v0, v1] } } := by
  have tp : (s.heap.push { cls := .type "tuple", data := .seq #[v0, v1] }).IsTuple s.heap.objs.size #[v0, v1] := ⟨_, Heap.get?_push_size _ rfl, rfl, 0, rfl⟩
  have sz : (s.heap.push { cls := .type "tuple", data := .seq #[v0, v1] }).objs.size = s.heap.objs.size + 1 := Heap.size_push ..
  have sz2 : ∀ o : Obj, ((s.heap.push { cls := .type "tuple", data := .seq #[v0, v1] }).push o).objs.size = s.heap.objs.size + 1 + 1 := fun o => by
    rw [Heap.size_push, sz]
  refine wpAny_pyIter_tuple tp ?_
  refine ⟨s.heap.objs.size + 1, [s.heap.objs.size + 1, s.heap.objs.size], [s.heap.objs.size + 1], 2, fun i v => #[v0, v1][i]? = some v, _, bt, by rw [← sz], Walks.tuple (A := A.in1) hh (s.heap.objs.size + 1) s.heap.objs.size (Nat.ne_of_lt (Nat.lt_succ_self _)) #[v0, v1], ?_, ?_, by decide, hc, ?_⟩
  · refine ⟨?_, tp.push _⟩
    rw [← sz]
    exact ⟨_, Heap.get?_push_size _ rfl, rfl, rfl⟩
  · intro c hm
    show c < ((s.heap.push _).push _).objs.size
    rw [sz2]
    have hm' : c = s.heap.objs.size + 1 ∨ c = s.heap.objs.size := by simpa using hm
    rcases hm' with z | z
    · rw [z]; exact Nat.lt_succ_self _
    · rw [z]; exact Nat.lt_succ_of_lt (Nat.lt_succ_self _)
  · intro v h' tk hP hk
    have keep : ∀ c o, s.heap.get? c = some o → h'.get? c = some o := fun c o q => by
      refine hk c o (fun hm => ?_) (Heap.get?_push_of_some _ (Heap.get?_push_of_some _ q))
      have hm' : c = s.heap.objs.size + 1 := by simpa using hm
      have := Heap.lt_size q
      rw [hm'] at this
      exact absurd (Nat.lt_of_succ_lt this) (Nat.lt_irrefl _)
    have z := h h' tk keep
    have hP' : #[v0, v1][argBest bt 1]? = some v := hP
    have e : v = if bt 1 0 then v1 else v0 := by
      cases hb : bt 1 0 with
      | true =>
        have a1 : argBest bt 1 = 1 := by simp [argBest, hb]
        rw [a1] at hP'
        simpa using hP'.symm
      | false =>
        have a1 : argBest bt 1 = 0 := by simp [argBest, hb]
        rw [a1] at hP'
        simpa using hP'.symm
    rw [e]
    exact z
end
section
variable {G : Wd} {X : Cx} {a b e : Expr} {es : List Expr} {ma mb m : ME} {ms : MA} {pos p p2 : Pos}
def strAt (x y : Str) (i : Nat) : Str := if i = 0 then x else y
theorem strs2_at {x y : Str} {t u : Tok} {i : Nat} {v : Value} (h : #[Value.str x t, Value.str y u][i]? = some v) : ∃ k, v = .str (strAt x y i) k := by
  match i, h with
  | 0, h => simp at h; exact ⟨t, h.symm⟩
  | 1, h => simp at h; exact ⟨u, h.symm⟩
  | n + 2, h => simp at h
def rMin2 : List V → Hp → VK → Prop := fun xs H Q => (∃ i j, xs = [.int i, .int j] ∧ Q (.int (if j < i then j else i)) H) ∨ ∃ x y, xs = [.str x, .str y] ∧ Q (.str (if y.cps.toList < x.cps.toList then y else x)) H
def rMax2 : List V → Hp → VK → Prop := fun xs H Q => (∃ i j, xs = [.int i, .int j] ∧ Q (.int (if j > i then j else i)) H) ∨ ∃ x y, xs = [.str x, .str y] ∧ Q (.str (if x.cps.toList < y.cps.toList then y else x)) H
theorem cr_min2 (hc : X.calm = true) : CallR X (.builtin "min") rMin2 := by
  intro pins s σ H xs us Q I r h
  rcases h with h | ⟨x, y, rfl, q⟩
  · exact call_min2 hc pins s σ H xs us Q I r h
  · obtain ⟨u, w', rfl, ⟨t, rfl⟩, ⟨t', rfl⟩⟩ := vals2 r
    refine call_min_two (two_walk (bt := fun i j => decide ((strAt x y i).cps.toList < (strAt x y j).cps.toList)) (I.ok.hd hc) (fun i j vi vj s Q E h1 h2 q => ?_) fun h' tk k => ?_)
    · obtain ⟨_, rfl⟩ := strs2_at h1
      obtain ⟨_, rfl⟩ := strs2_at h2
      exact lt_str q
    · refine ⟨.str _, H, I.kept k, ?_, q⟩
      show ∃ t, (if decide (y.cps.toList < x.cps.toList) = true then Value.str y t' else Value.str x _) = _
      by_cases hb : y.cps.toList < x.cps.toList
      · rw [if_pos (decide_eq_true hb), if_pos hb]; exact ⟨_, rfl⟩
      · rw [if_neg (by simpa using hb), if_neg hb]; exact ⟨_, rfl⟩
theorem cr_max2 (hc : X.calm = true) : CallR X (.builtin "max") rMax2 := by
  intro pins s σ H xs us Q I r h
  rcases h with h | ⟨x, y, rfl, q⟩
  · exact call_max2 hc pins s σ H xs us Q I r h
  · obtain ⟨u, w', rfl, ⟨t, rfl⟩, ⟨t', rfl⟩⟩ := vals2 r
    refine call_max_two (two_walk (bt := fun i j => decide ((strAt x y j).cps.toList < (strAt x y i).cps.toList)) (I.ok.hd hc) (fun i j vi vj s Q E h1 h2 q => ?_) fun h' tk k => ?_)
    · obtain ⟨_, rfl⟩ := strs2_at h1
      obtain ⟨_, rfl⟩ := strs2_at h2
      exact PySem.P.gt_str q
    · refine ⟨.str _, H, I.kept k, ?_, q⟩
      show ∃ t, (if decide (x.cps.toList < y.cps.toList) = true then Value.str y t' else Value.str x _) = _
      by_cases hb : x.cps.toList < y.cps.toList
      · rw [if_pos (decide_eq_true hb), if_pos hb]; exact ⟨_, rfl⟩
      · rw [if_neg (by simpa using hb), if_neg hb]; exact ⟨_, rfl⟩
def minD : Pd → Pd → Option Rs
  | .int i, .int j => some (.dat (.int (if j < i then j else i)))
  | .str x, .str y => some (.dat (.str (if y.cps.toList < x.cps.toList then y else x)))
  | _, _ => none
def maxD : Pd → Pd → Option Rs
  | .int i, .int j => some (.dat (.int (if j > i then j else i)))
  | .str x, .str y => some (.dat (.str (if x.cps.toList < y.cps.toList then y else x)))
  | _, _ => none
theorem B2Ok.call {r : List V → Hp → VK → Prop} {f : Pd → Pd → Option Rs} (h : B2Ok G (fun x y H Q => r [x, y] H Q) f) : BvOk G r (f2 f) := fun F H vs ds o Q e p q k => by
  cases p with
  | nil => cases q
  | cons p1 p2 => cases p2 with
    | nil => cases q
    | cons p2 p3 => cases p3 with
      | nil => exact h F H _ _ _ _ o Q e p1 p2 q k
      | cons _ _ => cases q
theorem bv_min : BvOk G rMin2 (f2 minD) := B2Ok.call fun F H v w a b o Q e p1 p2 h q => by
  cases a <;> cases b <;> first | (cases h; done) | skip
  · cases h
    rw [p1.int, p2.int]
    exact .inl ⟨_, _, rfl, bv_dat e (.int _) q⟩
  · cases h
    rw [p1.str, p2.str]
    exact .inr ⟨_, _, rfl, bv_dat e (.str _) q⟩
theorem bv_max : BvOk G rMax2 (f2 maxD) := B2Ok.call fun F H v w a b o Q e p1 p2 h q => by
  cases a <;> cases b <;> first | (cases h; done) | skip
  · cases h
    rw [p1.int, p2.int]
    exact .inl ⟨_, _, rfl, bv_dat e (.int _) q⟩
  · cases h
    rw [p1.str, p2.str]
    exact .inr ⟨_, _, rfl, bv_dat e (.str _) q⟩
theorem de_min2 (hc : X.calm = true) (hg : Gl X "min") (hm : X.mg "min" = none) (ha : DE X a ma) (hb : DE X b mb) (hs : starEach [a, b] X.env = (false, eval a X.env) :: starEach [b] X.env := by rfl) (hs2 : starEach [b] X.env = (false, eval b X.env) :: starEach [] X.env := by rfl)
    (hp : ∀ t, PA X [a, b] t → PE X (.Call (.Name "min" p) [a, b] [] pos) (tCB rMin2 t) := by intro t ht; exact pe_callB (cr_min2 (by first | assumption | rfl)) (by first | assumption | rfl) (by first | assumption | rfl) boot_min ht) : DE X (.Call (.Name "min" p) [a, b] [] pos) (mOp2 minD ma mb) :=
  de_callB (cr_min2 hc) (bv_min (G := wd X)) hg hm boot_min (da_cons ha (da_cons hb da_nil hs2) hs) (hp := hp)
theorem de_max2 (hc : X.calm = true) (hg : Gl X "max") (hm : X.mg "max" = none) (ha : DE X a ma) (hb : DE X b mb) (hs : starEach [a, b] X.env = (false, eval a X.env) :: starEach [b] X.env := by rfl) (hs2 : starEach [b] X.env = (false, eval b X.env) :: starEach [] X.env := by rfl)
    (hp : ∀ t, PA X [a, b] t → PE X (.Call (.Name "max" p) [a, b] [] pos) (tCB rMax2 t) := by intro t ht; exact pe_callB (cr_max2 (by first | assumption | rfl)) (by first | assumption | rfl) (by first | assumption | rfl) boot_max ht) : DE X (.Call (.Name "max" p) [a, b] [] pos) (mOp2 maxD ma mb) :=
  de_callB (cr_max2 hc) (bv_max (G := wd X)) hg hm boot_max (da_cons ha (da_cons hb da_nil hs2) hs) (hp := hp)

/-! ### abs, int, str, list, tuple -/
def absD : Pd → Option Rs
  | .int i => some (.dat (.int (if i < 0 then -i else i)))
  | _ => none
theorem b1_abs : B1Ok G (fun v H Q => (fun xs H Q => ∃ i, xs = [V.int i] ∧ Q (V.int (if i < 0 then -i else i)) H) [v] H Q) absD := fun F H v a o Q e h1 h2 q => by
  cases a <;> first | (cases h2; done) | skip
  cases h2
  exact ⟨_, by rw [h1.int], bv_dat e (.int _) q⟩
theorem de_abs (hg : Gl X "abs") (hm : X.mg "abs" = none) (ha : DE X a m) (hs : starEach [a] X.env = (false, eval a X.env) :: starEach [] X.env := by rfl)
    (hp : ∀ t, PA X [a] t → PE X (.Call (.Name "abs" p) [a] [] pos) (tCB (fun xs H Q => ∃ i, xs = [.int i] ∧ Q (.int (if i < 0 then -i else i)) H) t) := by intro t ht; exact pe_callB call_abs (by first | assumption | rfl) (by first | assumption | rfl) boot_abs ht) : DE X (.Call (.Name "abs" p) [a] [] pos) (mOp1 absD m) :=
  de_callB call_abs (B1Ok.call (G := wd X) b1_abs) hg hm boot_abs (da_cons ha da_nil hs) (hp := hp)
def intD : Pd → Option Rs
  | .int i => some (.dat (.int i))
  | .bool k => some (.dat (.int (if k then 1 else 0)))
  | _ => none
theorem b1_int : B1Ok G (fun v H Q => (fun xs H Q => (∃ i, xs = [V.int i] ∧ Q (V.int i) H) ∨ ∃ k, xs = [V.bl k] ∧ Q (V.int (if k then 1 else 0)) H) [v] H Q) intD := fun F H v a o Q e h1 h2 q => by
  cases a <;> first | (cases h2; done) | skip
  · cases h2
    exact .inr ⟨_, by rw [h1.bool], bv_dat e (.int _) q⟩
  · cases h2
    exact .inl ⟨_, by rw [h1.int], bv_dat e (.int _) q⟩
theorem de_intC (hg : Gl X "int") (hm : X.mg "int" = none) (ha : DE X a m) (hs : starEach [a] X.env = (false, eval a X.env) :: starEach [] X.env := by rfl)
    (hp : ∀ t, PA X [a] t → PE X (.Call (.Name "int" p) [a] [] pos) (tCB (fun xs H Q => (∃ i, xs = [.int i] ∧ Q (.int i) H) ∨ ∃ k, xs = [.bl k] ∧ Q (.int (if k then 1 else 0)) H) t) := by intro t ht; exact pe_callTy call_int1 (by first | assumption | rfl) (by first | assumption | rfl) PyProof.Rows.boot_int ht) : DE X (.Call (.Name "int" p) [a] [] pos) (mOp1 intD m) :=
  de_callTy call_int1 (B1Ok.call (G := wd X) b1_int) hg hm PyProof.Rows.boot_int (da_cons ha da_nil hs) (hp := hp)
def strD : Pd → Option Rs
  | .int i => if i.natAbs.log2 < 1920 then some (.dat (.str (Str.ofString (toString i)))) else none
  | _ => none
theorem b1_str : B1Ok G (fun v H Q => (fun xs H Q => ∃ i : Int, xs = [V.int i] ∧ i.natAbs.log2 < 1920 ∧ Q (V.str (toString i)) H) [v] H Q) strD := fun F H v a o Q e h1 h2 q => by
  cases a <;> first | (cases h2; done) | skip
  simp only [strD] at h2
  split at h2
  · next hl =>
    cases h2
    exact ⟨_, by rw [h1.int], hl, bv_dat e (.str _) q⟩
  · cases h2
theorem de_strC (hg : Gl X "str") (hm : X.mg "str" = none) (ha : DE X a m) (hs : starEach [a] X.env = (false, eval a X.env) :: starEach [] X.env := by rfl)
    (hp : ∀ t, PA X [a] t → PE X (.Call (.Name "str" p) [a] [] pos) (tCB (fun xs H Q => ∃ i, xs = [.int i] ∧ i.natAbs.log2 < 1920 ∧ Q (.str (toString i)) H) t) := by intro t ht; exact pe_callTy call_str_int (by first | assumption | rfl) (by first | assumption | rfl) PyProof.Rows.boot_str ht) : DE X (.Call (.Name "str" p) [a] [] pos) (mOp1 strD m) :=
  de_callTy call_str_int (B1Ok.call (G := wd X) b1_str) hg hm PyProof.Rows.boot_str (da_cons ha da_nil hs) (hp := hp)
def listD : Pd → Option Rs
  | .list ds => some (.new (.lst ds))
  | .tuple ds => some (.new (.lst ds))
  | _ => none
abbrev rListC (K : PySem.W.Frag) : List V → Hp → VK → Prop := fun xs H Q => ∃ p ys, xs = [.ref p] ∧ (SqL K H p ys ∨ SqT K H p ys) ∧ ∀ l, H l = none → Q (.ref l) (upd H l (.lst ys))
theorem b1_list : B1Ok G (fun v H Q => rListC G.K [v] H Q) listD := fun F H v a o Q e h1 h2 q => by
  cases a <;> first | (cases h2; done) | skip
  · cases h2
    obtain ⟨l, xs, rfl, g1, g2⟩ := h1.list e
    exact ⟨l, xs, rfl, .inl (SqL.of g1), fun p hp => q _ F _ (.one e hp) ⟨p, _, rfl, hp, same_free e hp, upd_same, _, rfl, g2⟩⟩
  · cases h2
    obtain ⟨l, xs, rfl, g1, g2⟩ := h1.tuple e
    exact ⟨l, xs, rfl, .inr (SqT.of g1), fun p hp => q _ F _ (.one e hp) ⟨p, _, rfl, hp, same_free e hp, upd_same, _, rfl, g2⟩⟩
theorem de_listC (hg : Gl X "list") (hm : X.mg "list" = none) (ha : DE X a m) (hs : starEach [a] X.env = (false, eval a X.env) :: starEach [] X.env := by rfl)
    (hp : ∀ t, PA X [a] t → PE X (.Call (.Name "list" p) [a] [] pos) (tCB (rListC X.K) t) := by intro t ht; exact pe_callTy call_list_of (by first | assumption | rfl) (by first | assumption | rfl) PyProof.Rows.boot_list ht) : DE X (.Call (.Name "list" p) [a] [] pos) (mOp1 listD m) :=
  de_callTy call_list_of (B1Ok.call (G := wd X) b1_list) hg hm PyProof.Rows.boot_list (da_cons ha da_nil hs) (hp := hp)
def tupleD : Pd → Option Rs
  | .list ds => some (.dat (.tuple ds))
  | .tuple ds => some (.dat (.tuple ds))
  | _ => none
abbrev rTupC (K : PySem.W.Frag) : List V → Hp → VK → Prop := fun xs H Q => ∃ p ys, xs = [.ref p] ∧ ((SqL K H p ys ∧ ∀ l, H l = none → Q (.ref l) (upd H l (.tup ys))) ∨ (SqT K H p ys ∧ Q (.ref p) H))
theorem b1_tuple : B1Ok G (fun v H Q => rTupC G.K [v] H Q) tupleD := fun F H v a o Q e h1 h2 q => by
  cases a <;> first | (cases h2; done) | skip
  · cases h2
    obtain ⟨l, xs, rfl, g1, g2⟩ := h1.list e
    exact ⟨l, xs, rfl, .inl ⟨SqL.of g1, fun p hp => q _ _ _ (.both e hp) (Dq.tup upd_same (dpAll_mono (same_upd (same_free e hp)) g2))⟩⟩
  · cases h2
    have d1 : Dq G.K F v (.tuple _) := h1.elim id fun ⟨_, _, _, _, _, _, z⟩ => by cases z
    obtain ⟨l, xs, rfl, g1, g2⟩ := h1.tuple e
    exact ⟨l, xs, rfl, .inr ⟨SqT.of g1, bv_dat e d1 q⟩⟩
theorem de_tupC (hg : Gl X "tuple") (hm : X.mg "tuple" = none) (ha : DE X a m) (hs : starEach [a] X.env = (false, eval a X.env) :: starEach [] X.env := by rfl)
    (hp : ∀ t, PA X [a] t → PE X (.Call (.Name "tuple" p) [a] [] pos) (tCB (rTupC X.K) t) := by intro t ht; exact pe_callTy call_tuple_of (by first | assumption | rfl) (by first | assumption | rfl) PyProof.Rows.boot_tuple ht) : DE X (.Call (.Name "tuple" p) [a] [] pos) (mOp1 tupleD m) :=
  de_callTy call_tuple_of (B1Ok.call (G := wd X) b1_tuple) hg hm PyProof.Rows.boot_tuple (da_cons ha da_nil hs) (hp := hp)

/-! ### sorted -/
open Classical in
noncomputable def sortedD : Pd → Option Rs
  | .list ds => if PySem.W.AllAlike ds ∧ PySem.W.Sortable ds ∧ PyData.canLayAll0 ds = true ∧ ds.length ≤ sizeLine ∧ ∀ d ∈ ds, d.depth ≤ 62 then some (.new (.lst (ds.mergeSort (PySem.W.dataLe false id)))) else none
  | _ => none
def srt2 (xs : List V) (ds : List Pd) : List (V × Pd) := (xs.zip ds).mergeSort (PySem.W.dataLe false (·.2))
def rSortD (K : PySem.W.Frag) : List V → Hp → VK → Prop := fun vs H Q => ∃ a xs ds, vs = [.ref a] ∧ H a = some (.lst xs) ∧ DpAll K H xs ds ∧ PySem.W.AllAlike ds ∧ PySem.W.Sortable ds ∧ ds.length ≤ sizeLine ∧ (∀ d ∈ ds, d.depth ≤ 62) ∧
  ∀ p, H p = none → Q (.ref p) (upd H p (.lst ((srt2 xs ds).map (·.1))))
theorem dp_len {K : PySem.W.Frag} {H : Hp} : ∀ {vs : List V} {ds : List Pd}, DpAll K H vs ds → vs.length = ds.length
  | _, _, .nil => rfl
  | _, _, .cons _ q => congrArg (· + 1) (dp_len q)
theorem each_pairs {s : Shared} {pins : List (Addr × Obj)} {σ : L2.St} {H : Hp} (I : Inv X pins σ H s) : ∀ {xs : List V} {ds : List Pd} {us : List Value}, DpAll X.K H xs ds → Vals xs us →
    PySem.W.EachIs (fun u (b : V × Pd) => RelV b.1 u) us (xs.zip ds) ∧ PySem.W.EachIs (fun u (b : V × Pd) => ∃ as, Reads s.heap u b.2 as) us (xs.zip ds)
  | _, _, _, .nil, .nil => ⟨.nil, .nil⟩
  | _, _, _, .cons h q, .cons r t => by
    obtain ⟨h1, h2⟩ := each_pairs I q t
    exact ⟨.cons r h1, .cons (Dp.reads I _ _ _ h r) h2⟩
theorem each_vals : ∀ {us : List Value} {bs : List (V × Pd)}, PySem.W.EachIs (fun u (b : V × Pd) => RelV b.1 u) us bs → Vals (bs.map (·.1)) us
  | _, _, .nil => .nil
  | _, _, .cons h q => .cons h (each_vals q)
theorem cr_sortD (hu : X.A.units + 70 < cLine) : CallR X (.builtin "sorted") (rSortD X.K) := by
  intro pins s σ H vs us Q I r h
  obtain ⟨a, xs, ds, rfl, hH, hdp, hal, hso, hz, hdep, q⟩ := h
  obtain ⟨its, rv, hl, hzz⟩ := I.list (SqL.of hH)
  rw [Vals.ref1 r]
  obtain ⟨e1, e2⟩ := each_pairs I hdp rv
  have hlen := dp_len hdp
  have emap : (xs.zip ds).map (·.2) = ds := List.map_snd_zip (by omega)
  refine PySem.W.sorted_data (bs := xs.zip ds) (enc := (·.2)) (R := fun u (b : V × Pd) => RelV b.1 u) hl.isList e1 e2 (by rw [emap]; exact hal) (by rw [emap]; exact hso) (by rw [List.length_zip]; omega) (fun b hb => ?_) fun out hlo heo => ?_
  · have hd : b.2 ∈ ds := (List.of_mem_zip (a := b.1) (b := b.2) hb).2
    have := hdep _ hd
    omega
  · obtain ⟨ep, he'⟩ := PyProof.Rows.sortedAll_at s.heap its out.toArray
    have rel : Vals ((srt2 xs ds).map (·.1)) out := each_vals heo
    have hl2 : ((srt2 xs ds).map (·.1)).length ≤ sizeLine := by
      rw [List.length_map]
      unfold srt2
      rw [List.length_mergeSort, List.length_zip]
      omega
    exact ⟨.ref _, upd H (s.heap.objs.size + 1) (.lst ((srt2 xs ds).map (·.1))), I.laid (t' := s.toks) (fun _ _ => PyProof.Rows.sortedAll_old) (Nat.le_succ _) ⟨hl2, out, ep, rel, he'⟩, rfl, q _ (I.hok.fresh (Nat.le_succ _))⟩
theorem dq_zip {K : PySem.W.Frag} {F : Hp} : ∀ {xs : List V} {ds : List Pd}, DqAll K F xs ds → ∀ b ∈ xs.zip ds, Dq K F b.1 b.2
  | _, _, .nil, b, h => by cases h
  | _, _, .cons h q, b, hb => by
    rcases List.mem_cons.mp (show b ∈ (_, _) :: _ from hb) with rfl | hb
    · exact h
    · exact dq_zip q b hb
theorem dq_unzip {K : PySem.W.Frag} {F : Hp} : ∀ {bs : List (V × Pd)}, (∀ b ∈ bs, Dq K F b.1 b.2) → DqAll K F (bs.map (·.1)) (bs.map (·.2))
  | [], _ => .nil
  | b :: bs, h => .cons (h b List.mem_cons_self) (dq_unzip fun c hc => h c (List.mem_cons_of_mem _ hc))
theorem b1_sorted : B1Ok G (fun v H Q => rSortD G.K [v] H Q) sortedD := fun F H v a o Q e h1 h2 q => by
  cases a <;> first | (simp only [sortedD] at h2; cases h2; done) | skip
  next ds =>
  simp only [sortedD] at h2
  split at h2
  · next hh =>
    cases h2
    obtain ⟨c1, c2, c3, c4, c5⟩ := hh
    obtain ⟨l, xs, rfl, g1, g2⟩ := h1.list e
    refine ⟨l, xs, ds, rfl, g1, dqAll_dp (dpAll_mono e g2) c3, c1, c2, c4, c5, fun p hp => ?_⟩
    refine q _ F _ (.one e hp) ⟨p, _, rfl, hp, same_free e hp, upd_same, _, rfl, ?_⟩
    have hm : (srt2 xs ds).map (·.2) = ds.mergeSort (PySem.W.dataLe false id) := by
      unfold srt2
      rw [PySem.W.sort_maps (r := PySem.W.dataLe false fun (x : V × Pd) => x.2) (s := PySem.W.dataLe false id) (fun (x : V × Pd) => x.2) (fun _ _ _ _ => rfl)]
      rw [List.map_snd_zip (by rw [dpAll_len g2]; exact Nat.le_refl _)]
    rw [← hm]
    refine dq_unzip fun b hb => dq_zip g2 b ?_
    unfold srt2 at hb
    exact List.mem_mergeSort.mp hb
  · cases h2
theorem de_sorted (hu : X.A.units + 70 < cLine) (hg : Gl X "sorted") (hm : X.mg "sorted" = none) (ha : DE X a m) (hs : starEach [a] X.env = (false, eval a X.env) :: starEach [] X.env := by rfl)
    (hp : ∀ t, PA X [a] t → PE X (.Call (.Name "sorted" p) [a] [] pos) (tCB (rSortD X.K) t) := by intro t ht; exact pe_callB (cr_sortD (by first | assumption | rfl)) (by first | assumption | rfl) (by first | assumption | rfl) boot_sorted ht) : DE X (.Call (.Name "sorted" p) [a] [] pos) (mOp1 sortedD m) :=
  de_callB (cr_sortD hu) (B1Ok.call (G := wd X) b1_sorted) hg hm boot_sorted (da_cons ha da_nil hs) (hp := hp)
end
end Mw

set_option Elab.async false
set_option linter.all false
set_option maxRecDepth 100000
set_option autoImplicit false
namespace Mw
open PySem PySem.Spec PyProof.Rows L2
section
variable {G : Wd} {X : Cx} {a b e : Expr} {es : List Expr} {ma mb m : ME} {ms : MA} {pos p p2 : Pos}

/-! ### repr -/
def reprD : Pd → Option Rs := fun d => if d.showable && d.canLay0 && decide (d.depth ≤ 60) && decide (d.shown.length ≤ sizeLine) then some (.dat (.str d.shown)) else none
def rRepr (K : PySem.W.Frag) : List V → Hp → VK → Prop := fun vs H Q => ∃ v d, vs = [v] ∧ Dp K H v d ∧ d.canLay0 = true ∧ d.showable = true ∧ d.depth ≤ 60 ∧ d.shown.length ≤ sizeLine ∧ Q (.str d.shown) H
mutual
theorem noDict : ∀ d : Pd, d.canLay0 = true → d.hasDict = false
  | .none, _ => by simp [PyData.hasDict]
  | .bool _, _ => by simp [PyData.hasDict]
  | .int _, _ => by simp [PyData.hasDict]
  | .str _, _ => by simp [PyData.hasDict]
  | .list xs, h => by
    rw [PyData.canLay0] at h
    rw [PyData.hasDict]
    exact noDicts xs h
  | .tuple xs, h => by
    rw [PyData.canLay0] at h
    rw [PyData.hasDict]
    exact noDicts xs h
  | .dict _, h => by simp [PyData.canLay0] at h
theorem noDicts : ∀ ds : List Pd, PyData.canLayAll0 ds = true → PyData.hasDictAll ds = false
  | [], _ => by simp [PyData.hasDictAll]
  | d :: ds, h => by
    rw [PyData.canLayAll0, Bool.and_eq_true] at h
    rw [PyData.hasDictAll, noDict d h.1, noDicts ds h.2]
    rfl
end
theorem cr_repr (hgd : X.A.guards = some []) (hu : X.A.units + 64 < cLine) : CallR X (.builtin "repr") (rRepr X.K) := by
  intro pins s σ H vs us Q I r h
  obtain ⟨v, d, rfl, hd, hc, hs, hdep, hz, q⟩ := h
  obtain ⟨u, rfl, ru⟩ := vals1 r
  have fin : ∀ (tk : Nat) (t : Tok), EP X pins σ Q (.str d.shown t) { s with toks := tk } := fun tk t => ⟨.str d.shown, H, I.tok tk, ⟨t, rfl⟩, q⟩
  have big : ∀ {a : Addr}, v = .ref a → wpAny (model X.prog X.w) X.A (call (.builtin "repr") [u]) (EP X pins σ Q) X.xe s := fun {a} ev => by
    subst ev
    obtain ⟨as, rr⟩ := Dp.reads I d _ u hd ru
    cases (show u = Value.ref a from ru)
    refine repr_of_reads' rr hs (fun z => ?_) hgd (by omega) (fun _ _ e => e) (fun h' t tk k => ?_) hz
    · rw [noDict d hc] at z
      cases z
    · exact ⟨.str d.shown, H, I.kept k, ⟨t, rfl⟩, q⟩
  cases hd with
  | non =>
    cases ru
    exact PySem.P.repr_of_none (fin _ _)
  | bl b =>
    cases ru
    have := fin (s.toks + 1) s.toks
    simp only [PyData.shown] at this
    exact PySem.P.repr_of_bool this
  | int i =>
    obtain ⟨t, rfl⟩ := ru
    have hi : i.natAbs.log2 < 1920 := by simpa [PyData.showable] using hs
    exact PySem.P.repr_of_int hi (fin _ _)
  | str x =>
    obtain ⟨t, rfl⟩ := ru
    have hz' : (reprText x).length ≤ sizeLine := by simpa [PyData.shown] using hz
    exact PySem.P.repr_of_str (fin _ _) hz'
  | lst h1 h2 => exact big rfl
  | tup h1 h2 => exact big rfl
theorem b1_repr : B1Ok G (fun v H Q => rRepr G.K [v] H Q) reprD := fun F H v a o Q e h1 h2 q => by
  unfold reprD at h2
  split at h2
  · next hh =>
    simp only [Bool.and_eq_true, decide_eq_true_eq] at hh
    obtain ⟨⟨⟨c1, c2⟩, c3⟩, c4⟩ := hh
    cases h2
    exact ⟨v, a, rfl, dq_dp (h1.dp e) c2, c2, c1, c3, c4, bv_dat e (.str _) q⟩
  · cases h2
theorem de_repr (hgd : X.A.guards = some []) (hu : X.A.units + 64 < cLine) (hg : Gl X "repr") (hm : X.mg "repr" = none) (ha : DE X a m) (hs : starEach [a] X.env = (false, eval a X.env) :: starEach [] X.env := by rfl)
    (hp : ∀ t, PA X [a] t → PE X (.Call (.Name "repr" p) [a] [] pos) (tCB (rRepr X.K) t) := by intro t ht; exact pe_callB (cr_repr (by first | assumption | rfl) (by first | assumption | rfl)) (by first | assumption | rfl) (by first | assumption | rfl) boot_repr ht) : DE X (.Call (.Name "repr" p) [a] [] pos) (mOp1 reprD m) :=
  de_callB (cr_repr hgd hu) (B1Ok.call (G := wd X) b1_repr) hg hm boot_repr (da_cons ha da_nil hs) (hp := hp)

/-! ### subscripts -/
def ixD : Pd → Pd → Option Rs
  | .list ds, .int i => match atI ds i with
    | some d => some (.dat d)
    | none => none
  | .tuple ds, .int i => match atI ds i with
    | some d => some (.dat d)
    | none => none
  | .str x, .int i => if x.length ≤ sizeLine then (match atI x.cps.toList i with
    | some c => some (.dat (.str ⟨#[c]⟩))
    | none => none) else none
  | _, _ => none
def rIx3 (K : PySem.W.Frag) : R2 := fun x y H Q => rIxL K x y H Q ∨ rIxT K x y H Q ∨ rIxS x y H Q
theorem IxR.or {r r' : R2} (h : IxR X r) (h' : IxR X r') : IxR X (fun x y H Q => r x y H Q ∨ r' x y H Q) := fun value slice pins s σ H x y v u Q I rx ry q z =>
  q.elim (fun q => h value slice pins s σ H x y v u Q I rx ry q z) fun q => h' value slice pins s σ H x y v u Q I rx ry q z
theorem ix_all : IxR X (rIx3 X.K) := IxR.or ix_list (IxR.or ix_tup ix_str)
theorem atI_dq {K : PySem.W.Frag} {F : Hp} {xs : List V} {ds : List Pd} {i : Int} {d : Pd} (h : DqAll K F xs ds) (q : atI ds i = some d) : ∃ v, atI xs i = some v ∧ Dq K F v d := by
  unfold atI at q ⊢
  rw [dpAll_len h]
  cases w : ixN ds.length i with
  | none => rw [w] at q; cases q
  | some j =>
    rw [w] at q
    exact dpAll_get h q
theorem b2_ix : B2Ok G (rIx3 G.K) ixD := fun F H v w a b o Q e h1 h2 h3 q => by
  cases a <;> cases b <;> first | (cases h3; done) | skip
  · next x i =>
    simp only [ixD] at h3
    split at h3
    · next hl =>
      split at h3
      · next c e1 =>
        cases h3
        exact .inr (.inr ⟨x, i, c, h1.str, h2.int, hl, e1, bv_dat e (.str _) q⟩)
      · cases h3
    · cases h3
  · next ds i =>
    simp only [ixD] at h3
    split at h3
    · next d e1 =>
      cases h3
      obtain ⟨l, xs, rfl, g1, g2⟩ := h1.list e
      obtain ⟨v', g3, g4⟩ := atI_dq g2 e1
      exact .inl ⟨l, xs, i, v', rfl, h2.int, SqL.of g1, g3, bv_dat e g4 q⟩
    · cases h3
  · next ds i =>
    simp only [ixD] at h3
    split at h3
    · next d e1 =>
      cases h3
      obtain ⟨l, xs, rfl, g1, g2⟩ := h1.tuple e
      obtain ⟨v', g3, g4⟩ := atI_dq g2 e1
      exact .inr (.inl ⟨l, xs, i, v', rfl, h2.int, SqT.of g1, g3, bv_dat e g4 q⟩)
    · cases h3
theorem de_ix (ha : DE X a ma) (hb : DE X b mb) (hs : PlainIx b := by exact fun _ _ => rfl) : DE X (.Subscript a b pos) (mOp2 ixD ma mb) := by
  obtain ⟨ta, tb, h1, h2, k⟩ := op2_run (ta := tC .non) (tb := tC .non) (b2_ix (G := wd X)) ha hb
  exact ⟨_, pe_ix ix_all h1 h2 hs, k⟩

/-! ### slices -/
def cutD (ds : List Pd) (lo hi : Option Int) : List Pd := (ds.drop (HT.sIx ds.length 0 lo)).take (HT.sIx ds.length ds.length hi - HT.sIx ds.length 0 lo)
def slD (d : Pd) (lo hi : Option Int) : Option Rs := match d with
  | .list ds => some (.new (.lst (cutD ds lo hi)))
  | .tuple ds => some (.dat (.tuple (cutD ds lo hi)))
  | .str x => if x.length ≤ sizeLine then some (.dat (.str (cutS x lo hi))) else none
  | .dict [(.none, .list ds)] => some (.new (.lst (cutD ds lo hi)))
  | _ => none
def rSl3 (K : PySem.W.Frag) : V → Option Int → Option Int → Hp → VK → Prop := fun x lo hi H Q => rSlL K x lo hi H Q ∨ rSlA K x lo hi H Q ∨ rSlS x lo hi H Q
theorem sl_all : SlR X (rSl3 X.K) := SlR.or sl_list (SlR.or sl_tupA sl_str)
theorem cut_dq {K : PySem.W.Frag} {F : Hp} {xs : List V} {ds : List Pd} (h : DqAll K F xs ds) (lo hi : Option Int) : DqAll K F (cutV xs lo hi) (cutD ds lo hi) := by
  unfold cutV cutD
  rw [dpAll_len h]
  exact dpAll_take _ (dpAll_drop _ h)
theorem cut_whole {ds : List Pd} {lo hi : Option Int} (h : HT.sIx ds.length 0 lo = 0 ∧ HT.sIx ds.length ds.length hi = ds.length) : cutD ds lo hi = ds := by
  unfold cutD
  rw [h.1, h.2, List.drop_zero, Nat.sub_zero, List.take_length]
theorem sl_run {F H : Hp} {v : V} {d : Pd} {lo hi : Option Int} {o : Rs} {Q : VK} (e : Same F H) (h : Vw G F H v d) (h3 : slD d lo hi = some o) (q : ∀ v F' H', Grow F H F' H' → RepN G F' H H' v o → Q v H') : rSl3 G.K v lo hi H Q := by
  unfold slD at h3
  split at h3
  · next ds =>
    cases h3
    obtain ⟨l, xs, rfl, g1, g2⟩ := h.list e
    exact .inl ⟨l, xs, rfl, SqL.of g1, fun p hp => q _ F _ (.one e hp) ⟨p, _, rfl, hp, same_free e hp, upd_same, _, rfl, cut_dq g2 lo hi⟩⟩
  · next ds =>
    cases h3
    have d1 : Dq G.K F v (.tuple _) := h.elim id fun ⟨_, _, _, _, _, _, z⟩ => by cases z
    obtain ⟨l, xs, rfl, g1, g2⟩ := h.tuple e
    refine .inr (.inl ⟨l, xs, rfl, SqT.of g1, fun w => ?_, fun _ p hp => ?_⟩)
    · rw [dpAll_len g2] at w
      rw [cut_whole w] at q
      exact bv_dat e d1 q
    · exact q _ _ _ (.both e hp) (Dq.tup upd_same (dpAll_mono (same_upd (same_free e hp)) (cut_dq g2 lo hi)))
  · next x =>
    split at h3
    · next hl =>
      cases h3
      exact .inr (.inr ⟨x, h.str, hl, bv_dat e (.str _) q⟩)
    · cases h3
  · next ds =>
    cases h3
    rcases h with h | ⟨_, _, _, _, _, _, z⟩
    · generalize hd : PyData.dict [(PyData.none, PyData.list ds)] = dd at h
      cases h with
      | scr h1 =>
        cases hd
        refine .inl ⟨_, _, rfl, sqL_mono e h1, fun p hp => q _ F _ (.one e hp) ⟨p, _, rfl, hp, same_free e hp, upd_same, _, rfl, cut_dq (dpAll_ints _) lo hi⟩⟩
      | _ => cases hd
    · cases z
  · cases h3
/-- a part of a slice -/
abbrev MO := En → Option (Option Int × En)
structure DO (X : Cx) (e : Option Expr) (m : MO) : Prop where
  ex : ∃ t : TO, PO X e t ∧ ∀ (σ : L2.St) (H F : Hp) (ρ : En) (o : Option Int) (ρ' : En) (Q : Option Int → Hp → Prop), Sat (wd X) F H σ ρ → m ρ = some (o, ρ') →
    (∀ F' H', Stp (wd X) F H σ ρ F' H' σ ρ' → Q o H') → t σ H Q
def oNone : MO := fun ρ => some (none, ρ)
def oSome (m : ME) : MO := fun ρ => match m ρ with
  | some (.dat (.int i), ρ') => some (some i, ρ')
  | _ => none
theorem do_none : DO X none oNone := ⟨_, po_none, fun σ H F ρ o ρ' Q s e q => by
  cases e
  exact q F H (.refl s)⟩
theorem do_some (h : DE X e m) : DO X (some e) (oSome m) := by
  obtain ⟨t, ht, k⟩ := h.ex
  refine ⟨_, po_some ht, fun σ H F ρ o ρ' Q s e q => ?_⟩
  unfold oSome at e
  split at e
  · next i ρ1 e1 =>
    cases e
    refine k σ H F ρ _ _ _ s e1 fun v F1 H1 x1 y1 => ?_
    have y1' : Dq X.K F1 v (.int i) := y1
    cases y1'
    exact ⟨i, rfl, q F1 H1 x1⟩
  · cases e
def mSl (m : ME) (ml mh : MO) : ME := fun ρ => match m ρ with
  | some (r, ρ1) => match frz1 r with
    | some r' => match ml ρ1 with
      | some (lo, ρ2) => match mh ρ2 with
        | some (hi, ρ3) => match lookS ρ3 r' with
          | some d => match slD d lo hi with
            | some o => some (o, ρ3)
            | none => none
          | none => none
        | none => none
      | none => none
    | none => none
  | none => none
theorem de_sl {lo hi : Option Expr} {ml mh : MO} (h : DE X e m) (hl : DO X lo ml) (hh : DO X hi mh) : DE X (.Subscript e (.Slice lo hi none p2) pos) (mSl m ml mh) := by
  obtain ⟨t, ht, k⟩ := h.ex
  obtain ⟨tl, htl, kl⟩ := hl.ex
  obtain ⟨th, hth, kh⟩ := hh.ex
  refine ⟨_, pe_slice sl_all ht htl hth, fun σ H F ρ o ρ' Q s e q => ?_⟩
  unfold mSl at e
  split at e
  · next r ρ1 e1 =>
    split at e
    · next r' e2 =>
      split at e
      · next lo' ρ2 e3 =>
        split at e
        · next hi' ρ3 e4 =>
          split at e
          · next d e5 =>
            split at e
            · next o' e6 =>
              cases e
              refine k σ H F ρ r ρ1 _ s e1 fun v F1 H1 x1 y1 => ?_
              obtain ⟨F2, x2, m2, y2⟩ := frz1_ok x1 y1 e2
              refine kl σ H1 F2 ρ1 lo' ρ2 _ x2.sat e3 fun F3 H3 x3 => ?_
              refine kh σ H3 F3 ρ2 hi' _ _ x3.sat e4 fun F4 H4 x4 => ?_
              have y4 := (y2.mono x3.ext).mono x4.ext
              refine sl_run (G := wd X) x4.sat.sub (vw_of x4.sat y4 e5) e6 fun w F5 H5 gr rn => ?_
              obtain ⟨z1, z2⟩ := rep_of_n x4.sat gr rn
              have x5 := (x2.trans x3).trans x4
              exact q w F5 H5 (x5.trans z1) (repR_back x5 z2)
            · cases e
          · cases e
        · cases e
      · cases e
    · cases e
  · cases e

/-! ### in, not in (texts, lists, tuples) -/
def inD (neg : Bool) : Pd → Pd → Option Rs
  | .str x, .str y => some (.dat (.bool (if neg then !(!(Builtin.Str.occurrences y x 0 y.length 1).isEmpty) else !(Builtin.Str.occurrences y x 0 y.length 1).isEmpty)))
  | d, .list ds => if SeqAt.shaped d && SeqAt.shaped (.list ds) then some (.dat (.bool (if neg then !ds.any fun z => PyData.eqv z d else ds.any fun z => PyData.eqv z d))) else none
  | d, .tuple ds => if SeqAt.shaped d && SeqAt.shaped (.tuple ds) then some (.dat (.bool (if neg then !ds.any fun z => PyData.eqv z d else ds.any fun z => PyData.eqv z d))) else none
  | _, _ => none
def rInA (K : PySem.W.Frag) (neg : Bool) : R2 := fun x y H Q =>
  (∃ i j, x = .str i ∧ y = .str j ∧ Q (.bl (if neg then !(!(Builtin.Str.occurrences j i 0 j.length 1).isEmpty) else !(Builtin.Str.occurrences j i 0 j.length 1).isEmpty)) H) ∨
  ∃ d ds, Dp K H x d ∧ SeqAt.shaped d = true ∧ ((Dp K H y (.list ds) ∧ SeqAt.shaped (.list ds) = true) ∨ (Dp K H y (.tuple ds) ∧ SeqAt.shaped (.tuple ds) = true)) ∧ Q (.bl (if neg then !ds.any fun z => PyData.eqv z d else ds.any fun z => PyData.eqv z d)) H
theorem room_shaped {A : Around} {ds : List Pd} {d : Pd} (hd : SeqAt.shaped d = true) (hu : A.units + 65 < cLine) : A.units + 1 + min (PyData.depthAll ds) d.depth < cLine := by
  unfold SeqAt.shaped at hd
  rw [Bool.and_eq_true, decide_eq_true_eq] at hd
  omega
theorem op_inA (hu : X.A.units + 65 < cLine) : OpR X (compareOp .In) (rInA X.K false) := by
  intro pins s σ H x y v u Q I rx ry h
  rcases h with h | ⟨d, ds, hd, sd, hl, q⟩
  · exact op_in_str pins s σ H x y v u Q I rx ry h
  · obtain ⟨as, r1⟩ := Dp.reads I d x v hd rx
    rcases hl with ⟨hy, sy⟩ | ⟨hy, sy⟩
    · obtain ⟨bs, r2⟩ := Dp.reads I _ y u hy ry
      exact SeqAt.in_list_reads r2 r1 (SeqAt.canLay_of_shaped sy) (SeqAt.canLay_of_shaped sd) (room_shaped sd hu) ⟨.bl _, H, I, rfl, q⟩
    · obtain ⟨bs, r2⟩ := Dp.reads I _ y u hy ry
      exact SeqAt.in_tuple_reads r2 r1 (SeqAt.canLay_of_shaped sy) (SeqAt.canLay_of_shaped sd) (room_shaped sd hu) ⟨.bl _, H, I, rfl, q⟩
theorem op_ninA (hu : X.A.units + 65 < cLine) : OpR X (compareOp .NotIn) (rInA X.K true) := by
  intro pins s σ H x y v u Q I rx ry h
  rcases h with h | ⟨d, ds, hd, sd, hl, q⟩
  · exact op_notin_str pins s σ H x y v u Q I rx ry h
  · obtain ⟨as, r1⟩ := Dp.reads I d x v hd rx
    rcases hl with ⟨hy, sy⟩ | ⟨hy, sy⟩
    · obtain ⟨bs, r2⟩ := Dp.reads I _ y u hy ry
      exact SeqAt.notIn_list_reads r2 r1 (SeqAt.canLay_of_shaped sy) (SeqAt.canLay_of_shaped sd) (room_shaped sd hu) ⟨.bl _, H, I, rfl, q⟩
    · obtain ⟨bs, r2⟩ := Dp.reads I _ y u hy ry
      exact SeqAt.notIn_tuple_reads r2 r1 (SeqAt.canLay_of_shaped sy) (SeqAt.canLay_of_shaped sd) (room_shaped sd hu) ⟨.bl _, H, I, rfl, q⟩
theorem b2_in {neg : Bool} : B2Ok G (rInA G.K neg) (inD neg) := fun F H v w a b o Q e h1 h2 h3 q => by
  have seqs : ∀ {ds : List Pd} {c : Pd}, (c = .list ds ∨ c = .tuple ds) → Vw G F H w c → (SeqAt.shaped a && SeqAt.shaped c) = true → o = .dat (.bool (if neg then !ds.any fun z => PyData.eqv z a else ds.any fun z => PyData.eqv z a)) → rInA G.K neg v w H Q := fun {ds c} hcc hw hh ho => by
    subst ho
    rw [Bool.and_eq_true] at hh
    refine .inr ⟨a, ds, dq_dp (h1.dp e) (lay_of_shaped hh.1), hh.1, ?_, bv_dat e (.bl _) q⟩
    rcases hcc with rfl | rfl
    · exact .inl ⟨dq_dp (hw.dp e) (lay_of_shaped hh.2), hh.2⟩
    · exact .inr ⟨dq_dp (hw.dp e) (lay_of_shaped hh.2), hh.2⟩
  cases b with
  | list ds =>
    have h3' : (if (SeqAt.shaped a && SeqAt.shaped (.list ds)) = true then some (Rs.dat (.bool (if neg then !ds.any fun z => PyData.eqv z a else ds.any fun z => PyData.eqv z a))) else none) = some o := by cases a <;> exact h3
    split at h3'
    · next hh => cases h3'; exact seqs (.inl rfl) h2 hh rfl
    · cases h3'
  | tuple ds =>
    have h3' : (if (SeqAt.shaped a && SeqAt.shaped (.tuple ds)) = true then some (Rs.dat (.bool (if neg then !ds.any fun z => PyData.eqv z a else ds.any fun z => PyData.eqv z a))) else none) = some o := by cases a <;> exact h3
    split at h3'
    · next hh => cases h3'; exact seqs (.inr rfl) h2 hh rfl
    · cases h3'
  | str y =>
    cases a <;> first | (cases h3; done) | skip
    cases h3
    exact .inl ⟨_, _, h1.str, h2.str, bv_dat e (.bl _) q⟩
  | none => cases a <;> cases h3
  | bool _ => cases a <;> cases h3
  | int _ => cases a <;> cases h3
  | dict _ => cases a <;> cases h3
end
end Mw

set_option Elab.async false
set_option linter.all false
set_option maxRecDepth 100000
set_option autoImplicit false
namespace Mw
open PySem PySem.Spec PyProof.Rows L2

theorem PE.or {X : Cx} {e : Expr} {t u : TE} (h1 : PE X e t) (h2 : PE X e u) : PE X e (fun σ H Q => t σ H Q ∨ u σ H Q) :=
  ⟨fun pins s σ H Q I h => h.elim (h1.run pins s σ H Q I) (h2.run pins s σ H Q I)⟩
theorem PT.or {X : Cx} {e : Expr} {t u : TT} (h1 : PT X e t) (h2 : PT X e u) : PT X e (fun σ H Q => t σ H Q ∨ u σ H Q) :=
  ⟨fun pins s σ H Q I h => h.elim (h1.run pins s σ H Q I) (h2.run pins s σ H Q I)⟩
theorem PS.or {X : Cx} {e : Stmt} {t u : TS} (h1 : PS X e t) (h2 : PS X e u) : PS X e (fun D σ H => t D σ H ∨ u D σ H) :=
  ⟨fun pins s σ H Q I h => h.elim (h1.run pins s σ H Q I) (h2.run pins s σ H Q I)⟩

/-! ### dicts -/
def keyOf : Pd → Option Key
  | .int i => some (.inl i)
  | .str x => some (.inr x)
  | _ => none
theorem key_v {K : PySem.W.Frag} {F : Hp} {v : V} {d : Pd} {k : Key} (h : Dq K F v d) (e : keyOf d = some k) : v = kV k := by
  cases h <;> cases e <;> rfl
def valP (kvs : List (Key × Pd)) (k : Key) : Option Pd := (kvs.find? fun kv => decide (kv.1 = k)).map (·.2)
def putP (kvs : List (Key × Pd)) (k : Key) (d : Pd) : List (Key × Pd) :=
  if (kvs.any fun kv => decide (kv.1 = k)) = true then kvs.map (fun kv => if kv.1 = k then (kv.1, d) else kv) else kvs ++ [(k, d)]
section
variable {K : PySem.W.Frag} {F : Hp}
theorem kv_val {k : Key} : ∀ {ks : List (Key × V)} {kd : List (Key × Pd)}, DpKv K F ks kd → (valV ks k = none ∧ valP kd k = none) ∨ ∃ v d, valV ks k = some v ∧ valP kd k = some d ∧ Dq K F v d
  | _, _, .nil => .inl ⟨rfl, rfl⟩
  | _, _, .cons (a := p) (b := q) (l₁ := ps) (l₂ := qs) h t => by
    by_cases hk : q.1 = k
    · right
      refine ⟨p.2, q.2, ?_, ?_, h.2⟩
      · exact valV_pos (h.1.trans hk)
      · simp [valP, List.find?_cons, hk]
    · have e1 : valV (p :: ps) k = valV ps k := valV_neg fun z => hk (h.1.symm.trans z)
      have e2 : valP (q :: qs) k = valP qs k := by simp [valP, List.find?_cons, hk]
      rw [e1, e2]
      exact kv_val t
theorem kv_any {k : Key} : ∀ {ks : List (Key × V)} {kd : List (Key × Pd)}, DpKv K F ks kd → (ks.any fun kv => decide (kv.1 = k)) = kd.any fun kv => decide (kv.1 = k)
  | _, _, .nil => rfl
  | _, _, .cons h t => by
    rw [List.any_cons, List.any_cons, kv_any t, h.1]
theorem kv_map {k : Key} {v : V} {d : Pd} (hd : Dq K F v d) : ∀ {ks : List (Key × V)} {kd : List (Key × Pd)}, DpKv K F ks kd → DpKv K F (ks.map fun kv => if kv.1 = k then (kv.1, v) else kv) (kd.map fun kv => if kv.1 = k then (kv.1, d) else kv)
  | _, _, .nil => .nil
  | _, _, .cons (a := p) (b := q) h t => by
    refine .cons ?_ (kv_map hd t)
    dsimp only
    by_cases hk : q.1 = k
    · rw [if_pos (h.1.trans hk), if_pos hk]
      exact ⟨h.1, hd⟩
    · rw [if_neg fun z => hk (h.1.symm.trans z), if_neg hk]
      exact h
theorem kv_app : ∀ {ks ls : List (Key × V)} {kd ld : List (Key × Pd)}, DpKv K F ks kd → DpKv K F ls ld → DpKv K F (ks ++ ls) (kd ++ ld)
  | _, _, _, _, .nil, q => q
  | _, _, _, _, .cons h t, q => .cons h (kv_app t q)
theorem kv_put {k : Key} {v : V} {d : Pd} (hd : Dq K F v d) {ks : List (Key × V)} {kd : List (Key × Pd)} (h : DpKv K F ks kd) : DpKv K F (putK ks k v) (putP kd k d) := by
  unfold putK putP
  rw [kv_any h]
  split
  · exact kv_map hd h
  · exact kv_app h (.cons ⟨rfl, hd⟩ .nil)
theorem kv_len {ks : List (Key × V)} {kd : List (Key × Pd)} (h : DpKv K F ks kd) : ks.length = kd.length := Paired.length h
end

/-! ### an owned object changes -/
section
variable {G : Wd} {F H : Hp} {σ : L2.St} {ρ : En} {i : Nat} {a : Addr} {o o' : OB} {h' : HO}
theorem stp_mut (s : Sat G F H σ ρ) (h1 : ρ[i]? = some (some (.obj o))) (h2 : σ[i]? = some (some (.ref a))) (h3 : OKo G F a h' o') : Stp G F H σ ρ F (upd H a h') σ (ρ.set i (some (.obj o'))) := by
  obtain ⟨a', u, z1, z2, z3, z4⟩ := s.obj i o h1
  rw [h2] at z1
  cases z1
  have hil : i < ρ.length := (List.getElem?_eq_some_iff.mp h1).1
  have look : ∀ {j : Nat} {w : OB}, (ρ.set i (some (.obj o')))[j]? = some (some (.obj w)) → (j = i ∧ w = o') ∨ (j ≠ i ∧ ρ[j]? = some (some (.obj w))) := fun {j w} q => by
    rw [List.getElem?_set] at q
    by_cases hj : i = j
    · rw [if_pos hj, if_pos hil] at q
      cases q
      exact .inl ⟨hj.symm, rfl⟩
    · rw [if_neg hj] at q
      exact .inr ⟨fun z => hj z.symm, q⟩
  have was : ∀ {j : Nat} {w : OB}, (ρ.set i (some (.obj o')))[j]? = some (some (.obj w)) → ∃ w', ρ[j]? = some (some (.obj w')) := fun q =>
    (look q).elim (fun z => ⟨o, z.1 ▸ h1⟩) fun z => ⟨_, z.2⟩
  refine ⟨⟨fun b w q => ?_, by rw [List.length_set]; exact s.len, fun j d q => ?_, fun j w q => ?_, fun j l w y b q1 q2 q3 q4 => ?_⟩, Same.refl _, fun b w q nw => ?_, fun b q q' => absurd q q', fun b q => ?_, rfl, fun b q => ?_⟩
  · rw [upd_ne (ne_of_none q z2)]
    exact s.sub b w q
  · rw [List.getElem?_set] at q
    by_cases hj : i = j
    · rw [if_pos hj] at q
      split at q <;> cases q
    · rw [if_neg hj] at q
      exact s.dat j d q
  · rcases look q with ⟨rfl, rfl⟩ | ⟨hj, q⟩
    · exact ⟨a, h', h2, z2, upd_same, h3⟩
    · obtain ⟨b, y, y1, y2, y3, y4⟩ := s.obj j w q
      refine ⟨b, y, y1, y2, ?_, y4⟩
      rw [upd_ne (show b ≠ a from fun z => hj (s.sep j i w o a q h1 (z ▸ y1) h2))]
      exact y3
  · obtain ⟨w1, q1⟩ := was q1
    obtain ⟨w2, q2⟩ := was q2
    exact s.sep j l w1 w2 b q1 q2 q3 q4
  · rw [upd_ne (show b ≠ a from fun z => nw ⟨i, o, h1, z ▸ h2⟩)]
    exact q
  · obtain ⟨j, w, q1, q2⟩ := q
    obtain ⟨w1, q1⟩ := was q1
    exact .inl ⟨j, w1, q1, q2⟩
  · by_cases hb : b = a
    · rw [hb, upd_same] at q
      cases q
    · rw [upd_ne hb] at q
      exact q
end

/-! ### subscripts, also of dicts -/
section
variable {X : Cx} {a b e : Expr} {es : List Expr} {ma mb m : ME} {ms : MA} {pos p : Pos}
def dctAt (ρ : En) (r : Rs) : Option (List (Key × Pd)) := match r with
  | .slot i => match ρ[i]? with
    | some (some (.obj (.dct kvs))) => some kvs
    | _ => none
  | _ => none
theorem dct_ok {G : Wd} {F H : Hp} {σ : L2.St} {ρ : En} {v : V} {r : Rs} {kd : List (Key × Pd)} (s : Sat G F H σ ρ) (h : RepA G F σ v r) (e : dctAt ρ r = some kd) : ∃ i a ks, r = .slot i ∧ σ[i]? = some (some (.ref a)) ∧ ρ[i]? = some (some (.obj (.dct kd))) ∧ v = .ref a ∧ H a = some (.dK ks) ∧ DpKv G.K F ks kd := by
  cases r with
  | dat d => cases e
  | new o => cases e
  | slot i =>
    simp only [dctAt] at e
    split at e
    · next kvs w =>
      cases e
      obtain ⟨a, u, h1, h2, h3, ks, rfl, h4⟩ := s.obj i _ w
      have h' : σ[i]? = some (some v) := h
      rw [h1] at h'
      cases h'
      exact ⟨i, a, ks, rfl, h1, w, rfl, h3, h4⟩
    · cases e
def mSub (ma mb : ME) : ME := fun ρ => match mCons ma (mCons mb mNil) ρ with
  | some ([r1, r2], ρ1) => match dctAt ρ1 r1 with
    | some kd => match lookS ρ1 r2 with
      | some d => match keyOf d with
        | some k => match valP kd k with
          | some x => some (.dat x, ρ1)
          | none => none
        | none => none
      | none => none
    | none => match looks ρ1 [r1, r2] with
      | some [d1, d2] => match ixD d1 d2 with
        | some r => some (r, ρ1)
        | none => none
      | _ => none
  | _ => none
theorem vw_dq {G : Wd} {F H : Hp} {v : V} {d : Pd} {k : Key} (h : Vw G F H v d) (e : keyOf d = some k) : v = kV k := by
  rcases h with h | ⟨_, _, _, _, _, _, rfl⟩
  · exact key_v h e
  · cases e
theorem de_sub (hu : X.A.units + 1 < cLine) (ha : DE X a ma) (hb : DE X b mb) (hs : PlainIx b := by exact fun _ _ => rfl) : DE X (.Subscript a b pos) (mSub ma mb) := by
  obtain ⟨ta, ha, k⟩ := ha.ex
  obtain ⟨tb, hb, l⟩ := hb.ex
  refine ⟨_, PE.or (pe_dget hu ha hb hs) (pe_ix ix_all ha hb hs), fun σ H F ρ o ρ' Q s e q => ?_⟩
  unfold mSub at e
  split at e
  · next r1 r2 ρ1 e1 =>
    obtain ⟨s1, ρ0, s1', rs1, g1, g2, g3, g4⟩ := mCons_some e1
    obtain ⟨s2, ρ00, s2', rs2, g5, g6, g7, g8⟩ := mCons_some g3
    cases g7
    rw [g8] at g4
    cases g4
    have run : ∀ (R : V → V → Hp → Prop), (∀ v w F4 H4, Stp (wd X) F H σ ρ F4 H4 σ ρ1 → RepA (wd X) F4 σ v r1 → RepA (wd X) F4 σ w r2 → R v w H4) → ta σ H fun v H1 => tb σ H1 fun w H2 => R v w H2 := fun R hR => by
      refine k σ H F ρ s1 ρ0 _ s g1 fun v F1 H1 x1 y1 => ?_
      obtain ⟨F2, x2, m2, y2⟩ := frz1_ok x1 y1 g2
      refine l σ H1 F2 ρ0 s2 _ _ x2.sat g5 fun w F3 H3 x3 y3 => ?_
      obtain ⟨F4, x4, m4, y4⟩ := frz1_ok x3 y3 g6
      exact hR v w F4 H3 (x2.trans x4) (y2.mono x4.ext) y4
    split at e
    · next kd e2 =>
      split at e
      · next d e3 =>
        split at e
        · next kk e4 =>
          split at e
          · next x e5 =>
            cases e
            refine .inl (run _ fun v w F4 H4 x4 y1 y2 => ?_)
            obtain ⟨i, a', ks, _, _, _, rfl, z1, z2⟩ := dct_ok x4.sat y1 e2
            have hw := vw_dq (vw_of x4.sat y2 e3) e4
            subst hw
            rcases kv_val (k := kk) z2 with ⟨_, w2⟩ | ⟨vv, dd, w1, w2, w3⟩
            · rw [e5] at w2; cases w2
            · rw [e5] at w2
              cases w2
              refine ⟨a', vv, rfl, ?_, q vv F4 H4 x4 w3⟩
              rw [← w1]
              exact DGet.k z1
          · cases e
        · cases e
      · cases e
    · next e2 =>
      split at e
      · next d1 d2 e3 =>
        split at e
        · next r e4 =>
          cases e
          refine .inr (run _ fun v w F4 H4 x4 y1 y2 => ?_)
          obtain ⟨_, _, e0, z⟩ := pure_run (b2_ix (G := wd X)).l x4 (.cons y1 (.cons y2 .nil)) e3 (show f2 ixD [d1, d2] = some _ from e4) q
          cases e0
          exact z
        · cases e
      · cases e
  · cases e

/-! ### in, not in, also of dicts and sets -/
def setAt (ρ : En) (r : Rs) : Option ((Key → Bool) × Nat) := match r with
  | .slot i => match ρ[i]? with
    | some (some (.obj (.set S n))) => some (S, n)
    | _ => none
  | _ => none
theorem set_ok {G : Wd} {F H : Hp} {σ : L2.St} {ρ : En} {v : V} {r : Rs} {S : Key → Bool} {n : Nat} (s : Sat G F H σ ρ) (h : RepA G F σ v r) (e : setAt ρ r = some (S, n)) : ∃ i a, r = .slot i ∧ σ[i]? = some (some (.ref a)) ∧ ρ[i]? = some (some (.obj (.set S n))) ∧ v = .ref a ∧ H a = some (SetK G.P G.w a S n) := by
  cases r with
  | dat d => cases e
  | new o => cases e
  | slot i =>
    simp only [setAt] at e
    split at e
    · next S' n' w =>
      cases e
      obtain ⟨a, u, h1, h2, h3, h4⟩ := s.obj i _ w
      have h' : σ[i]? = some (some v) := h
      rw [h1] at h'
      cases h'
      have h4' : u = SetK G.P G.w a S n := h4
      subst h4'
      exact ⟨i, a, rfl, h1, w, rfl, h3⟩
    · cases e
def mIn (neg : Bool) (ma mb : ME) : ME := fun ρ => match mCons ma (mCons mb mNil) ρ with
  | some ([r1, r2], ρ1) => match dctAt ρ1 r2 with
    | some kd => match lookS ρ1 r1 with
      | some d => match keyOf d with
        | some k => some (.dat (.bool (if neg then !(valP kd k).isSome else (valP kd k).isSome)), ρ1)
        | none => none
      | none => none
    | none => match setAt ρ1 r2 with
      | some (S, _) => match lookS ρ1 r1 with
        | some d => match keyOf d with
          | some k => some (.dat (.bool (if neg then !S k else S k)), ρ1)
          | none => none
        | none => none
      | none => match looks ρ1 [r1, r2] with
        | some [d1, d2] => match inD neg d1 d2 with
          | some r => some (r, ρ1)
          | none => none
        | _ => none
  | _ => none
def rInAll (P : Program) (w : World) (K : PySem.W.Frag) (neg : Bool) : R2 := fun x y H Q => (∃ a o, y = .ref a ∧ DGet H a x o ∧ Q (.bl (if neg then !o.isSome else o.isSome)) H) ∨ rSInK P w neg x y H Q ∨ rInA K neg x y H Q
theorem op_din (hu : X.A.units + 1 < cLine) : OpR X (compareOp .In) (fun x y H Q => ∃ a o, y = .ref a ∧ DGet H a x o ∧ Q (.bl o.isSome) H) := by
  intro pins s σ H x y v u Q I rx ry h
  obtain ⟨a, o, rfl, g, q⟩ := h
  obtain rfl : u = Value.ref a := ry
  exact d_in hu I g rx fun s3 I3 => ⟨.bl o.isSome, H, I3, rfl, q⟩
theorem op_dnin (hu : X.A.units + 1 < cLine) : OpR X (compareOp .NotIn) (fun x y H Q => ∃ a o, y = .ref a ∧ DGet H a x o ∧ Q (.bl (!o.isSome)) H) := by
  intro pins s σ H x y v u Q I rx ry h
  obtain ⟨a, o, rfl, g, q⟩ := h
  obtain rfl : u = Value.ref a := ry
  exact d_notIn hu I g rx fun s3 I3 => ⟨.bl (!o.isSome), H, I3, rfl, q⟩
theorem op_inAll (hu : X.A.units + 65 < cLine) : OpR X (compareOp .In) (rInAll X.prog X.w X.K false) := OpR.or (op_din (by omega)) (OpR.or or_sinK (op_inA hu))
theorem op_ninAll (hu : X.A.units + 65 < cLine) : OpR X (compareOp .NotIn) (rInAll X.prog X.w X.K true) := OpR.or (op_dnin (by omega)) (OpR.or or_snotinK (op_ninA hu))
theorem in_run {neg : Bool} (ha : DE X a ma) (hb : DE X b mb) : ∃ ta tb : TE, PE X a ta ∧ PE X b tb ∧ ∀ (σ : L2.St) (H F : Hp) (ρ : En) (o : Rs) (ρ' : En) (Q : VK), Sat (wd X) F H σ ρ → mIn neg ma mb ρ = some (o, ρ') →
    (∀ v F' H', Stp (wd X) F H σ ρ F' H' σ ρ' → RepR (wd X) F' H' σ ρ' H v o → Q v H') → tOp (rInAll X.prog X.w X.K neg) ta tb σ H Q := by
  obtain ⟨ta, ha, k⟩ := ha.ex
  obtain ⟨tb, hb, l⟩ := hb.ex
  refine ⟨ta, tb, ha, hb, fun σ H F ρ o ρ' Q s e q => ?_⟩
  unfold mIn at e
  split at e
  · next r1 r2 ρ1 e1 =>
    obtain ⟨s1, ρ0, s1', rs1, g1, g2, g3, g4⟩ := mCons_some e1
    obtain ⟨s2, ρ00, s2', rs2, g5, g6, g7, g8⟩ := mCons_some g3
    cases g7
    rw [g8] at g4
    cases g4
    refine k σ H F ρ s1 ρ0 _ s g1 fun v F1 H1 x1 y1 => ?_
    obtain ⟨F2, x2, m2, y2⟩ := frz1_ok x1 y1 g2
    refine l σ H1 F2 ρ0 s2 _ _ x2.sat g5 fun w F3 H3 x3 y3 => ?_
    obtain ⟨F4, x4, m4, y4⟩ := frz1_ok x3 y3 g6
    have x5 := x2.trans x4
    have y1' := y2.mono x4.ext
    split at e
    · next kd e2 =>
      split at e
      · next d e3 =>
        split at e
        · next kk e4 =>
          cases e
          obtain ⟨i, a', ks, _, _, _, rfl, z1, z2⟩ := dct_ok x4.sat y4 e2
          have hv := vw_dq (vw_of x4.sat y1' e3) e4
          subst hv
          refine .inl ⟨a', valV ks kk, rfl, DGet.k z1, ?_⟩
          have es : (valV ks kk).isSome = (valP kd kk).isSome := by
            rcases kv_val (k := kk) z2 with ⟨w1, w2⟩ | ⟨vv, dd, w1, w2, w3⟩ <;> rw [w1, w2] <;> rfl
          rw [es]
          exact q _ F4 H3 x5 (Dq.bl _)
        · cases e
      · cases e
    · split at e
      · next S n e2 =>
        split at e
        · next d e3 =>
          split at e
          · next kk e4 =>
            cases e
            obtain ⟨i, a', _, _, _, rfl, z1⟩ := set_ok x4.sat y4 e2
            have hv := vw_dq (vw_of x4.sat y1' e3) e4
            subst hv
            exact .inr (.inl ⟨kk, a', S, n, rfl, rfl, z1, q _ F4 H3 x5 (Dq.bl _)⟩)
          · cases e
        · cases e
      · split at e
        · next d1 d2 e3 =>
          split at e
          · next r e4 =>
            cases e
            obtain ⟨_, _, e0, z⟩ := pure_run (b2_in (G := wd X)).l x5 (.cons y1' (.cons y4 .nil)) e3 (show f2 (inD neg) [d1, d2] = some _ from e4) q
            cases e0
            exact .inr (.inr z)
          · cases e
        · cases e
  · cases e
theorem de_in (hu : X.A.units + 65 < cLine) (ha : DE X a ma) (hb : DE X b mb) (hm : behindInMarks .In b = false := by rfl) : DE X (.Compare a [.In] [b] pos) (mIn false ma mb) := by
  obtain ⟨ta, tb, h1, h2, k⟩ := in_run ha hb
  exact ⟨_, pe_cmpR (op_inAll hu) h1 h2 hm, k⟩
theorem de_notIn (hu : X.A.units + 65 < cLine) (ha : DE X a ma) (hb : DE X b mb) (hm : behindInMarks .NotIn b = false := by rfl) : DE X (.Compare a [.NotIn] [b] pos) (mIn true ma mb) := by
  obtain ⟨ta, tb, h1, h2, k⟩ := in_run ha hb
  exact ⟨_, pe_cmpR (op_ninAll hu) h1 h2 hm, k⟩
theorem dt_in (hu : X.A.units + 65 < cLine) (ha : DE X a ma) (hb : DE X b mb) (hm : behindInMarks .In b = false := by rfl) : DT X (.Compare a [.In] [b] pos) (mB (mIn false ma mb)) := by
  obtain ⟨ta, tb, h1, h2, k⟩ := in_run ha hb
  refine ⟨_, pt_cmpR (op_inAll hu) h1 h2 hm, fun σ H F ρ z ρ' Q s e q => ?_⟩
  refine k σ H F ρ _ ρ' _ s (mB_some e) fun v F' H' x y => ?_
  have y' : Dq X.K F' v (.bool z) := y
  cases y'
  exact ⟨z, rfl, q F' H' x⟩
theorem dt_notIn (hu : X.A.units + 65 < cLine) (ha : DE X a ma) (hb : DE X b mb) (hm : behindInMarks .NotIn b = false := by rfl) : DT X (.Compare a [.NotIn] [b] pos) (mB (mIn true ma mb)) := by
  obtain ⟨ta, tb, h1, h2, k⟩ := in_run ha hb
  refine ⟨_, pt_cmpR (op_ninAll hu) h1 h2 hm, fun σ H F ρ z ρ' Q s e q => ?_⟩
  refine k σ H F ρ _ ρ' _ s (mB_some e) fun v F' H' x y => ?_
  have y' : Dq X.K F' v (.bool z) := y
  cases y'
  exact ⟨z, rfl, q F' H' x⟩
end
end Mw

set_option Elab.async false
set_option linter.all false
set_option maxRecDepth 100000
set_option autoImplicit false
namespace Mw
open PySem PySem.Spec PyProof.Rows L2
section
variable {X : Cx} {B : List Nat} {a b e x i : Expr} {es : List Expr} {ma mb m me mx mi : ME} {ms : MA} {pos pos' p apos cpos : Pos}

/-! ### x[i] = e -/
def setItemAt (ρ : En) (j : Nat) (di d : Pd) : Option En := match ρ[j]? with
  | some (some (.obj (.lst xs))) => match di with
    | .int k => match ixN xs.length k with
      | some n => some (ρ.set j (some (.obj (.lst (xs.set n d)))))
      | none => none
    | _ => none
  | some (some (.obj (.dct kvs))) => match keyOf di with
    | some k => if kvs.length < sizeLine then some (ρ.set j (some (.obj (.dct (putP kvs k d))))) else none
    | none => none
  | _ => none
def mSetI (me mx mi : ME) : MS := fun ρ => match me ρ with
  | some (r, ρ1) => match toD r ρ1 with
    | some (d, ρ2) => match mx ρ2 with
      | some (.slot j, ρ3) => match mi ρ3 with
        | some (.dat di, ρ4) => match setItemAt ρ4 j di d with
          | some ρ5 => some (.next, ρ5)
          | none => none
        | _ => none
      | _ => none
    | none => none
  | none => none
theorem ds_setI (hu : X.A.units + 1 < cLine) (he : DE X e me) (hx : DE X x mx) (hi : DE X i mi) (hs : swapsWithSole [.Subscript x i pos'] e pos.line X.env = pure false := by rfl) (hw : swappedStores [.Subscript x i pos'] e X.env = pure none := by rfl)
    (h1 : (assignEach [.Subscript x i pos'] X.env).map (·.2) = [assign (.Subscript x i pos') X.env] := by rfl) (hs2 : swapsWith e (some (.Subscript x i pos')) pos.line X.env = pure false := by rfl)
    (hasg : ∀ v, assign (.Subscript x i pos') X.env v = (do
      let ov ← holding [v] (eval x X.env)
      let iv ← holding [v, ov] (eval i X.env)
      standAt pos'
      holding [v, ov, iv] (setItem ov iv v)
      release [v, ov, iv] []) := by intro _; rfl) : DS X B (.Assign [.Subscript x i pos'] e pos) (mSetI me mx mi) := by
  obtain ⟨te, h1', ke⟩ := he.ex
  obtain ⟨tx, h2, kx⟩ := hx.ex
  obtain ⟨ti, h3, ki⟩ := hi.ex
  refine ⟨_, PS.or (ps_asg h1' (pg_sub h2 h3 set_list hasg) hs hw h1) (ps_dput hu h2 h3 h1' hs2), fun σ H F ρ fl ρ' D s e q => ?_⟩
  unfold mSetI at e
  split at e
  · next r ρ1 e1 =>
    split at e
    · next d ρ2 e2 =>
      split at e
      · next j ρ3 e3 =>
        split at e
        · next di ρ4 e4 =>
          split at e
          · next ρ5 e5 =>
            cases e
            have run : ∀ (R : V → V → V → Hp → Prop), (∀ v o k F4 H4 F0, Stp (wd X) F H σ ρ F4 H4 σ ρ4 → Dq X.K F4 v d → σ[j]? = some (some o) → Dq X.K F4 k di → R v o k H4) → te σ H fun v H1 => tx σ H1 fun o H2 => ti σ H2 fun k H3 => R v o k H3 := fun R hR => by
              refine ke σ H F ρ r ρ1 _ s e1 fun v F1 H1 x1 y1 => ?_
              obtain ⟨F2, x2, m2, y2⟩ := toD_ok x1 y1 e2
              refine kx σ H1 F2 ρ2 _ ρ3 _ x2.sat e3 fun o F3 H3 x3 y3 => ?_
              refine ki σ H3 F3 ρ3 _ ρ4 _ x3.sat e4 fun k F4 H4 x4 y4 => ?_
              exact hR v o k F4 H4 F4 ((x2.trans x3).trans x4) (dp_mono (x3.ext.trans x4.ext) y2) y3 y4
            unfold setItemAt at e5
            split at e5
            · next xs w =>
              split at e5
              · next kk =>
                split at e5
                · next n w2 =>
                  cases e5
                  refine .inl (run _ fun v o k F4 H4 F0 x4 y1 y2 y3 => ?_)
                  obtain ⟨a', u, z1, z2, z3, vs, rfl, z4⟩ := x4.sat.obj j _ w
                  rw [z1] at y2
                  cases y2
                  cases y3
                  refine ⟨a', vs, kk, n, rfl, rfl, z3, by rw [dpAll_len z4]; exact w2, ?_⟩
                  have z5 := stp_mut (h' := .lst (vs.set n v)) (o' := .lst (xs.set n d)) x4.sat w z1 ⟨_, rfl, dpAll_set y1 n z4⟩
                  exact q σ F4 _ (x4.trans z5) .refl
                · cases e5
              · cases e5
            · next kvs w =>
              split at e5
              · next kk w2 =>
                split at e5
                · next hl =>
                  cases e5
                  refine .inr (run _ fun v o k F4 H4 F0 x4 y1 y2 y3 => ?_)
                  obtain ⟨a', u, z1, z2, z3, ks, rfl, z4⟩ := x4.sat.obj j _ w
                  rw [z1] at y2
                  cases y2
                  have hk := key_v y3 w2
                  subst hk
                  refine ⟨a', _, rfl, DPut.k z3 (by rw [kv_len z4]; exact hl), ?_⟩
                  have z5 := stp_mut (h' := .dK (putK ks kk v)) (o' := .dct (putP kvs kk d)) x4.sat w z1 ⟨_, rfl, kv_put y1 z4⟩
                  exact q σ F4 _ (x4.trans z5) .refl
                · cases e5
              · cases e5
            · cases e5
          · cases e
        · cases e
      · cases e
    · cases e
  · cases e

/-! ### methods that change a list -/
/-- what a method makes of the list and of what it is handed: the answer, the list behind it -/
abbrev FMu := List Pd → List Pd → Option (Pd × List Pd)
def MuOk (G : Wd) (r : V → List V → Hp → VK → Prop) (f : FMu) : Prop := ∀ (F H : Hp) (l : Addr) (vs avs : List V) (xs as : List Pd) (d : Pd) (ys : List Pd) (Q : VK), H l = some (.lst vs) → DqAll G.K F vs xs → DqAll G.K F avs as → Same F H → F l = none → f xs as = some (d, ys) →
  (∀ v ws, Dq G.K F v d → DqAll G.K F ws ys → Q v (upd H l (.lst ws))) → r (.ref l) avs H Q
def lstAt (ρ : En) (j : Nat) : Option (List Pd) := match ρ[j]? with
  | some (some (.obj (.lst xs))) => some xs
  | _ => none
theorem lstAt_some {ρ : En} {j : Nat} {xs : List Pd} (h : lstAt ρ j = some xs) : ρ[j]? = some (some (.obj (.lst xs))) := by
  unfold lstAt at h
  split at h
  · next q => cases h; exact q
  · cases h
def mMeth (f : FMu) (mo : ME) (ms : MA) : ME := fun ρ => match mo ρ with
  | some (.slot j, ρ1) => match lstAt ρ1 j with
    | some _ => match ms ρ1 with
      | some (rs, ρ2) => match escAll rs ρ2 with
        | some (as, ρ3) => match lstAt ρ3 j with
          | some xs => match f xs as with
            | some (d, ys) => some (.dat d, ρ3.set j (some (.obj (.lst ys))))
            | none => none
          | none => none
        | none => none
      | none => none
    | none => none
  | _ => none
theorem mMeth_some {f : FMu} {mo : ME} {ms : MA} {ρ : En} {r : Rs} {ρ' : En} (e : mMeth f mo ms ρ = some (r, ρ')) : ∃ j ρ1 zs rs ρ2 as ρ3 xs d ys, mo ρ = some (.slot j, ρ1) ∧ ρ1[j]? = some (some (.obj (.lst zs))) ∧ ms ρ1 = some (rs, ρ2) ∧ escAll rs ρ2 = some (as, ρ3) ∧ ρ3[j]? = some (some (.obj (.lst xs))) ∧ f xs as = some (d, ys) ∧ r = .dat d ∧ ρ' = ρ3.set j (some (.obj (.lst ys))) := by
  unfold mMeth at e
  split at e
  · next j ρ1 e1 =>
    split at e
    · next zs e0 =>
      split at e
      · next rs ρ2 e2 =>
        split at e
        · next as ρ3 e3 =>
          split at e
          · next xs e4 =>
            split at e
            · next d ys e5 =>
              cases e
              exact ⟨j, ρ1, zs, rs, ρ2, as, ρ3, xs, d, ys, e1, lstAt_some e0, e2, e3, lstAt_some e4, e5, rfl, rfl⟩
            · cases e
          · cases e
        · cases e
      · cases e
    · cases e
  · cases e
theorem meth_run {f : FMu} {r : V → List V → Hp → VK → Prop} {to : TE} {t : TA} (hf : MuOk (wd X) r f)
    (ko : ∀ (σ : L2.St) (H F : Hp) (ρ : En) (r : Rs) (ρ' : En) (Q : VK), Sat (wd X) F H σ ρ → m ρ = some (r, ρ') → (∀ v F' H', Stp (wd X) F H σ ρ F' H' σ ρ' → RepR (wd X) F' H' σ ρ' H v r → Q v H') → to σ H Q)
    (ka : ∀ (σ : L2.St) (H F : Hp) (ρ : En) (rs : List Rs) (ρ' : En) (Q : List V → Hp → Prop), Sat (wd X) F H σ ρ → ms ρ = some (rs, ρ') → (∀ vs F' H', Stp (wd X) F H σ ρ F' H' σ ρ' → Paired (RepA (wd X) F' σ) vs rs → Q vs H') → t σ H Q) :
    ∀ (σ : L2.St) (H F : Hp) (ρ : En) (o : Rs) (ρ' : En) (Q : VK), Sat (wd X) F H σ ρ → mMeth f m ms ρ = some (o, ρ') → (∀ v F' H', Stp (wd X) F H σ ρ F' H' σ ρ' → RepR (wd X) F' H' σ ρ' H v o → Q v H') → tBM X.K "list" r to t σ H Q := by
  intro σ H F ρ o ρ' Q s e q
  obtain ⟨j, ρ1, zs, rs, ρ2, as, ρ3, xs, d, ys, e1, w1, e2, e3, e4, e5, rfl, rfl⟩ := mMeth_some e
  refine ko σ H F ρ _ ρ1 _ s e1 fun v F1 H1 x1 y1 => ?_
  have hv : σ[j]? = some (some v) := y1
  obtain ⟨l, u, z1, z2, z3, vs, rfl, z4⟩ := x1.sat.obj j _ w1
  rw [z1] at hv
  cases hv
  refine ⟨.inl ⟨rfl, vs, SqL.of z3⟩, ?_⟩
  refine ka σ H1 F1 ρ1 rs ρ2 _ x1.sat e2 fun avs F2 H2 x2 y2 => ?_
  obtain ⟨F3, x3, m3, y3⟩ := escAll_ok x2.sat y2 e3
  obtain ⟨l', u', g1, g2, g3, ws, rfl, g4⟩ := x3.sat.obj j _ e4
  rw [z1] at g1
  cases g1
  refine hf F3 H2 l ws avs xs as d ys Q g3 g4 y3 x3.sat.sub g2 e5 fun v' ws' k1 k2 => ?_
  have x4 := stp_mut (h' := .lst ws') (o' := .lst ys) x3.sat e4 z1 ⟨_, rfl, k2⟩
  exact q v' F3 _ (((x1.trans x2).trans x3).trans x4) k1
theorem de_meth {o : Expr} {name : Str} {id : String} {f : FMu} {r : V → List V → Hp → VK → Prop} (slot : Slot "list" name id) (hty : typeOf (.builtin id) = pure (.type "method_descriptor")) (hm : MtR X id r) (hf : MuOk (wd X) r f) (ho : DE X o m) (ha : DA X (e :: es) ms)
    (hbase : attributeBase o name X.env (eval o X.env) = eval o X.env := by rfl)
    (hfew : ((backTo cpos (starEach (e :: es) X.env)).all (fun x => !x.1) && (backToKw cpos (keywordEach [] X.env)).all (fun x => x.1.isSome)
      && decide ((e :: es).length + ([] : List Keyword).length + (if ([] : List Keyword).isEmpty then 0 else 1) < 30)) = true := by rfl)
    (hline : (apos.endLine == cpos.line) = true := by rfl) (hs : starEach (e :: es) X.env = (false, eval e X.env) :: starEach es X.env := by rfl) (hplain : (backTo cpos (starEach es X.env)).any (·.1) = false := by rfl) :
    DE X (.Call (.Attribute o name apos) (e :: es) [] cpos) (mMeth f m ms) := by
  obtain ⟨to, h1, ko⟩ := ho.ex
  obtain ⟨t, h2, ka⟩ := ha.ex
  exact ⟨_, pe_bm PySem.F.plainAttrs_list slot hty hm h1 h2 hbase hfew hline hs hplain, meth_run hf ko ka⟩
theorem de_meth0 {o : Expr} {name : Str} {id : String} {f : FMu} {r : V → List V → Hp → VK → Prop} (slot : Slot "list" name id) (hty : typeOf (.builtin id) = pure (.type "method_descriptor")) (hm : MtR X id r) (hf : MuOk (wd X) r f) (ho : DE X o m)
    (hbase : attributeBase o name X.env (eval o X.env) = eval o X.env := by rfl) (hline : (apos.endLine == cpos.line) = true := by rfl) :
    DE X (.Call (.Attribute o name apos) [] [] cpos) (mMeth f m mNil) := by
  obtain ⟨to, h1, ko⟩ := ho.ex
  refine ⟨_, pe_bm0 PySem.F.plainAttrs_list slot hty hm h1 hbase hline, fun σ H F ρ o ρ' Q s e q => ?_⟩
  have z := meth_run (X := X) (t := tNil) (ms := mNil) hf ko (fun σ H F ρ rs ρ' Q s e q => by
    cases e
    exact q [] F H (.refl s) .nil) σ H F ρ o ρ' Q s e q
  exact z
def fAppend : FMu
  | xs, [d] => if xs.length < sizeLine then some (.none, xs ++ [d]) else none
  | _, _ => none
theorem mu_append {G : Wd} : MuOk G rAppend fAppend := fun F H l vs avs xs as d ys Q h1 h2 h3 h4 h5 h6 q => by
  cases h3 with
  | nil => cases h6
  | cons a1 a2 => cases a2 with
    | cons _ _ => cases h6
    | nil =>
      simp only [fAppend] at h6
      split at h6
      · next hl =>
        cases h6
        exact ⟨l, vs, _, rfl, rfl, h1, by rw [dpAll_len h2]; exact hl, q .non _ .non (dpAll_app h2 (.cons a1 .nil))⟩
      · cases h6
theorem de_append {o : Expr} (ho : DE X o m) (ha : DE X e me) (hst : starEach [e] X.env = (false, eval e X.env) :: starEach [] X.env := by rfl) (hbase : attributeBase o "append" X.env (eval o X.env) = eval o X.env := by rfl)
    (hfew : ((backTo cpos (starEach [e] X.env)).all (fun x => !x.1) && (backToKw cpos (keywordEach [] X.env)).all (fun x => x.1.isSome)
      && decide ([e].length + ([] : List Keyword).length + (if ([] : List Keyword).isEmpty then 0 else 1) < 30)) = true := by rfl)
    (hline : (apos.endLine == cpos.line) = true := by rfl) (hplain : (backTo cpos (starEach [] X.env)).any (·.1) = false := by rfl) :
    DE X (.Call (.Attribute o "append" apos) [e] [] cpos) (mMeth fAppend m (mCons me mNil)) :=
  de_meth PySem.F.slot_list_append PySem.F.type_list_append mt_append mu_append ho (da_cons ha da_nil hst) hbase hfew hline hst hplain
def fPop : FMu
  | xs, [] => match xs[xs.length - 1]? with
    | some d => some (d, xs.dropLast)
    | none => none
  | _, _ => none
theorem dpAll_dropLast {K : PySem.W.Frag} {F : Hp} {vs : List V} {ds : List Pd} (h : DqAll K F vs ds) : DqAll K F vs.dropLast ds.dropLast := by
  rw [List.dropLast_eq_take, List.dropLast_eq_take, dpAll_len h]
  exact dpAll_take _ h
theorem mu_pop {G : Wd} : MuOk G rPop fPop := fun F H l vs avs xs as d ys Q h1 h2 h3 h4 h5 h6 q => by
  cases h3 with
  | cons _ _ => cases h6
  | nil =>
    simp only [fPop] at h6
    split at h6
    · next d' hd =>
      cases h6
      obtain ⟨v, w1, w2⟩ := dpAll_get h2 hd
      exact ⟨l, vs, v, rfl, rfl, h1, by rw [dpAll_len h2]; exact w1, q v _ w2 (dpAll_dropLast h2)⟩
    · cases h6
theorem de_pop {o : Expr} (ho : DE X o m) (hbase : attributeBase o "pop" X.env (eval o X.env) = eval o X.env := by rfl) (hline : (apos.endLine == cpos.line) = true := by rfl) :
    DE X (.Call (.Attribute o "pop" apos) [] [] cpos) (mMeth fPop m mNil) := de_meth0 PySem.F.slot_list_pop PySem.F.type_list_pop mt_pop mu_pop ho hbase hline
def fPopAt : FMu
  | xs, [.int i] => if -(2 ^ 63) ≤ i ∧ i < 2 ^ 63 then (match seqIndex? i xs.length with
    | some k => match xs[k]? with
      | some d => some (d, xs.eraseIdx k)
      | none => none
    | none => none) else none
  | _, _ => none
theorem dpAll_erase {K : PySem.W.Frag} {F : Hp} : ∀ (k : Nat) {vs : List V} {ds : List Pd}, DqAll K F vs ds → DqAll K F (vs.eraseIdx k) (ds.eraseIdx k)
  | _, _, _, .nil => .nil
  | 0, _, _, .cons _ q => q
  | k + 1, _, _, .cons h q => .cons h (dpAll_erase k q)
theorem mu_popAt {G : Wd} : MuOk G rPopAt fPopAt := fun F H l vs avs xs as d ys Q h1 h2 h3 h4 h5 h6 q => by
  cases h3 with
  | nil => cases h6
  | cons a1 a2 => cases a2 with
    | cons _ _ =>
      cases a1 <;> cases h6
    | nil =>
      cases a1 <;> first | (cases h6; done) | skip
      simp only [fPopAt] at h6
      split at h6
      · next hb =>
        split at h6
        · next k hk =>
          split at h6
          · next d' hd =>
            cases h6
            obtain ⟨v, w1, w2⟩ := dpAll_get h2 hd
            exact ⟨l, vs, _, k, v, rfl, rfl, h1, hb.1, hb.2, by rw [dpAll_len h2]; exact hk, w1, q v _ w2 (dpAll_erase k h2)⟩
          · cases h6
        · cases h6
      · cases h6
theorem de_popAt {o : Expr} (ho : DE X o m) (ha : DE X e me) (hst : starEach [e] X.env = (false, eval e X.env) :: starEach [] X.env := by rfl) (hbase : attributeBase o "pop" X.env (eval o X.env) = eval o X.env := by rfl)
    (hfew : ((backTo cpos (starEach [e] X.env)).all (fun x => !x.1) && (backToKw cpos (keywordEach [] X.env)).all (fun x => x.1.isSome)
      && decide ([e].length + ([] : List Keyword).length + (if ([] : List Keyword).isEmpty then 0 else 1) < 30)) = true := by rfl)
    (hline : (apos.endLine == cpos.line) = true := by rfl) (hplain : (backTo cpos (starEach [] X.env)).any (·.1) = false := by rfl) :
    DE X (.Call (.Attribute o "pop" apos) [e] [] cpos) (mMeth fPopAt m (mCons me mNil)) :=
  de_meth PySem.F.slot_list_pop PySem.F.type_list_pop mt_popAt mu_popAt ho (da_cons ha da_nil hst) hbase hfew hline hst hplain
def fReverse : FMu
  | xs, [] => some (.none, xs.reverse)
  | _, _ => none
theorem mu_reverse {G : Wd} : MuOk G rReverse fReverse := fun F H l vs avs xs as d ys Q h1 h2 h3 h4 h5 h6 q => by
  cases h3 with
  | cons _ _ => cases h6
  | nil =>
    cases h6
    exact ⟨l, vs, rfl, rfl, h1, q .non _ .non (dpAll_rev h2)⟩
theorem de_reverse {o : Expr} (ho : DE X o m) (hbase : attributeBase o "reverse" X.env (eval o X.env) = eval o X.env := by rfl) (hline : (apos.endLine == cpos.line) = true := by rfl) :
    DE X (.Call (.Attribute o "reverse" apos) [] [] cpos) (mMeth fReverse m mNil) := de_meth0 PySem.F.slot_list_reverse PySem.F.type_list_reverse mt_reverse mu_reverse ho hbase hline
end
end Mw

set_option Elab.async false
set_option linter.all false
set_option maxRecDepth 100000
set_option autoImplicit false
namespace Mw
open PySem PySem.Spec PyProof.Rows L2

/-! ### a, b = e1, e2 -/
section
variable {G : Wd} {F H F1 H1 : Hp} {σ : L2.St} {ρ ρ1 : En}
/-- a result stays what it is while others are reckoned -/
theorem repR_stp {H0 : Hp} {v : V} {r : Rs} (h : RepR G F H σ ρ H0 v r) (x : Stp G F H σ ρ F1 H1 σ ρ1) : RepR G F1 H1 σ ρ1 H0 v r := by
  cases r with
  | dat d => exact dp_mono x.ext h
  | slot i => exact h
  | new o =>
    obtain ⟨p, u, e, h1, h2, h3, h4, h5⟩ := h
    refine ⟨p, u, e, ?_, x.frm p u h2 h5, h3.mono x.ext, h4, fun z => ?_⟩
    · cases w : F1 p with
      | none => rfl
      | some y =>
        rcases x.new p h1 (by rw [w]; exact nofun) with z | z
        · rw [h2] at z; cases z
        · exact absurd z h5
    · rcases x.own p z with w | w
      · exact h5 w
      · rw [h2] at w; cases w
end
/-- the objects of slots as data, new ones as they are -/
def noSlot (r : Rs) (ρ : En) : Option (Rs × En) := match r with
  | .slot i => match esc (.slot i) ρ with
    | some (d, ρ1) => some (.dat d, ρ1)
    | none => none
  | r => some (r, ρ)
theorem noSlot_ok {G : Wd} {F H H0 : Hp} {σ : L2.St} {ρ ρ' : En} {v : V} {r r' : Rs} (s : Sat G F H σ ρ) (h : RepR G F H σ ρ H0 v r) (e : noSlot r ρ = some (r', ρ')) : ∃ F', Stp G F H σ ρ F' H σ ρ' ∧ RepR G F' H σ ρ' H0 v r' ∧ ∀ i, r' ≠ .slot i := by
  cases r with
  | dat d =>
    cases e
    exact ⟨F, .refl s, h, fun i => nofun⟩
  | new o =>
    cases e
    exact ⟨F, .refl s, h, fun i => nofun⟩
  | slot i =>
    simp only [noSlot] at e
    split at e
    · next d ρ1 e1 =>
      cases e
      obtain ⟨F2, x2, m2, y2⟩ := esc_ok (r := .slot i) s h e1
      exact ⟨F2, x2, y2, fun i => nofun⟩
    · cases e
def setN (i : Nat) (r : Rs) (ρ : En) : Option En := match r with
  | .new o => if i < ρ.length then some (ρ.set i (some (.obj o))) else none
  | .dat d => some (ρ.set i (some (.dat d)))
  | .slot _ => none
def mPar2 (i j : Nat) (ma mb : ME) : MS := fun ρ => match ma ρ with
  | some (r1, ρ1) => match mb ρ1 with
    | some (r2, ρ2) => match noSlot r1 ρ2 with
      | some (r1', ρ3) => match noSlot r2 ρ3 with
        | some (r2', ρ4) => match setN i r1' ρ4 with
          | some ρ5 => match setN j r2' ρ5 with
            | some ρ6 => some (.next, ρ6)
            | none => none
          | none => none
        | none => none
      | none => none
    | none => none
  | none => none
section
variable {G : Wd} {F H F1 H1 : Hp} {σ : L2.St} {ρ ρ1 : En}
/-- a slot gets what was reckoned; another new object may still wait -/
theorem setN_ok {H0 : Hp} {v : V} {r : Rs} {i : Nat} {ρ' : En} (s : Sat G F H σ ρ) (h : RepR G F H σ ρ H0 v r) (e : setN i r ρ = some ρ') :
    Sat G F H (σ.set i (some v)) ρ' ∧ (∀ a, Own (σ.set i (some v)) ρ' a → Own σ ρ a ∨ (∃ o, r = .new o ∧ v = .ref a)) ∧ ρ'.length = ρ.length := by
  cases r with
  | slot _ => cases e
  | dat d =>
    cases e
    exact ⟨sat_setD s h, fun a w => .inl (own_setD (fun o z => by cases z) w), List.length_set ..⟩
  | new o =>
    simp only [setN] at e
    split at e
    · next hi =>
      cases e
      obtain ⟨p, u, rfl, h1, h2, h3, h4, h5⟩ := h
      refine ⟨stp_setO s h1 h2 h3 h5 (by rw [← s.len]; exact hi), fun a w => ?_, List.length_set ..⟩
      rcases own_setO w with z | z
      · exact .inl z
      · exact .inr ⟨o, rfl, by rw [z]⟩
    · cases e
end
section
variable {X : Cx} {B : List Nat} {a b : Expr} {ma mb : ME} {pos : Pos}
/-- both sides reckoned, both names stored -/
theorem par_run {i j : Nat} (hi : i ∉ B) (hj : j ∉ B) (ha : DE X a ma) (hb : DE X b mb) : ∃ ta tb : TE, PE X a ta ∧ PE X b tb ∧ ∀ (σ : L2.St) (H F : Hp) (ρ : En) (fl : Fl) (ρ' : En) (D : Ends), Sat (wd X) F H σ ρ → mPar2 i j ma mb ρ = some (fl, ρ') →
    (∀ σ' F' H', Stp (wd X) F H σ ρ F' H' σ' ρ' → Kp B σ σ' → EndP (wd X) H D fl σ' F' H' ρ') →
    ∀ R : V → V → Hp → Prop, (∀ v w H2, (∀ H3, Same H2 H3 → D.nx ((σ.set i (some v)).set j (some w)) H3) → R v w H2) → ta σ H fun v H1 => tb σ H1 fun w H2 => R v w H2 := by
  obtain ⟨ta, h1, ka⟩ := ha.ex
  obtain ⟨tb, h2, kb⟩ := hb.ex
  refine ⟨ta, tb, h1, h2, fun σ H F ρ fl ρ' D s e q R hR => ?_⟩
  unfold mPar2 at e
  split at e
  · next r1 ρ1 e1 =>
    split at e
    · next r2 ρ2 e2 =>
      split at e
      · next r1' ρ3 e3 =>
        split at e
        · next r2' ρ4 e4 =>
          split at e
          · next ρ5 e5 =>
            split at e
            · next ρ6 e6 =>
              cases e
              refine ka σ H F ρ r1 ρ1 _ s e1 fun v F1 H1 x1 y1 => ?_
              refine kb σ H1 F1 ρ1 r2 ρ2 _ x1.sat e2 fun w F2 H2 x2 y2 => hR v w H2 fun H3 e23 => ?_
              have x2' : Stp (wd X) F2 H2 σ ρ2 F2 H3 σ ρ2 := stp_grow x2.sat (Same.refl _) e23 (x2.sat.sub.trans e23) fun _ z z' => absurd z z'
              have y1' := repR_stp (repR_stp y1 x2) x2'
              have y2' := repR_stp y2 x2'
              obtain ⟨F4, x3, z1, n1⟩ := noSlot_ok x2'.sat y1' e3
              obtain ⟨F5, x4, z2, n2⟩ := noSlot_ok x3.sat (repR_stp y2' x3) e4
              have z1' := repR_stp z1 x4
              obtain ⟨s5, o5, l5⟩ := setN_ok x4.sat z1' e5
              -- the second one is not the first
              have z2' : RepR (wd X) F5 H3 (σ.set i (some v)) ρ5 H1 w r2' := by
                cases r2' with
                | slot k => exact absurd rfl (n2 k)
                | dat d => exact z2
                | new o =>
                  obtain ⟨p, u, ew, g1, g2, g3, g4, g5⟩ := z2
                  refine ⟨p, u, ew, g1, g2, g3, g4, fun z => ?_⟩
                  rcases o5 p z with w1 | ⟨o', w1, w2⟩
                  · exact g5 w1
                  · subst w1
                    -- the first new object stood when the second was begun
                    have r1n : ∃ o1, r1 = .new o1 := by
                      cases r1 with
                      | new o1 => exact ⟨o1, rfl⟩
                      | dat d => cases e3
                      | slot k =>
                        simp only [noSlot] at e3
                        split at e3 <;> cases e3
                    obtain ⟨o1, rfl⟩ := r1n
                    obtain ⟨p1, u1, k1, k2, k3, _⟩ := y1
                    rw [w2] at k1
                    cases k1
                    rw [k3] at g4
                    cases g4
              obtain ⟨s6, o6, l6⟩ := setN_ok s5 z2' e6
              have base := ((x1.trans x2).trans x2').trans (x3.trans x4)
              refine q _ F5 H3 ⟨s6, base.ext, base.frm, base.new, fun c z => ?_, by rw [List.length_set, List.length_set], base.per⟩ ((kp_set hi).trans (kp_set hj))
              rcases o6 c z with z | ⟨o, z3, z4⟩
              · rcases o5 c z with z | ⟨o, z3, z4⟩
                · exact base.own c z
                · subst z3
                  obtain ⟨p, u, ep, _, _, _, g4, _⟩ := z1'
                  rw [z4] at ep
                  cases ep
                  exact .inr g4
              · subst z3
                obtain ⟨p, u, ep, _, _, _, g4, _⟩ := z2'
                rw [z4] at ep
                cases ep
                exact .inr (x1.per _ g4)
            · cases e
          · cases e
        · cases e
      · cases e
    · cases e
  · cases e
theorem ds_par {i j : Nat} {x y : Str} {px py pt : Pos} {kt k2 pt2} (hc : X.calm = true) (hN : X.N.Nodup) (ha : DE X a ma) (hb : DE X b mb) (hx : X.env.scope.names.lookup x = some .local) (hy : X.env.scope.names.lookup y = some .local)
    (hw : swappedStores [.Tuple [.Name x px, .Name y py] kt pt] (.Tuple [a, b] k2 pt2) X.env = pure (some [x, y])) (hi : X.N[i]? = some x := by rfl) (hj : X.N[j]? = some y := by rfl) (hij : i ≠ j := by decide) (hiB : i ∉ B := by decide) (hjB : j ∉ B := by decide)
    (hs : swapsWithSole [.Tuple [.Name x px, .Name y py] kt pt] (.Tuple [a, b] k2 pt2) pos.line X.env = pure false := by rfl) (hs1 : starEach [a, b] X.env = (false, eval a X.env) :: starEach [b] X.env := by rfl) (hs2 : starEach [b] X.env = (false, eval b X.env) :: starEach [] X.env := by rfl) :
    DS X B (.Assign [.Tuple [.Name x px, .Name y py] kt pt] (.Tuple [a, b] k2 pt2) pos) (mPar2 i j ma mb) := by
  obtain ⟨ta, tb, h1, h2, k⟩ := par_run hiB hjB ha hb
  refine ⟨_, ps_par hc hN hi hj hij hx hy (pa_cons h1 (pa_cons h2 pa_nil hs2) hs1) hw hs, fun σ H F ρ fl ρ' D s e q => ?_⟩
  exact k σ H F ρ fl ρ' D s e q _ fun v w H2 z => ⟨v, w, rfl, z H2 (Same.refl _)⟩
/-- the same where the pair is made (cells among the names) -/
theorem ds_parT {i j : Nat} {x y : Str} {px py pt : Pos} {kt k2 pt2} (hc : X.calm = true) (hN : X.N.Nodup) (ha : DE X a ma) (hb : DE X b mb) (hi : X.N[i]? = some x := by rfl) (hj : X.N[j]? = some y := by rfl) (hx : Loc X.env.scope x := by first | exact Or.inl rfl | exact Or.inr rfl) (hy : Loc X.env.scope y := by first | exact Or.inl rfl | exact Or.inr rfl)
    (hfx : X.fn x = true ∨ X.env.scope.names.lookup x = some .local := by first | exact .inl rfl | exact .inr rfl | assumption) (hfy : X.fn y = true ∨ X.env.scope.names.lookup y = some .local := by first | exact .inl rfl | exact .inr rfl | assumption) (hiB : i ∉ B := by decide) (hjB : j ∉ B := by decide)
    (hs : swapsWithSole [.Tuple [.Name x px, .Name y py] kt pt] (.Tuple [a, b] k2 pt2) pos.line X.env = pure false := by rfl) (hw : swappedStores [.Tuple [.Name x px, .Name y py] kt pt] (.Tuple [a, b] k2 pt2) X.env = pure none := by rfl)
    (h1 : (assignEach [.Tuple [.Name x px, .Name y py] kt pt] X.env).map (·.2) = [assign (.Tuple [.Name x px, .Name y py] kt pt) X.env] := by rfl)
    (hs1 : starEach [a, b] X.env = (false, eval a X.env) :: starEach [b] X.env := by rfl) (hs2 : starEach [b] X.env = (false, eval b X.env) :: starEach [] X.env := by rfl)
    (hg1 : (assignEach [.Name x px, .Name y py] X.env).map (·.2) = assign (.Name x px) X.env :: (assignEach [.Name y py] X.env).map (·.2) := by rfl) (hg2 : (assignEach [.Name y py] X.env).map (·.2) = assign (.Name y py) X.env :: (assignEach [] X.env).map (·.2) := by rfl)
    (hn : (assignEach [.Name x px, .Name y py] X.env).length = 2 := by rfl) (hst : (assignEach [.Name x px, .Name y py] X.env).findIdx? (·.1) = none := by rfl) :
    DS X B (.Assign [.Tuple [.Name x px, .Name y py] kt pt] (.Tuple [a, b] k2 pt2) pos) (mPar2 i j ma mb) := by
  obtain ⟨ta, tb, g1, g2, k⟩ := par_run hiB hjB ha hb
  refine ⟨_, ps_asg (pe_tup (pa_cons g1 (pa_cons g2 pa_nil hs2) hs1)) (pg_tup hc (pgs_cons (pg_name hN hi hx hfx) (pgs_cons (pg_name hN hj hy hfy) pgs_nil hg2) hg1) hn hst) hs hw h1, fun σ H F ρ fl ρ' D s e q => ?_⟩
  exact k σ H F ρ fl ρ' D s e q _ fun v w H2 z => ⟨by show 2 ≤ sizeLine; decide, fun p hp => ⟨p, [v, w], rfl, SqT.of upd_same, rfl, v, [w], rfl, w, [], rfl, rfl, z _ (same_upd hp)⟩⟩
end

/-! ### enumerate, zip -/
section
variable {X : Cx} {a b : Expr} {ma mb : ME} {pos p tpos : Pos} {elts : List Expr} {kk : Nat}
def enumD (ds : List Pd) : List Pd := ds.zipIdx.map fun p => .tuple [.int (p.2 : Nat), p.1]
theorem enumD_len (ds : List Pd) : (enumD ds).length = ds.length := by
  unfold enumD
  rw [List.length_map, List.length_zipIdx]
theorem it_enum {G : Wd} {F : Hp} {a : Addr} {xs : List V} {ds : List Pd} (h : F a = some (.lst xs)) (q : DqAll G.K F xs ds) : ItOk G F (Ite G.K a) (enumD ds) := by
  unfold ItOk
  rw [enumD_len, ← dpAll_len q]
  refine (walk_enum (K := G.K) (a := a) (xs := xs)).mono (fun H e => SqL.of (e _ _ h)) fun i H x H' hi e y => ?_
  obtain ⟨T, x1, x2, rfl, hT, rfl, e1, e2⟩ := y
  cases e1
  obtain ⟨d, h1, h2⟩ := dpAll_getV q e2
  refine ⟨.tuple [.int (i : Nat), d], ?_, .inr ⟨T, _, [.int (i : Nat), d], rfl, hT, rfl, .cons (.int _) (.cons h2 .nil), rfl⟩⟩
  unfold enumD
  rw [List.getElem?_map, List.getElem?_zipIdx, h1]
  simp
def iEn (m : ME) : MI := fun ρ => match m ρ with
  | some (r, ρ1) => match toD r ρ1 with
    | some (.list ds, ρ2) => some (enumD ds, ρ2)
    | _ => none
  | none => none
theorem di_enum (hg : Gl X "enumerate") (hm : X.mg "enumerate" = none) (h : DE X a ma) (hs : starEach [a] X.env = [(false, eval a X.env)] := by rfl) (hs2 : starEach [a] X.env = (false, eval a X.env) :: starEach [] X.env := by rfl) : DI X (.Tuple elts kk tpos) (.Call (.Name "enumerate" p) [a] [] pos) (iEn ma) := by
  obtain ⟨t, ht, k⟩ := h.ex
  refine ⟨_, pi_enum hg hm (pa_cons ht pa_nil hs2) hs, fun σ H F ρ ds ρ' R s e q => ?_⟩
  unfold iEn at e
  split at e
  · next r ρ1 e1 =>
    split at e
    · next ds' ρ2 e2 =>
      cases e
      refine k σ H F ρ r ρ1 _ s e1 fun v F1 H1 x1 y1 => ?_
      obtain ⟨F2, x2, m2, y2⟩ := toD_ok x1 y1 e2
      cases y2 with
      | lst h1 h2 => exact ⟨_, _, rfl, SqL.of (x2.sat.sub _ _ h1), q _ F2 H1 x2 (it_enum (G := wd X) h1 h2)⟩
    · cases e
  · cases e
def zipD (ds es : List Pd) : List Pd := List.zipWith (fun a b => PyData.tuple [a, b]) ds es
theorem it_zip {G : Wd} {F : Hp} {a b : Addr} {xs ys : List V} {ds es : List Pd} (h : F a = some (.lst xs)) (q : DqAll G.K F xs ds) (h' : F b = some (.lst ys)) (q' : DqAll G.K F ys es) : ItOk G F (Itz G.K a b) (zipD ds es) := by
  unfold ItOk
  have hl : (zipD ds es).length = min xs.length ys.length := by
    unfold zipD
    rw [List.length_zipWith, dpAll_len q, dpAll_len q']
  rw [hl]
  refine (walk_zip (K := G.K) (a := a) (b := b) (xs := xs) (ys := ys) rfl).mono (fun H e => ⟨SqL.of (e _ _ h), SqL.of (e _ _ h')⟩) fun i H x H' hi e y => ?_
  obtain ⟨T, x1, x2, rfl, hT, rfl, e1, e2⟩ := y
  obtain ⟨d, h1, h2⟩ := dpAll_getV q e1
  obtain ⟨d', h1', h2'⟩ := dpAll_getV q' e2
  refine ⟨.tuple [d, d'], ?_, .inr ⟨T, _, [d, d'], rfl, hT, rfl, .cons h2 (.cons h2' .nil), rfl⟩⟩
  unfold zipD
  rw [List.getElem?_zipWith, h1, h1']
def iZ (ms : MA) : MI := fun ρ => match ms ρ with
  | some ([r1, r2], ρ1) => match esc r1 ρ1 with
    | some (.list ds, ρ2) => match esc r2 ρ2 with
      | some (.list es, ρ3) => some (zipD ds es, ρ3)
      | _ => none
    | _ => none
  | _ => none
theorem di_zip (hg : Gl X "zip") (hm : X.mg "zip" = none) (ha : DE X a ma) (hb : DE X b mb) (hs1 : starEach [a, b] X.env = (false, eval a X.env) :: starEach [b] X.env := by rfl) (hs2 : starEach [b] X.env = (false, eval b X.env) :: starEach [] X.env := by rfl)
    (hp : ∀ t, PA X [a, b] t → PI X (.Tuple elts kk tpos) (.Call (.Name "zip" p) [a, b] [] pos) (iZip X.K t) := by intro t ht; exact pi_zip (by first | assumption | rfl) (by first | assumption | rfl) ht) : DI X (.Tuple elts kk tpos) (.Call (.Name "zip" p) [a, b] [] pos) (iZ (mCons ma (mCons mb mNil))) := by
  obtain ⟨t, ht, k⟩ := (da_cons ha (da_cons hb da_nil hs2) hs1).ex
  refine ⟨_, hp t ht, fun σ H F ρ ds ρ' R s e q => ?_⟩
  unfold iZ at e
  split at e
  · next r1 r2 ρ1 e1 =>
    split at e
    · next ds' ρ2 e2 =>
      split at e
      · next es' ρ3 e3 =>
        cases e
        refine k σ H F ρ _ ρ1 _ s e1 fun vs F1 H1 x1 y1 => ?_
        cases y1 with
        | cons y1 y2 => cases y2 with
          | cons y2 y3 =>
            cases y3
            obtain ⟨F2, x2, m2, z2⟩ := esc_ok x1.sat y1 e2
            obtain ⟨F3, x3, m3, z3⟩ := esc_ok x2.sat (y2.mono m2) e3
            have z2' := dp_mono m3 z2
            cases z2' with
            | lst g1 g2 => cases z3 with
              | lst g3 g4 => exact ⟨_, _, _, _, rfl, SqL.of (x3.sat.sub _ _ g1), SqL.of (x3.sat.sub _ _ g3), q _ F3 H1 ((x1.trans x2).trans x3) (it_zip (G := wd X) g1 g2 g3 g4)⟩
      · cases e
    · cases e
  · cases e
end
end Mw

set_option Elab.async false
set_option linter.all false
set_option maxRecDepth 100000
set_option autoImplicit false
namespace Mw
open PySem PySem.Spec PyProof.Rows L2

/-! ### defs by name -/
/-- what the head tells of one def -/
structure Raw (K : PySem.W.Frag) (mg : Str → Option Value) (x : Str) (st : Stmt) (ps : List Str) : Prop where
  ex : ∃ f fd, Fun K x x st f fd ∧ mg x = some (.ref f) ∧ Binds K fd ps []
/-- what a def is worth, by its name -/
structure Def (P : Program) (w : World) (K : PySem.W.Frag) (mg : Str → Option Value) (base : Heap) (x : Str) (st : Stmt) (k : Nat) (ps : List Str) (fm : FM) : Prop where
  ex : ∃ f fd, FnG P w K mg base k f fd ps (spF ⟨P, w, K⟩ ps.length fm) ∧ mg x = some (.ref f) ∧ Fun K x x st f fd ∧ Binds K fd ps []
  ns : NoSlot fm
section
variable {P : Program} {w : World} {K : PySem.W.Frag} {mg : Str → Option Value} {base : Heap}
theorem def_of {x : Str} {st : Stmt} {N ps : List Str} {k : Nat} {B : List Nat} {m : MS} {fm : FM} (R : Raw K mg x st ps) (S : FnScope N ps (defScope st))
    (body : ∀ (f : Addr) (cdv : Value) (A : Around) (outer : List PySem.Env) (s : Shared) (H : Hp) (E : XK), Room k (A.deeper (envOfC x (defScope st) s.heap.objs.size f cdv)) → A.guards = some [] →
      DSs (cxN P w K mg base N x st f cdv A outer s H E) B (defBody st) m)
    (hfm : ∀ args r as, fm args = some (r, as) → runF ps.length N.length B m args = some (r, as)) : Def P w K mg base x st (k + 1) ps fm := by
  obtain ⟨f, fd, F, hm, hb⟩ := R.ex
  have G := fnF_mk (P := P) (w := w) (base := base) (mg := mg) F S (body f)
  exact ⟨⟨f, fd, G.imp (spF_imp hfm), hm, F, hb⟩, fun args i as h => runF_noslot args i as (hfm _ _ _ h)⟩
theorem Def.up {x : Str} {st : Stmt} {j k : Nat} {ps : List Str} {fm : FM} (D : Def P w K mg base x st j ps fm) (h : j ≤ k) : Def P w K mg base x st k ps fm :=
  let ⟨f, fd, G, a, b, c⟩ := D.ex
  ⟨⟨f, fd, G.up h, a, b, c⟩, D.ns⟩
end
theorem de_callD {X : Cx} {x : Str} {st : Stmt} {k : Nat} {ps : List Str} {fm : FM} {B : List Nat} {e : Expr} {es : List Expr} {ms : MA} {p pos : Pos} (D : Def X.prog X.w X.K X.mg X.base x st k ps fm) (hr : Room k X.A) (hgd : X.A.guards = some []) (hg : Gl X x) (ha : DA X (e :: es) ms)
    (hn : ∀ ρ rs ρ', ms ρ = some (rs, ρ') → rs.length = ps.length) (hdb : (x == ("__debug__" : Str)) = false := by decide) (he : starEach (e :: es) X.env = (false, eval e X.env) :: starEach es X.env := by rfl)
    (hpl : (backTo pos (starEach es X.env)).any (·.1) = false := by rfl) : DE X (.Call (.Name x p) (e :: es) [] pos) (mCall B fm ms) := by
  obtain ⟨f, fd, G, hm, hk, hb⟩ := D.ex
  exact de_call G D.ns hr hgd hg hm hk.kp hb ha hn hdb he hpl
/-- the names of built-ins are not taken -/
def BiOk (mg : Str → Option Value) : Prop := ∀ x ∈ (["len", "all", "any", "isinstance", "sorted", "range", "enumerate", "zip", "min", "max", "abs", "int", "str", "list", "tuple", "dict", "set", "repr", "sum", "bool"] : List Str), mg x = none
end Mw

set_option Elab.async false
set_option linter.all false
set_option maxRecDepth 100000
set_option autoImplicit false
namespace Mw
open PySem PySem.Spec PyProof.Rows L2
theorem units_of {k : Nat} {A : Around} (hr : Room k A) : A.units + 70 < cLine ∧ A.units + 65 < cLine ∧ A.units + 64 < cLine ∧ A.units + 1 < cLine := by
  have h := hr.un
  exact ⟨by omega, by omega, by omega, by omega⟩
theorem def_none {P : Program} {w : World} {K : PySem.W.Frag} {mg : Str → Option Value} {base : Heap} {x : Str} {st : Stmt} {ps : List Str} {k : Nat} (R : Raw K mg x st ps) : Def P w K mg base x st k ps (fun _ => none) := by
  obtain ⟨f, fd, F, hm, hb⟩ := R.ex
  refine ⟨⟨f, fd, ⟨fun vs H Q E h => h.1, fun A outer s H args us vs Q E _ _ _ _ _ h => ?_⟩, hm, F, hb⟩, fun args i as h => by cases h⟩
  obtain ⟨_, _, _, _, _, _, h, _⟩ := h
  cases h
end Mw

set_option Elab.async false
set_option linter.all false
set_option maxRecDepth 100000
set_option autoImplicit false
namespace Mw
open PySem PySem.Spec PyProof.Rows L2
section
variable {G : Wd} {X : Cx} {a b e o : Expr} {es : List Expr} {ma mb m me : ME} {ms : MA} {pos p apos cpos : Pos}

/-! ### methods of texts -/
def strsD : List Pd → Option (List Str)
  | [] => some []
  | .str x :: ds => match strsD ds with
    | some l => some (x :: l)
    | none => none
  | _ => none
theorem strs_of {K : PySem.W.Frag} {F : Hp} : ∀ {xs : List V} {ds : List Pd} {l : List Str}, DqAll K F xs ds → strsD ds = some l → xs = l.map V.str
  | _, _, _, .nil, e => by cases e; rfl
  | _, _, _, .cons (d := d) h q, e => by
    cases d <;> first | (cases e; done) | skip
    simp only [strsD] at e
    split at e
    · next l' e1 =>
      cases e
      cases h
      rw [strs_of q e1]
      rfl
    · cases e
def joinD : Pd → Pd → Option Rs
  | .str s, .list ds => match strsD ds with
    | some l => if (l.map (·.length)).sum + l.length * s.length ≤ 16777216 then some (.dat (.str (Txt.join s l))) else none
    | none => none
  | _, _ => none
def rJoin (K : PySem.W.Frag) : R2 := fun x y H Q => (∃ a, x = .str a) ∧ ∃ a p, ∃ ys : List Str, x = .str a ∧ [y] = [V.ref p] ∧ (SqL K H p (ys.map V.str) ∨ SqT K H p (ys.map V.str)) ∧ (ys.map (·.length)).sum + ys.length * a.length ≤ 16777216 ∧ Q (.str (Txt.join a ys)) H
theorem b2_join : B2Ok G (rJoin G.K) joinD := fun F H v w a b o Q e h1 h2 h3 q => by
  cases a <;> cases b <;> first | (cases h3; done) | skip
  simp only [joinD] at h3
  split at h3
  · next l e1 =>
    split at h3
    · next hl =>
      cases h3
      obtain ⟨l', xs, rfl, g1, g2⟩ := h2.list e
      exact ⟨⟨_, h1.str⟩, _, l', l, h1.str, rfl, .inl (by rw [← strs_of g2 e1]; exact SqL.of g1), hl, bv_dat e (.str _) q⟩
    · cases h3
  · cases h3
theorem de_join (ho : DE X o ma) (he : DE X e mb) (hsep : ∀ ρ, ∃ x, ma ρ = some (.dat (.str x), ρ)) (hs : starEach [e] X.env = [(false, eval e X.env)] := by rfl) (hbase : attributeBase o "join" X.env (eval o X.env) = eval o X.env := by rfl) (hline : (apos.endLine == pos.line) = true := by rfl) :
    DE X (.Call (.Attribute o "join" apos) [e] [] pos) (mOp2 joinD ma mb) := by
  obtain ⟨ta, tb, h1, h2, k⟩ := op2_run (ta := tC .non) (tb := tC .non) (b2_join (G := wd X)) ho he
  obtain ⟨to, h1', ko⟩ := ho.ex
  obtain ⟨te, h2', ke⟩ := he.ex
  refine ⟨_, pe_join h1' h2' hs hbase hline, fun σ H F ρ r ρ' Q s e q => ?_⟩
  obtain ⟨x, hx⟩ := hsep ρ
  obtain ⟨rs, ds, e1, e2, e3⟩ := mPure_some e
  obtain ⟨r1, ρ1, r1', rs1, g1, g2, g3, rfl⟩ := mCons_some e1
  obtain ⟨s1, ρ2, s1', rs2, g4, g5, g6, rfl⟩ := mCons_some g3
  cases g6
  rw [hx] at g1
  cases g1
  cases g2
  refine ko σ H F ρ _ _ _ s hx fun v F1 H1 x1 y1 => ?_
  have y1' : Dq X.K F1 v (.str x) := y1
  cases y1'
  refine ⟨⟨x, rfl⟩, ke σ H1 F1 _ s1 _ _ x1.sat g4 fun w F3 H3 x3 y3 => ?_⟩
  obtain ⟨F4, x4, em4, y4⟩ := frz1_ok x3 y3 g5
  obtain ⟨_, _, e0, z⟩ := pure_run (b2_join (G := wd X)).l (x1.trans x4) (.cons (show RepA (wd X) F4 σ (.str x) (.dat (.str x)) from .str x) (.cons y4 .nil)) e2 e3 q
  cases e0
  exact z.2
def upperD : Pd → Option Rs
  | .str x => if x.length ≤ 5592405 then some (.dat (.str (Txt.upper x))) else none
  | _ => none
theorem de_upper (ho : DE X o m) (hbase : attributeBase o "upper" X.env (eval o X.env) = eval o X.env := by rfl) (hline : (apos.endLine == pos.line) = true := by rfl) : DE X (.Call (.Attribute o "upper" apos) [] [] pos) (mOp1 upperD m) := by
  obtain ⟨to, h1, ko⟩ := ho.ex
  refine ⟨_, pe_upper h1 hbase hline, fun σ H F ρ r ρ' Q s e q => ?_⟩
  obtain ⟨rs, ds, e1, e2, e3⟩ := mPure_some e
  obtain ⟨r1, ρ1, r1', rs1, g1, g2, g3, rfl⟩ := mCons_some e1
  cases g3
  refine ko σ H F ρ r1 _ _ s g1 fun v F1 H1 x1 y1 => ?_
  obtain ⟨F2, x2, em, y2⟩ := frz1_ok x1 y1 g2
  have vv := vws_of x2.sat (.cons y2 .nil) e2
  cases vv with
  | cons v1 v2 =>
    cases v2
    rename_i d
    simp only [f1] at e3
    cases d <;> first | (cases e3; done) | skip
    simp only [upperD] at e3
    split at e3
    · next hl =>
      cases e3
      have hv : v = .str _ := v1.str
      subst hv
      exact ⟨⟨_, rfl⟩, _, rfl, rfl, hl, q _ F2 H1 x2 (Dq.str _)⟩
    · cases e3

/-! ### xs[::-1] -/
def revD : Pd → Option Rs
  | .list ds => some (.new (.lst ds.reverse))
  | _ => none
theorem b1_rev : B1Ok G (fun x H Q => ∃ a xs, x = .ref a ∧ SqL G.K H a xs ∧ ∀ p, H p = none → Q (.ref p) (upd H p (.lst xs.reverse))) revD := fun F H v a o Q e h1 h2 q => by
  cases a <;> first | (cases h2; done) | skip
  cases h2
  obtain ⟨l, xs, rfl, g1, g2⟩ := h1.list e
  exact ⟨l, xs, rfl, SqL.of g1, fun p hp => q _ F _ (.one e hp) ⟨p, _, rfl, hp, same_free e hp, upd_same, _, rfl, dpAll_rev g2⟩⟩
theorem de_rev {k : Nat} {p1 p2 p3 : Pos} (he : DE X e m) : DE X (.Subscript e (.Slice none none (some (.UnaryOp .USub (.Constant (.int 1) k p1) p2)) p3) pos) (mOp1 revD m) := by
  obtain ⟨ta, h1, kk⟩ := op1_run (b1_rev (G := wd X)) he
  exact ⟨_, pe_revL h1, kk⟩

/-! ### dict(pairs) -/
def pairsD : List Pd → Option (List (Key × Pd))
  | [] => some []
  | .tuple [k, d] :: ds => match keyOf k with
    | some kk => match pairsD ds with
      | some l => some ((kk, d) :: l)
      | none => none
    | none => none
  | _ => none
def mergeP (kvs more : List (Key × Pd)) : List (Key × Pd) := more.foldl (fun acc kv => putP acc kv.1 kv.2) kvs
def dictD : Pd → Option Rs
  | .list ds => match pairsD ds with
    | some l => some (.new (.dct (mergeP [] l)))
    | none => none
  | _ => none
theorem pairs_of {K : PySem.W.Frag} {F H : Hp} (e0 : Same F H) : ∀ {xs : List V} {ds : List Pd} {l : List (Key × Pd)}, DqAll K F xs ds → pairsD ds = some l → ∃ (ps : List Addr) (kvs : List (Key × V)), xs = ps.map V.ref ∧ Paired (fun p kv => SqT K H p [kV kv.1, kv.2]) ps kvs ∧ DpKv K F kvs l
  | _, _, _, .nil, e => by cases e; exact ⟨[], [], rfl, .nil, .nil⟩
  | _, _, _, .cons (d := d) h q, e => by
    unfold pairsD at e
    split at e
    · next z => cases z
    · next k d' ds' z =>
      cases z
      split at e
      · next kk e1 =>
        split at e
        · next l' e2 =>
          cases e
          obtain ⟨ps, kvs, h1, h2, h3⟩ := pairs_of e0 q e2
          cases h with
          | tup g1 g2 =>
            cases g2 with
            | cons a1 a2 => cases a2 with
              | cons a2 a3 =>
                cases a3
                have hk := key_v a1 e1
                subst hk
                exact ⟨_ :: ps, (kk, _) :: kvs, by rw [h1]; rfl, .cons (SqT.of (e0 _ _ g1)) h2, .cons ⟨rfl, a2⟩ h3⟩
        · cases e
      · cases e
    · cases e
theorem merge_of {K : PySem.W.Frag} {F : Hp} : ∀ {more : List (Key × V)} {ml : List (Key × Pd)} {kvs : List (Key × V)} {kl : List (Key × Pd)}, DpKv K F more ml → DpKv K F kvs kl → DpKv K F (mergeK kvs more) (mergeP kl ml)
  | _, _, _, _, .nil, q => q
  | _, _, kvs, kl, .cons (a := p) (b := r) h t, q => by
    show DpKv K F (mergeK (putK kvs p.1 p.2) _) (mergeP (putP kl r.1 r.2) _)
    rw [h.1]
    exact merge_of t (kv_put h.2 q)
abbrev rDictC (K : PySem.W.Frag) : List V → Hp → VK → Prop := fun xs H Q => ∃ (a : Addr) (ps : List Addr) (kvs : List (Key × V)), xs = [.ref a] ∧ SqL K H a (ps.map V.ref) ∧ Paired (fun p kv => SqT K H p [kV kv.1, kv.2]) ps kvs ∧ ∀ p, H p = none → Q (.ref p) (upd H p (.dK (mergeK [] kvs)))
theorem b1_dict : B1Ok G (fun v H Q => rDictC G.K [v] H Q) dictD := fun F H v a o Q e h1 h2 q => by
  cases a <;> first | (cases h2; done) | skip
  simp only [dictD] at h2
  split at h2
  · next l e1 =>
    cases h2
    obtain ⟨l', xs, rfl, g1, g2⟩ := h1.list e
    obtain ⟨ps, kvs, rfl, k2, k3⟩ := pairs_of e g2 e1
    exact ⟨l', ps, kvs, rfl, SqL.of g1, k2, fun p hp => q _ F _ (.one e hp) ⟨p, _, rfl, hp, same_free e hp, upd_same, _, rfl, merge_of k3 .nil⟩⟩
  · cases h2
theorem de_dictC (hc : X.calm = true) (hg : Gl X "dict") (hm : X.mg "dict" = none) (ha : DE X a m) (hs : starEach [a] X.env = (false, eval a X.env) :: starEach [] X.env := by rfl)
    (hp : ∀ t, PA X [a] t → PE X (.Call (.Name "dict" p) [a] [] pos) (tCB (rDictC X.K) t) := by intro t ht; exact pe_callTy (call_dictP (by first | assumption | rfl)) (by first | assumption | rfl) (by first | assumption | rfl) PyProof.Rows.boot_dict ht) : DE X (.Call (.Name "dict" p) [a] [] pos) (mOp1 dictD m) :=
  de_callTy (call_dictP hc) (B1Ok.call (G := wd X) b1_dict) hg hm PyProof.Rows.boot_dict (da_cons ha da_nil hs) (hp := hp)
/-- {} -/
def mD0 : ME := fun ρ => some (.new (.dct []), ρ)
theorem de_dict0 : DE X (.Dict [] [] pos) mD0 := ⟨_, pe_dnewK, fun σ H F ρ r ρ' Q s e q => by
  cases e
  intro p hp
  have g := Grow.one (o := HO.dK []) s.sub hp
  have x := stp_grow s g.e1 g.e2 g.e3 g.nw
  refine q _ F _ x ⟨p, _, rfl, same_free s.sub hp, upd_same, ⟨[], rfl, .nil⟩, hp, fun z => ?_⟩
  obtain ⟨o, z1, _⟩ := s.own_some z
  rw [hp] at z1
  cases z1⟩

/-! ### sums -/
def intsD : List Pd → Option (List Int)
  | [] => some []
  | .int x :: ds => match intsD ds with
    | some l => some (x :: l)
    | none => none
  | _ => none
theorem ints_of {K : PySem.W.Frag} {F : Hp} : ∀ {xs : List V} {ds : List Pd} {l : List Int}, DqAll K F xs ds → intsD ds = some l → xs = l.map V.int
  | _, _, _, .nil, e => by cases e; rfl
  | _, _, _, .cons (d := d) h q, e => by
    cases d <;> first | (cases e; done) | skip
    simp only [intsD] at e
    split at e
    · next l' e1 =>
      cases e
      cases h
      rw [ints_of q e1]
      rfl
    · cases e
def sumD : Pd → Option Rs
  | .list ds => match intsD ds with
    | some l => some (.dat (.int l.sum))
    | none => none
  | _ => none
theorem b1_sum : B1Ok G (fun v H Q => rSum G.K [v] H Q) sumD := fun F H v a o Q e h1 h2 q => by
  cases a <;> first | (cases h2; done) | skip
  simp only [sumD] at h2
  split at h2
  · next l e1 =>
    cases h2
    obtain ⟨l', xs, rfl, g1, g2⟩ := h1.list e
    exact ⟨l', l, rfl, by rw [← ints_of g2 e1]; exact SqL.of g1, bv_dat e (.int _) q⟩
  · cases h2
theorem de_sum (hc : X.calm = true) (hg : Gl X "sum") (hm : X.mg "sum" = none) (ha : DE X a m) (hs : starEach [a] X.env = (false, eval a X.env) :: starEach [] X.env := by rfl)
    (hp : ∀ t, PA X [a] t → PE X (.Call (.Name "sum" p) [a] [] pos) (tCB (rSum X.K) t) := by intro t ht; exact pe_callB (cr_sum (by first | assumption | rfl)) (by first | assumption | rfl) (by first | assumption | rfl) boot_sum ht) : DE X (.Call (.Name "sum" p) [a] [] pos) (mOp1 sumD m) :=
  de_callB (cr_sum hc) (B1Ok.call (G := wd X) b1_sum) hg hm boot_sum (da_cons ha da_nil hs) (hp := hp)
end
end Mw

set_option Elab.async false
set_option linter.all false
set_option maxRecDepth 100000
set_option autoImplicit false
namespace Mw
open PySem PySem.Spec PyProof.Rows L2

/-! ### the head of a law -/
section
variable {P : Program} {w : World} {K : PySem.W.Frag} {mg mb : Str → Option Value} {k : Nat} {fa a : Addr} {x : Str} {s₁ : Shared} {vs : List Value} {ns : List Int}
/-- the call of the law from outside, over a heap that tracks nothing but the script -/
theorem callG_at {sp : Sp} {H : Hp} {ob : Obj} {xs : List V} (inK : K.In s₁.heap) (gl : s₁.heap.Ns mainGlobals mg) (bu : s₁.heap.Ns builtinsNs mb) (bub : ∀ x : Str, x ≠ "__name__" → mb x = bootBuiltins x) (nl : s₁.heap.NoLimit) (ge : s₁.gens = #[])
    (at_ : s₁.heap.get? a = some { cls := .type "list", data := .seq vs.toArray }) (room : Room k callerA) (F : ∀ base : Heap, ∃ fd, FnG P w K mg base k fa fd [x] sp ∧ Binds K fd [x] [])
    (want : sp [.ref a] H (fun v _ => v = .bl true) fun _ _ _ => False) (hok : HOk P w H s₁.heap) (only : ∀ b u, H b = some u → b = a ∧ K.lookup a = none ∧ u = .frz ob (.lst xs)) :
    codeAny (model P w) callerA (.call (.ref fa) ⟨[.ref a], []⟩) (fun r s' => r = .ok (.ret (.bool true)) ∧ OldK s₁.heap s'.heap ∧ s'.os = s₁.os ∧ AllBare s'.gens) s₁ := by
  have off : ∀ {b : Addr}, (b = a → K.lookup a ≠ none) → H b = none := by
    intro b q
    cases e : H b with
    | none => rfl
    | some u => exact absurd (only b u e).2.1 (q (only b u e).1)
  have nsOff : ∀ {b : Addr} {m : Str → Option Value}, s₁.heap.Ns b m → (hidT s₁.heap H).Ns b m := by
    rintro b m ⟨o, es, ep, g, d, r⟩
    refine ⟨o, es, ep, hidT_get g ?_, d, r⟩
    cases e : H b with
    | none => rfl
    | some u =>
      obtain ⟨rfl, -, -⟩ := only b u e
      rw [at_] at g
      cases g
      cases d
  have kin : K.In (hidT s₁.heap H) := fun b o e => hidT_get (inK b o e) (off fun q => by rw [← q, e]; simp)
  have md : Mod K mg (hidT s₁.heap H) := ⟨kin, nsOff gl, ⟨mb, nsOff bu, bub⟩, let ⟨m, n1, n2⟩ := nl; ⟨m, nsOff n1, n2⟩⟩
  have en : Env0 P w K mg (hidT s₁.heap H) callerA [] s₁ H :=
    ⟨rfl, md, fun b o e => of_hidT e, Nat.le_of_eq (hidT_size _ _), trivial, fun b q => (by cases (show b ∈ ([] : List Addr) from q)), hok, .of_eq ge⟩
  obtain ⟨fd, G, bind⟩ := F (hidT s₁.heap H)
  refine codeAny_mono (G.run callerA [] s₁ H ⟨[.ref a], []⟩ [.ref a] [.ref a] _ _ room rfl en (bind s₁ [.ref a] inK rfl) (.cons rfl .nil) want) fun r s' z => ?_
  match r, z with
  | .ok (.ret u), z =>
    obtain ⟨v, H', os, bare, un, hok', rv, rfl⟩ := z
    obtain rfl : u = Value.bool true := rv
    refine ⟨rfl, OldK.of_keep fun b o e => ?_, os, bare⟩
    cases q : H b with
    | none => exact un.keep b o e q (fun z => by cases (show b ∈ ([] : List Addr) from z)) (by simp)
    | some u =>
      obtain ⟨-, -, rfl⟩ := only b u q
      have e1 := (hok b _ q).1
      rw [e] at e1
      cases e1
      exact (hok' b _ (un.frzs b _ _ q)).1
  | .ok .next, z => exact z.elim
  | .ok .brk, z => exact z.elim
  | .ok .cont, z => exact z.elim
  | .error e, z =>
    obtain ⟨_, _, _, _, _, _, _, _, _, _, _, _, f⟩ := z
    exact f.elim
/-- the law's mirror says True of the script: so does the call -/
theorem callG {fm : FM} (inK : K.In s₁.heap) (gl : s₁.heap.Ns mainGlobals mg) (bu : s₁.heap.Ns builtinsNs mb) (bub : ∀ x : Str, x ≠ "__name__" → mb x = bootBuiltins x) (nl : s₁.heap.NoLimit) (ge : s₁.gens = #[])
    (at_ : s₁.heap.get? a = some { cls := .type "list", data := .seq vs.toArray }) (hi : IntsAre vs ns) (hl : ns.length ≤ sizeLine) (room : Room k callerA) (F : ∀ base : Heap, ∃ fd, FnG P w K mg base k fa fd [x] (spF ⟨P, w, K⟩ 1 fm) ∧ Binds K fd [x] [])
    (yes : ∃ as, fm [.dat (.dict [(.none, .list (ns.map PyData.int))])] = some (.dat (.bool true), as)) :
    codeAny (model P w) callerA (.call (.ref fa) ⟨[.ref a], []⟩) (fun r s' => r = .ok (.ret (.bool true)) ∧ OldK s₁.heap s'.heap ∧ s'.os = s₁.os ∧ AllBare s'.gens) s₁ := by
  obtain ⟨as, yes⟩ := yes
  have rv := vals_ints hi
  have want : ∀ {H F : Hp}, Same F H → SqL K F a (ns.map V.int) → spF ⟨P, w, K⟩ 1 fm [.ref a] H (fun v _ => v = .bl true) fun _ _ _ => False := by
    intro H F e h
    refine ⟨rfl, F, [.dat (.dict [(.none, .list (ns.map PyData.int))])], _, as, ⟨e, rfl, fun i d q => ?_, fun i o q => ?_, fun i j o u b q => ?_⟩, yes, fun v F' H' st rr => ?_⟩
    · match i, q with
      | 0, q => cases q; exact ⟨_, rfl, .scr h⟩
    · match i, q with
      | 0, q => cases q
    · match i, q with
      | 0, q => cases q
    · cases rr with
      | bl b => rfl
  cases hk : K.lookup a with
  | some o =>
    have e := inK a o hk
    rw [at_] at e
    cases e
    exact callG_at (H := fun _ => none) (ob := default) (xs := []) inK gl bu bub nl ge at_ room F (want (Same.refl _) (.inr ⟨_, vs.toArray, _, hk, rfl, rfl, rfl, by rw [List.size_toArray, hi.length]; exact hl, by simpa using rv⟩))
      (fun b u z => by cases z) fun b u z => by cases z
  | none =>
    refine callG_at (H := fun b => if b = a then some (.frz { cls := .type "list", data := .seq vs.toArray } (.lst (ns.map V.int))) else none) (ob := { cls := .type "list", data := .seq vs.toArray }) (xs := ns.map V.int) inK gl bu bub nl ge at_ room F
      (want (Same.refl _) (.inl (.inr ⟨_, if_pos rfl⟩))) (fun b u z => ?_) fun b u z => ?_
    · by_cases hb : b = a
      · subst hb
        cases (if_pos rfl).symm.trans z
        exact ⟨at_, by rw [List.length_map]; exact hl, vs, _, rv, at_⟩
      · cases (if_neg hb).symm.trans z
    · by_cases hb : b = a
      · cases (if_pos hb).symm.trans z
        exact ⟨hb, hk, rfl⟩
      · cases (if_neg hb).symm.trans z
end
/-- the goal that is left behind the head -/
theorem walkG {l : PySem.W.OpenLaw} {n k : Nat} {q : Program} {loose : List Str} {XP : (Str → Option Value) → Heap → Prop} {YP : World → Heap → Prop} {d : DefRec} {K : Params → PySem.W.Frag} {fm : FM} {x : Str} {st : Stmt}
    (hn : l.most = some n) (hn2 : n ≤ sizeLine) (hdf : d.params.defaults = []) (room : Room k callerA) (hY : ∀ (w : World) (h : Heap), YP w h → (K w.params).In h)
    (F : ∀ (w : World) (mg : Str → Option Value) (h : Heap), (K w.params).In h → h.Ns mainGlobals mg → ∀ base : Heap, Def l.prog w (K w.params) mg base d.name st k [x] fm)
    (yes : ∀ ns : List Int, ns.length ≤ n → ∃ as, fm [.dat (.dict [(.none, .list (ns.map PyData.int))])] = some (.dat (.bool true), as)) :
    PySem.W.WalkO q loose XP YP l.row.toRowW d [] (fun f vs => PySem.call f vs) := by
  refine Att.attach_call hn hdf fun w s₀ s₁ mg mb fa o pm cd doc a vs ns G Y _ _ _ hmg hobj hints hlen hg => ?_
  have inK := hY w _ Y
  refine callG (x := x) (mb := mb) inK G.T.g G.T.b G.T.builtins G.T.nolimit hg hobj hints (Nat.le_trans hlen hn2) room (fun base => ?_) (yes ns hlen)
  obtain ⟨f, fd, g, hm, _, hb⟩ := (F w mg _ inK G.T.g base).ex
  rw [hmg] at hm
  cases hm
  exact ⟨fd, g, hb⟩
/-- a def as the top has left it -/
theorem raw_mk {K : PySem.W.Frag} {h : Heap} {mg : Str → Option Value} {x : Str} {st : Stmt} {ps : List Str} {f : Addr} {od an : Option Addr} {sl : Array (Option Value)} {oc kV dc pm cd ct : Value} (inK : K.In h) (gl : h.Ns mainGlobals mg)
    (b : ∀ (kV dc pm : Value) (an : Option Addr) (cd ct : Value) (us : List Value), us.length = ps.length → bindArgs (PySem.W.fnOf x x (defArgs st) (defBody st) (defScope st) .none kV dc pm an cd ct) ⟨us, []⟩ = pure (ps.zip us))
    (a : PySem.W.nsIn K mainGlobals x = some (some (.ref f))) (l : K.lookup f = some ⟨oc, od, .func (PySem.W.fnOf x x (defArgs st) (defBody st) (defScope st) .none kV dc pm an cd ct), sl⟩) (c : PySem.W.codeIn K cd x = true) (k : PySem.W.keepIn K (.ref f) = true) : Raw K mg x st ps :=
  have F := fun_mk (st := st) l c k
  ⟨f, _, F, PySem.W.mg_of inK gl a, F.binds b⟩
end Mw

set_option Elab.async false
set_option linter.all false
set_option maxRecDepth 100000
set_option autoImplicit false
namespace Mw
open PySem PySem.Spec PyProof.Rows L2

/-! ### what is never reached -/
section
variable {X : Cx} {B : List Nat} {e : Expr} {st : Stmt}
def mNever : ME := fun _ => none
def mNeverS : MS := fun _ => none
theorem de_never : DE X e mNever := ⟨fun _ _ _ => False, ⟨fun _ _ _ _ _ _ h => h.elim⟩, fun _ _ _ _ _ _ _ _ e => by cases e⟩
theorem ds_never : DS X B st mNeverS := ⟨fun _ _ _ => False, ⟨fun _ _ _ _ _ _ h => h.elim⟩, fun _ _ _ _ _ _ _ _ e => by cases e⟩
end

/-! ### calls with names -/
def pick {α : Type} (π : List Nat) (l : List α) : List α := π.filterMap fun i => l[i]?
theorem pr_at {α β : Type} {R : α → β → Prop} {l : List α} {r : List β} (h : Paired R l r) : ∀ i : Nat, (l[i]? = none ∧ r[i]? = none) ∨ ∃ a b, l[i]? = some a ∧ r[i]? = some b ∧ R a b := by
  induction h with
  | nil => exact fun i => .inl ⟨rfl, rfl⟩
  | cons x y ih =>
    intro i
    cases i with
    | zero => exact .inr ⟨_, _, rfl, rfl, x⟩
    | succ i => exact ih i
theorem paired_pick {α β : Type} {R : α → β → Prop} {l : List α} {r : List β} (h : Paired R l r) : ∀ π : List Nat, Paired R (pick π l) (pick π r)
  | [] => .nil
  | i :: π => by
    have ih := paired_pick h π
    unfold pick at ih ⊢
    rcases pr_at h i with ⟨a, b⟩ | ⟨a, b, e1, e2, x⟩
    · rw [List.filterMap_cons_none a, List.filterMap_cons_none b]
      exact ih
    · rw [List.filterMap_cons_some e1, List.filterMap_cons_some e2]
      exact .cons x ih
theorem pr_app {α β : Type} {R : α → β → Prop} {l : List α} {r : List β} {l' : List α} {r' : List β} (h : Paired R l r) (h' : Paired R l' r') : Paired R (l ++ l') (r ++ r') := by
  induction h with
  | nil => exact h'
  | cons x y ih => exact .cons x ih
/-- the values of the names, from the left -/
structure DK (X : Cx) (kws : List Keyword) (m : MA) : Prop where
  ex : ∃ t : TA, PK X kws t ∧ ∀ (σ : L2.St) (H F : Hp) (ρ : En) (rs : List Rs) (ρ' : En) (Q : List V → Hp → Prop), Sat (wd X) F H σ ρ → m ρ = some (rs, ρ') →
    (∀ vs F' H', Stp (wd X) F H σ ρ F' H' σ ρ' → Paired (RepA (wd X) F' σ) vs rs → Q vs H') → t σ H Q
section
variable {X : Cx} {kws : List Keyword} {e : Expr} {es : List Expr} {m : ME} {ms mk : MA} {nm : Option Str} {kpos : Pos}
theorem dk_nil : DK X [] mNil := ⟨_, pk_nil, fun σ H F ρ rs ρ' Q s e q => by
  cases e
  exact q [] F H (.refl s) .nil⟩
theorem dk_cons (h : DE X e m) (hs : DK X kws ms) : DK X (⟨nm, e, kpos⟩ :: kws) (mCons m ms) := by
  obtain ⟨t, ht, k⟩ := h.ex
  obtain ⟨u, hu, l⟩ := hs.ex
  refine ⟨_, pk_cons ht hu, fun σ H F ρ rs ρ' Q s z q => ?_⟩
  obtain ⟨r, ρ1, r', rs', z1, z2, z3, rfl⟩ := mCons_some z
  refine k σ H F ρ r ρ1 _ s z1 fun v F1 H1 x1 y1 => ?_
  obtain ⟨F2, x2, _, y2⟩ := frz1_ok x1 y1 z2
  exact l σ H1 F2 ρ1 rs' ρ' _ x2.sat z3 fun vs F3 H3 x3 y3 => q (v :: vs) F3 H3 (x2.trans x3) (.cons (y2.mono x3.ext) y3)
/-- first those by place, then those by name; then in the order of the parameters -/
def mKw (π : List Nat) (ms mk : MA) : MA := fun ρ => match ms ρ with
  | some (rs, ρ1) => match mk ρ1 with
    | some (zs, ρ2) => some (pick π (rs ++ zs), ρ2)
    | none => none
  | none => none
theorem mKw_some {π : List Nat} {ρ ρ' : En} {ws : List Rs} (h : mKw π ms mk ρ = some (ws, ρ')) : ∃ rs ρ1 zs, ms ρ = some (rs, ρ1) ∧ mk ρ1 = some (zs, ρ') ∧ ws = pick π (rs ++ zs) := by
  unfold mKw at h
  split at h
  · next rs ρ1 h1 =>
    split at h
    · next zs ρ2 h2 =>
      cases h
      exact ⟨rs, ρ1, zs, h1, h2, rfl⟩
    · cases h
  · cases h
def tKw (π : List Nat) (a b : Nat) (t tk : TA) : TA := fun σ H Q => t σ H fun vs H1 => tk σ H1 fun zs H2 => vs.length = a ∧ zs.length = b ∧ Q (pick π (vs ++ zs)) H2
theorem kw_run {π : List Nat} {a b : Nat} {t tk : TA} (l : ∀ (σ : L2.St) (H F : Hp) (ρ : En) (rs : List Rs) (ρ' : En) (Q : List V → Hp → Prop), Sat (wd X) F H σ ρ → ms ρ = some (rs, ρ') → (∀ vs F' H', Stp (wd X) F H σ ρ F' H' σ ρ' → Paired (RepA (wd X) F' σ) vs rs → Q vs H') → t σ H Q)
    (lk : ∀ (σ : L2.St) (H F : Hp) (ρ : En) (rs : List Rs) (ρ' : En) (Q : List V → Hp → Prop), Sat (wd X) F H σ ρ → mk ρ = some (rs, ρ') → (∀ vs F' H', Stp (wd X) F H σ ρ F' H' σ ρ' → Paired (RepA (wd X) F' σ) vs rs → Q vs H') → tk σ H Q)
    (ha : ∀ ρ rs ρ', ms ρ = some (rs, ρ') → rs.length = a) (hb : ∀ ρ rs ρ', mk ρ = some (rs, ρ') → rs.length = b) :
    ∀ (σ : L2.St) (H F : Hp) (ρ : En) (rs : List Rs) (ρ' : En) (Q : List V → Hp → Prop), Sat (wd X) F H σ ρ → mKw π ms mk ρ = some (rs, ρ') → (∀ vs F' H', Stp (wd X) F H σ ρ F' H' σ ρ' → Paired (RepA (wd X) F' σ) vs rs → Q vs H') → tKw π a b t tk σ H Q := by
  intro σ H F ρ ws ρ' Q s h q
  obtain ⟨rs, ρ1, zs, h1, h2, rfl⟩ := mKw_some h
  refine l σ H F ρ rs ρ1 _ s h1 fun vs F1 H1 x1 y1 => lk σ H1 F1 ρ1 zs ρ' _ x1.sat h2 fun us F2 H2 x2 y2 => ?_
  have y1' : Paired (RepA (wd X) F2 σ) vs rs := by
    clear h1 q h2 h ha l
    induction y1 with
    | nil => exact .nil
    | cons p _ ih => exact .cons (p.mono x2.ext) ih
  exact ⟨(Paired.length y1).trans (ha _ _ _ h1), (Paired.length y2).trans (hb _ _ _ h2), q _ F2 H2 (x1.trans x2) (paired_pick (pr_app y1' y2) π)⟩
end
section
variable {X : Cx} {k a b : Nat} {f : Addr} {fd : FuncData} {ps ks : List Str} {sp : Sp} {E : XK} {x : Str} {p pos : Pos} {e : Expr} {es : List Expr} {kws : List Keyword} {t tk : TA} {π : List Nat}
def KwB (fd : FuncData) (ps ks : List Str) (a b : Nat) (π : List Nat) : Prop := ∀ us ws : List Value, us.length = a → ws.length = b → bindArgs fd ⟨us, ks.zip ws⟩ = pure (ps.zip (pick π (us ++ ws)))
theorem peG_kw0 (F : FnG X.prog X.w X.K X.mg X.base k f fd ps sp) (hr : Room k X.A) (hgd : X.A.guards = some []) (hg : Gl X x) (hm : X.mg x = some (.ref f)) (hk : PySem.W.keepIn X.K (.ref f) = true) (hb : KwB fd ps ks 0 b π) (hx : Passes (L2.CX X.prog X.w) X E)
    (hkw : PK X kws tk) (hall : (backToKw pos (keywordEach kws X.env)).all (·.1.isSome) = true := by rfl) (hks : (backToKw pos (keywordEach kws X.env)).filterMap (·.1) = ks := by rfl)
    (hdb : (x == ("__debug__" : Str)) = false := by decide) (hpl : ((backTo pos (starEach [] X.env)).any (·.1) || (backToKw pos (keywordEach kws X.env)).any (·.1.isNone)) = false := by rfl) :
    PE X (.Call (.Name x p) [] kws pos) (fun σ H Q => tKw π 0 b tNil tk σ H fun vs H1 => sp vs H1 Q E) := by
  constructor
  intro pins s σ H Q I h
  apply wpAny_Call_Name_kw
  refine ld_glob I hg hm ?_ hdb
  refine PySem.W.callWith_KW0 (h₀ := X.base) I.ok.mod.kin hk hall ?_ hpl
  refine thn (hkw.run pos pins s σ H _ I h) fun ws s2 z => ?_
  obtain ⟨zs, H2, I2, rz, l1, l2, q⟩ := z
  refine ⟨I2.kIn, ?_⟩
  rw [hks]
  exact runG F hr hgd hx I2 (.of_eq (hb [] ws rfl (rz.length.symm.trans l2))) (paired_pick (pr_app .nil rz) π) q
theorem peG_kw (F : FnG X.prog X.w X.K X.mg X.base k f fd ps sp) (hr : Room k X.A) (hgd : X.A.guards = some []) (hg : Gl X x) (hm : X.mg x = some (.ref f)) (hk : PySem.W.keepIn X.K (.ref f) = true) (hb : KwB fd ps ks a b π) (hx : Passes (L2.CX X.prog X.w) X E)
    (ha : PA X (e :: es) t) (hkw : PK X kws tk) (hall : (backToKw pos (keywordEach kws X.env)).all (·.1.isSome) = true := by rfl) (hks : (backToKw pos (keywordEach kws X.env)).filterMap (·.1) = ks := by rfl)
    (hdb : (x == ("__debug__" : Str)) = false := by decide) (he : starEach (e :: es) X.env = (false, eval e X.env) :: starEach es X.env := by rfl)
    (hpl : ((backTo pos (starEach (e :: es) X.env)).any (·.1) || (backToKw pos (keywordEach kws X.env)).any (·.1.isNone)) = false := by rfl) :
    PE X (.Call (.Name x p) (e :: es) kws pos) (fun σ H Q => tKw π a b t tk σ H fun vs H1 => sp vs H1 Q E) := by
  constructor
  intro pins s σ H Q I h
  apply wpAny_Call_Name_kw
  refine ld_glob I hg hm ?_ hdb
  refine PySem.W.callWith_KW (h₀ := X.base) I.ok.mod.kin hk hall ?_ hpl he
  refine thn (ha.run pos pins s σ H _ I h) fun us s1 z => ?_
  obtain ⟨vs, H1, I1, r, z⟩ := z
  refine thn (hkw.run pos pins s1 σ H1 _ I1 z) fun ws s2 z => ?_
  obtain ⟨zs, H2, I2, rz, l1, l2, q⟩ := z
  refine ⟨I2.kIn, ?_⟩
  rw [hks]
  exact runG F hr hgd hx I2 (.of_eq (hb us ws (r.length.symm.trans l1) (rz.length.symm.trans l2))) (paired_pick (pr_app r rz) π) q
end
section
variable {X : Cx} {x : Str} {st : Stmt} {k a b : Nat} {ps ks : List Str} {fm : FM} {B : List Nat} {e : Expr} {es : List Expr} {ms mk : MA} {kws : List Keyword} {p pos : Pos} {π : List Nat}
/-- the binding, whatever the object holds besides -/
def KwS (x : Str) (st : Stmt) (ps ks : List Str) (a b : Nat) (π : List Nat) : Prop := ∀ (kV dc pm : Value) (an : Option Addr) (cd ct : Value), KwB (PySem.W.fnOf x x (defArgs st) (defBody st) (defScope st) .none kV dc pm an cd ct) ps ks a b π
theorem len_pick {n : Nat} (ha : ∀ ρ rs ρ', ms ρ = some (rs, ρ') → rs.length = a) (hb : ∀ ρ rs ρ', mk ρ = some (rs, ρ') → rs.length = b) (hπ : ∀ l : List Rs, l.length = a + b → (pick π l).length = n) : ∀ ρ rs ρ', mKw π ms mk ρ = some (rs, ρ') → rs.length = n := fun ρ ws ρ' h => by
  obtain ⟨rs, ρ1, zs, h1, h2, rfl⟩ := mKw_some h
  exact hπ _ (by rw [List.length_append, ha _ _ _ h1, hb _ _ _ h2])
theorem pick_len {α : Type} : ∀ {π : List Nat} {l : List α}, (∀ i ∈ π, i < l.length) → (pick π l).length = π.length
  | [], _, _ => rfl
  | i :: π, l, h => by
    have ih := pick_len (π := π) (l := l) fun j hj => h j (List.mem_cons_of_mem _ hj)
    unfold pick at ih ⊢
    rw [List.filterMap_cons_some (List.getElem?_eq_getElem (h i List.mem_cons_self)), List.length_cons, ih]
    rfl
theorem de_kw0 (D : Def X.prog X.w X.K X.mg X.base x st k ps fm) (hr : Room k X.A) (hgd : X.A.guards = some []) (hg : Gl X x) (hs : KwS x st ps ks 0 b π) (hkw : DK X kws mk) (hb : ∀ ρ rs ρ', mk ρ = some (rs, ρ') → rs.length = b)
    (hπ : π.length = ps.length) (hπb : ∀ i ∈ π, i < b) (hall : (backToKw pos (keywordEach kws X.env)).all (·.1.isSome) = true := by rfl) (hks : (backToKw pos (keywordEach kws X.env)).filterMap (·.1) = ks := by rfl)
    (hdb : (x == ("__debug__" : Str)) = false := by decide) (hpl : ((backTo pos (starEach [] X.env)).any (·.1) || (backToKw pos (keywordEach kws X.env)).any (·.1.isNone)) = false := by rfl) :
    DE X (.Call (.Name x p) [] kws pos) (mCall B fm (mKw π mNil mk)) := by
  obtain ⟨f, fd, G, hm, hF, _⟩ := D.ex
  obtain ⟨oc, od, kV, dc, pm, an, cd, ct, sl, rfl, lk, hcd⟩ := hF.ex
  obtain ⟨t, ht, l⟩ := hkw.ex
  exact ⟨_, peG_kw0 G hr hgd hg hm hF.kp (hs kV dc pm an cd ct) passes0 ht hall hks hdb hpl,
    call_run (kw_run (X := X) (π := π) (fun σ H F ρ rs ρ' Q s e q => by cases e; exact q [] F H (.refl s) .nil) l len_nil hb) (len_pick len_nil hb fun l h => (pick_len fun i hi => by have := hπb i hi; omega).trans hπ) D.ns⟩
theorem de_kw (D : Def X.prog X.w X.K X.mg X.base x st k ps fm) (hr : Room k X.A) (hgd : X.A.guards = some []) (hg : Gl X x) (hs : KwS x st ps ks a b π) (ha : DA X (e :: es) ms) (hna : ∀ ρ rs ρ', ms ρ = some (rs, ρ') → rs.length = a)
    (hkw : DK X kws mk) (hb : ∀ ρ rs ρ', mk ρ = some (rs, ρ') → rs.length = b)
    (hπ : π.length = ps.length) (hπb : ∀ i ∈ π, i < a + b) (hall : (backToKw pos (keywordEach kws X.env)).all (·.1.isSome) = true := by rfl) (hks : (backToKw pos (keywordEach kws X.env)).filterMap (·.1) = ks := by rfl)
    (hdb : (x == ("__debug__" : Str)) = false := by decide) (he : starEach (e :: es) X.env = (false, eval e X.env) :: starEach es X.env := by rfl)
    (hpl : ((backTo pos (starEach (e :: es) X.env)).any (·.1) || (backToKw pos (keywordEach kws X.env)).any (·.1.isNone)) = false := by rfl) :
    DE X (.Call (.Name x p) (e :: es) kws pos) (mCall B fm (mKw π ms mk)) := by
  obtain ⟨f, fd, G, hm, hF, _⟩ := D.ex
  obtain ⟨oc, od, kV, dc, pm, an, cd, ct, sl, rfl, lk, hcd⟩ := hF.ex
  obtain ⟨t, ht, l⟩ := ha.ex
  obtain ⟨tk, htk, lk'⟩ := hkw.ex
  exact ⟨_, peG_kw G hr hgd hg hm hF.kp (hs kV dc pm an cd ct) passes0 ht htk hall hks hdb he hpl,
    call_run (kw_run (X := X) (π := π) l lk' hna hb) (len_pick hna hb fun l h => (pick_len fun i hi => by have := hπb i hi; omega).trans hπ) D.ns⟩
end
end Mw

set_option Elab.async false
set_option linter.all false
set_option maxRecDepth 100000
set_option autoImplicit false
namespace Mw
open PySem PySem.Spec PyProof.Rows L2

/-! ### f(e), e a new object that f may change -/
def mCall1 (fm : FM) (m : ME) : ME := fun ρ => match m ρ with
  | some (.new o, ρ1) => match fm [.obj o] with
    | some (.dat d, _) => some (.dat d, ρ1)
    | _ => none
  | _ => none
theorem mCall1_some {fm : FM} {m : ME} {ρ ρ' : En} {r : Rs} (h : mCall1 fm m ρ = some (r, ρ')) : ∃ o d as, m ρ = some (.new o, ρ') ∧ fm [.obj o] = some (.dat d, as) ∧ r = .dat d := by
  unfold mCall1 at h
  split at h
  · next o ρ1 h1 =>
    split at h
    · next d as h2 =>
      cases h
      exact ⟨o, d, as, h1, h2, rfl⟩
    · cases h
  · cases h
theorem stp_lend {G : Wd} {F H F1 H1 F2 H2 : Hp} {σ : L2.St} {ρ ρ1 : En} {p : Addr} {o : OB} {ρ2 : En} (x1 : Stp G F H σ ρ F1 H1 σ ρ1) (hp : H p = none) (no : ¬ Own σ ρ1 p) (x2 : Stp G F1 H1 [some (.ref p)] [some (.obj o)] F2 H2 [some (.ref p)] ρ2) : Stp G F H σ ρ F2 H2 σ ρ1 := by
  have only : ∀ {a}, Own [some (V.ref p)] [some (DV.obj o)] a → a = p := by
    rintro a ⟨i, u, q1, q2⟩
    match i, q1, q2 with
    | 0, _, q2 => cases q2; rfl
  constructor
  · refine ⟨x2.sat.sub, x1.sat.len, fun i d q => ?_, fun i u q => ?_, x1.sat.sep⟩
    · obtain ⟨v, h1, h2⟩ := x1.sat.dat i d q
      exact ⟨v, h1, dp_mono x2.ext h2⟩
    · obtain ⟨a, z, h1, h2, h3, h4⟩ := x1.sat.obj i u q
      have ne : a ≠ p := fun e => no ⟨i, u, q, e ▸ h1⟩
      refine ⟨a, z, h1, ?_, x2.frm a z h3 fun w => ne (only w), h4.mono x2.ext⟩
      cases w : F2 a with
      | none => rfl
      | some y =>
        rcases x2.new a h2 (by rw [w]; simp) with g | g
        · rw [h3] at g; cases g
        · exact absurd (only g) ne
  · exact x1.ext.trans x2.ext
  · intro a u h1 h2
    exact x2.frm a u (x1.frm a u h1 h2) fun w => by rw [only w, hp] at h1; cases h1
  · intro a h1 h2
    cases w : F1 a with
    | none =>
      rcases x2.new a w h2 with g | g
      · exact .inl (x1.per a g)
      · exact .inl (only g ▸ hp)
    | some y => exact x1.new a h1 (by rw [w]; simp)
  · exact x1.own
  · exact x1.len
  · exact fun a h => x1.per a (x2.per a h)
theorem de_call1 {X : Cx} {x : Str} {st : Stmt} {k : Nat} {y : Str} {fm : FM} {e : Expr} {m : ME} {p pos : Pos} (D : Def X.prog X.w X.K X.mg X.base x st k [y] fm) (hr : Room k X.A) (hgd : X.A.guards = some []) (hg : Gl X x) (ha : DE X e m)
    (hdb : (x == ("__debug__" : Str)) = false := by decide) (he : starEach [e] X.env = (false, eval e X.env) :: starEach [] X.env := by rfl)
    (hpl : (backTo pos (starEach [] X.env)).any (·.1) = false := by rfl) : DE X (.Call (.Name x p) [e] [] pos) (mCall1 fm m) := by
  obtain ⟨f, fd, G, hm, hF, hb⟩ := D.ex
  obtain ⟨t, ht, l⟩ := ha.ex
  refine ⟨_, peG_call G hr hgd hg hm hF.kp hb passes0 (pa_cons ht pa_nil he) hdb he hpl, fun σ H F ρ r ρ' Q s z q => ?_⟩
  obtain ⟨o, d, as, z1, z2, rfl⟩ := mCall1_some z
  refine l σ H F ρ _ ρ' _ s z1 fun v F1 H1 x1 y1 => ?_
  obtain ⟨p, h, rfl, g1, g2, g3, g4, g5⟩ := y1
  refine ⟨rfl, F1, [.obj o], .dat d, as, ⟨x1.sat.sub, rfl, fun i d q => ?_, fun i u q => ?_, fun i j u w a q1 q2 _ _ => ?_⟩, z2, fun v' F2 H2 x2 y2 => ?_⟩
  · match i, q with
    | 0, q => cases q
  · match i, q with
    | 0, q => cases q; exact ⟨p, h, rfl, g1, g2, g3⟩
  · match i, j, q1, q2 with
    | 0, 0, _, _ => rfl
  · exact q v' F2 H2 (stp_lend x1 g4 g5 x2) y2
end Mw

set_option Elab.async false
set_option linter.all false
set_option maxRecDepth 100000
set_option autoImplicit false
namespace Mw
open PySem PySem.Spec PyProof.Rows L2

/-! ### {k: v for ..} -/
def loopD (vs : List Nat) (g : MG) (t : MT) (mk me : ME) : List Pd → List (Key × Pd) → En → Option (List (Key × Pd) × En)
  | [], acc, ρ => some (acc, ρ)
  | d :: ds, acc, ρ => match g d ρ with
    | some ρ1 => match t ρ1 with
      | some (true, ρ2) => match mk ρ2 with
        | some (r, ρ3) => match toD r ρ3 with
          | some (kd, ρ4) => match keyOf kd with
            | some k => match me ρ4 with
              | some (r', ρ5) => match toD r' ρ5 with
                | some (d', ρ6) => loopD vs g t mk me ds (putP acc k d') (wipeE ρ6 vs)
                | none => none
              | none => none
            | none => none
          | none => none
        | none => none
      | some (false, ρ2) => loopD vs g t mk me ds acc (wipeE ρ2 vs)
      | none => none
    | none => none
def mDc (mi : MI) (vs : List Nat) (g : MG) (t : MT) (mk me : ME) : ME := fun ρ => match mi ρ with
  | some (ds, ρ1) => if ds.length < sizeLine ∧ noOwn ρ1 vs = true then match loopD vs g t mk me ds [] (wipeE ρ1 vs) with
      | some (acc, ρ2) => some (.new (.dct acc), restE ρ1 ρ2 vs)
      | none => none
    else none
  | none => none
theorem dc_it {J : It} {n : Nat} {G : Hp → Prop} {Y : Nat → Hp → V → Hp → Prop} (w : Walk J n G Y) {g : TG} {tt : TT} {tk tv : TE} {vs : List Nat} {σ : L2.St} {H1 : Hp} {D : Addr} {Qd : Hp → Prop} (Pv : Nat → Hp → Prop) (h0 : Pv 0 (upd H1 D (.dK []))) (hG : ∀ i H, i ≤ n → Pv i H → G H)
    (turn : ∀ i x H H', i < n → Pv i H → Y i H x H' → g x (wipe σ vs) H' fun σ2 H2 => wipe σ2 vs = wipe σ vs ∧ tt σ2 H2 fun b H3 =>
      if b = true then tk σ2 H3 fun y H4 => tv σ2 H4 fun z H5 => ∃ kvs k, y = kV k ∧ H5 D = some (.dK kvs) ∧ kvs.length < sizeLine ∧ Pv (i + 1) (upd H5 D (.dK (putK kvs k z))) else Pv (i + 1) H3)
    (done : ∀ H, Pv n H → Qd H) :
    ∃ W : Nat → Nat → Hp → Prop, (∃ m, W 0 m (upd H1 D (.dK []))) ∧ ∀ i m H, W i m H →
      (J.stop i H ∧ Qd H) ∨ (J.go i H ∧ ∃ Nx : Hp → Prop, (∀ H', Nx H' → ∃ m', m' < m ∧ W (i + 1) m' H') ∧ ∀ x H', J.yld i H x H' → g x (wipe σ vs) H' fun σ2 H2 => wipe σ2 vs = wipe σ vs ∧ tt σ2 H2 fun b H3 =>
        if b = true then tk σ2 H3 fun y H4 => tv σ2 H4 fun z H5 => ∃ kvs k, y = kV k ∧ H5 D = some (.dK kvs) ∧ kvs.length < sizeLine ∧ Nx (upd H5 D (.dK (putK kvs k z))) else Nx H3) := by
  refine ⟨fun i m H => m + i = n ∧ Pv i H, ⟨n, rfl, h0⟩, fun i m H ⟨hm, p⟩ => ?_⟩
  have q := hG i H (by omega) p
  cases m with
  | zero =>
    obtain rfl : i = n := by omega
    exact .inl ⟨w.stops H q, done H p⟩
  | succ m =>
    have lt : i < n := by omega
    exact .inr ⟨w.goes i H lt q, Pv (i + 1), fun H' z => ⟨m, Nat.lt_succ_self m, by omega, z⟩, fun x H' y => turn i x H H' lt p (w.yields i H x H' lt q y)⟩
theorem wipe_twice (ρ : En) (vs : List Nat) : wipeE (wipeE ρ vs) vs = wipeE ρ vs := by
  apply List.ext_getElem?
  intro j
  by_cases hj : j ∈ vs
  · have at_ : ∀ (τ : En) {ws : List Nat}, j ∈ ws → (wipeE τ ws)[j]? = if j < τ.length then some none else none := by
      intro τ ws
      induction ws with
      | nil => intro z; cases z
      | cons w ws ih =>
        intro z
        unfold wipeE
        rw [List.getElem?_set, wipeE_len]
        by_cases hw : w = j
        · rw [if_pos hw]
          subst hw
          rfl
        · rw [if_neg hw]
          exact ih ((List.mem_cons.mp z).elim (fun q => absurd q.symm hw) id)
    rw [at_ _ hj, at_ _ hj, wipeE_len]
  · rw [wipeE_out hj]
theorem putK_len {kvs : List (Key × V)} {k : Key} {v : V} : (putK kvs k v).length ≤ kvs.length + 1 := by
  unfold putK
  split
  · rw [List.length_map]; omega
  · rw [List.length_append]; exact Nat.le_refl _
section
variable {X : Cx} {tg iter kx vx : Expr} {ifs : List Expr} {scope : Scope} {own : List (Str × Nat)} {pos : Pos} {mi : MI} {g : MG} {mt : MT} {mk me : ME}
theorem dc_run {wi : TI} {tg' : TG} {tt : TT} {tk te : TE} {vs : List Nat}
    (ki : ∀ (σ : L2.St) (H F : Hp) (ρ : En) (ds : List Pd) (ρ' : En) (R : It → Hp → Prop), Sat (wd X) F H σ ρ → mi ρ = some (ds, ρ') → (∀ J F' H', Stp (wd X) F H σ ρ F' H' σ ρ' → ItOk (wd X) F' J ds → R J H') → wi σ H R)
    (kg : ∀ n, ∀ (v : V) (d : Pd) (σ : L2.St) (H F : Hp) (ρ ρ' : En) (Q : L2.St → Hp → Prop), σ.length = n → Sat (wd X) F H σ ρ → Dq X.K F v d → g d ρ = some ρ' → (∀ σ', Stp (wd X) F H σ ρ F H σ' ρ' → Kp (OnlyB vs n) σ σ' → Q σ' H) → tg' v σ H Q)
    (kt : ∀ (σ : L2.St) (H F : Hp) (ρ : En) (b : Bool) (ρ' : En) (Q : Bool → Hp → Prop), Sat (wd X) F H σ ρ → mt ρ = some (b, ρ') → (∀ F' H', Stp (wd X) F H σ ρ F' H' σ ρ' → Q b H') → tt σ H Q)
    (kk : ∀ (σ : L2.St) (H F : Hp) (ρ : En) (r : Rs) (ρ' : En) (Q : VK), Sat (wd X) F H σ ρ → mk ρ = some (r, ρ') → (∀ v F' H', Stp (wd X) F H σ ρ F' H' σ ρ' → RepR (wd X) F' H' σ ρ' H v r → Q v H') → tk σ H Q)
    (ke : ∀ (σ : L2.St) (H F : Hp) (ρ : En) (r : Rs) (ρ' : En) (Q : VK), Sat (wd X) F H σ ρ → me ρ = some (r, ρ') → (∀ v F' H', Stp (wd X) F H σ ρ F' H' σ ρ' → RepR (wd X) F' H' σ ρ' H v r → Q v H') → te σ H Q) :
    ∀ (σ : L2.St) (H F : Hp) (ρ : En) (r : Rs) (ρ' : En) (Q : VK), Sat (wd X) F H σ ρ → mDc mi vs g mt mk me ρ = some (r, ρ') →
      (∀ v F' H', Stp (wd X) F H σ ρ F' H' σ ρ' → RepR (wd X) F' H' σ ρ' H v r → Q v H') → tDc wi tg' tt tk te vs σ H Q := by
  intro σ H F ρ r ρ' Q s e q
  unfold mDc at e
  split at e
  · next ds ρ1 e1 =>
    split at e
    · next hz =>
      obtain ⟨hz, hno⟩ := hz
      split at e
      · next acc ρ2 e2 =>
        cases e
        refine ki σ H F ρ ds ρ1 _ s e1 fun J F1 H1 x1 ok D hD => ?_
        have sw := sat_wipe vs x1.sat
        have fD : F1 D = none := same_free x1.sat.sub hD
        have x0 : Stp (wd X) F1 H1 (wipe σ vs) (wipeE ρ1 vs) F1 (upd H1 D (.dK [])) (wipe σ vs) (wipeE ρ1 vs) := by
          have gr := Grow.one (o := HO.dK []) x1.sat.sub hD
          exact stp_grow sw gr.e1 gr.e2 gr.e3 gr.nw
        refine dc_it ok (fun i H2 => ∃ F2 ρ3 ys bs, Stp (wd X) F1 H1 (wipe σ vs) (wipeE ρ1 vs) F2 H2 (wipe σ vs) (wipeE ρ3 vs) ∧ H2 D = some (.dK ys) ∧ F2 D = none ∧ ¬ Own (wipe σ vs) (wipeE ρ3 vs) D ∧ DpKv X.K F2 ys bs ∧ ys.length ≤ i ∧ loopD vs g mt mk me (ds.drop i) bs (wipeE ρ3 vs) = some (acc, ρ2))
          ⟨F1, ρ1, [], [], x0, upd_same, fD, ?_, .nil, Nat.le_refl _, e2⟩ (fun i H2 _ ⟨F2, ρ3, _, _, x2, _⟩ => x2.ext.trans x2.sat.sub) ?_ ?_
        · intro z
          obtain ⟨o, z1, _⟩ := sw.own_some z
          rw [hD] at z1
          cases z1
        · rintro i x H2 H3 hi ⟨F2, ρ3, ys, bs, x2, hy, f2, no2, dp2, hlen, e3⟩ y
          obtain ⟨F3, d, hd, x3, dp⟩ := yd_in x2.sat x2.ext y
          have hy3 : H3 D = some (.dK ys) := x3.frm D _ hy no2
          have n3 : F3 D = none := by
            cases w : F3 D with
            | none => rfl
            | some u =>
              rcases x3.new D f2 (by rw [w]; exact nofun) with z | z
              · rw [hy] at z; cases z
              · exact absurd z no2
          have keepF : ∀ {F4 H4 : Hp} {σ4 : L2.St} {ρ4 : En}, Stp (wd X) F3 H3 (wipe σ vs) (wipeE ρ3 vs) F4 H4 σ4 ρ4 → H4 D = some (.dK ys) ∧ F4 D = none ∧ ¬ Own σ4 ρ4 D := fun {F4 H4 σ4 ρ4} x4 => by
            refine ⟨x4.frm D _ hy3 no2, ?_, fun z => ?_⟩
            · cases w : F4 D with
              | none => rfl
              | some u =>
                rcases x4.new D n3 (by rw [w]; exact nofun) with z | z
                · rw [hy3] at z; cases z
                · exact absurd z no2
            · rcases x4.own D z with w | w
              · exact no2 w
              · rw [hy3] at w; cases w
          rw [drop_cons hd] at e3
          simp only [loopD] at e3
          split at e3
          · next ρ4 e4 =>
            refine kg (wipe σ vs).length x d _ H3 F3 _ ρ4 _ rfl x3.sat dp e4 fun σ4 x4 kp4 => ?_
            have hw4 : wipe σ4 vs = wipe σ vs := by
              have h1 : wipe σ4 vs = wipe (wipe σ vs) vs := wipe_ext x4.len fun j hj => by
                by_cases hl : j < (wipe σ vs).length
                · exact kp4 j (onlyB_mem hl hj)
                · rw [List.getElem?_eq_none (by rw [x4.len]; omega), List.getElem?_eq_none (by omega)]
              rw [h1]
              exact wipe_ext (wipe_length σ vs) fun j hj => wipe_out hj
            refine ⟨hw4, ?_⟩
            have base := x2.trans x3
            have close : ∀ {F5 H5 : Hp} {ρ5 : En}, Stp (wd X) F3 H3 (wipe σ vs) (wipeE ρ3 vs) F5 H5 σ4 ρ5 → Stp (wd X) F1 H1 (wipe σ vs) (wipeE ρ1 vs) F5 H5 (wipe σ vs) (wipeE ρ5 vs) := fun {F5 H5 ρ5} x5 => by
              have x6 := base.trans x5
              have sw5 := sat_wipe vs x6.sat
              rw [hw4] at sw5
              refine ⟨sw5, x6.ext, x6.frm, x6.new, fun b z => x6.own b ?_, rfl, x6.per⟩
              rw [← hw4] at z
              exact own_wipe z
            split at e3
            · next ρ5 e5 =>
              refine kt σ4 H3 F3 ρ4 true ρ5 _ x4.sat e5 fun F5 H5 x5 => ?_
              show if true = true then _ else _
              rw [if_pos rfl]
              split at e3
              · next r6 ρ6 e6 =>
                split at e3
                · next d7 ρ7 e7 =>
                  split at e3
                  · next k7 ek =>
                    split at e3
                    · next r8 ρ8 e8 =>
                      split at e3
                      · next d9 ρ9 e9 =>
                        refine kk σ4 H5 F5 ρ5 r6 ρ6 _ x5.sat e6 fun v6 F6 H6 x6 y6 => ?_
                        obtain ⟨F7, x7, m7, y7⟩ := toD_ok x6 y6 e7
                        refine ke σ4 H6 F7 ρ7 r8 ρ8 _ x7.sat e8 fun v8 F8 H8 x8 y8 => ?_
                        obtain ⟨F9, x9, m9, y9⟩ := toD_ok x8 y8 e9
                        have xx := ((x4.trans x5).trans x7).trans x9
                        obtain ⟨k1, k2, k3⟩ := keepF xx
                        have no8 : ¬ Own (wipe σ vs) (wipeE ρ9 vs) D := fun z => by
                          rw [← hw4] at z
                          exact k3 (own_wipe z)
                        refine ⟨ys, k7, key_v y7 ek, k1, by omega, F9, ρ9, putK ys k7 v8, putP bs k7 d9, stp_grown (close xx) hD k2 no8, upd_same, k2, no8, kv_put y9 (dpKv_mono (x3.ext.trans xx.ext) dp2), ?_, e3⟩
                        have := putK_len (kvs := ys) (k := k7) (v := v8)
                        omega
                      · cases e3
                    · cases e3
                  · cases e3
                · cases e3
              · cases e3
            · next ρ5 e5 =>
              refine kt σ4 H3 F3 ρ4 false ρ5 _ x4.sat e5 fun F5 H5 x5 => ?_
              show if false = true then _ else _
              rw [if_neg Bool.false_ne_true]
              have x8 := x4.trans x5
              obtain ⟨k1, k2, k3⟩ := keepF x8
              have no8 : ¬ Own (wipe σ vs) (wipeE ρ5 vs) D := fun z => by
                rw [← hw4] at z
                exact k3 (own_wipe z)
              exact ⟨F5, ρ5, ys, bs, close x8, k1, k2, no8, dpKv_mono (x3.ext.trans x8.ext) dp2, by omega, e3⟩
            · cases e3
          · cases e3
        · rintro H2 ⟨F2, ρ3, ys, bs, x2, hy, f2, no2, dp2, hlen, e3⟩
          rw [List.drop_length] at e3
          cases e3
          have x3 := stp_unwipe (ρ1 := wipeE ρ3 vs) x1.sat hno (by rw [wipe_twice]; exact x2)
          refine q _ F2 H2 (x1.trans x3) ⟨D, _, rfl, f2, hy, ⟨ys, rfl, dp2⟩, x1.per D hD, fun z => ?_⟩
          rcases x3.own D z with w | w
          · obtain ⟨o, w1, _⟩ := x1.sat.own_some w
            rw [hD] at w1
            cases w1
          · obtain ⟨j, o, z1, z2⟩ := z
            by_cases hv : j ∈ vs
            · exact absurd (restE_in hv z1) (noOwn_mem hno hv)
            · rw [restE_out hv] at z1
              exact no2 ⟨j, o, z1, by rw [wipe_out hv]; exact z2⟩
      · cases e
    · cases e
  · cases e
theorem de_dc {vs : List Nat} (hc : X.calm = true) (hN : X.N.Nodup) (ok : BlkOk X.N X.env.scope scope own) (hv : own.map (·.2) = vs) (hi : DI X tg iter mi) (hg : ∀ n i, DG (blkX X scope i) (OnlyB vs n) tg g) (ht : ∀ i, DTs (blkX X scope i) ifs mt)
    (hk : ∀ i, DE (blkX X scope i) kx mk) (he : ∀ i, DE (blkX X scope i) vx me) (hs : ∀ x, foldedSetIterable iter X.env x = pure x := by intro _; rfl) : DE X (.DictComp kx vx [⟨tg, iter, ifs, 0⟩] scope pos) (mDc mi vs g mt mk me) := by
  subst hv
  obtain ⟨wi, h1, ki⟩ := hi.ex
  obtain ⟨tg', h2, kg⟩ := uni_gn (c := blkX X scope) (G := wd X) (fun _ => rfl) hg
  obtain ⟨tt, h3, kt⟩ := uni_t (c := blkX X scope) (G := wd X) (fun _ => rfl) ht
  obtain ⟨tk, h4, kk⟩ := uni_e (c := blkX X scope) (G := wd X) (fun _ => rfl) hk
  obtain ⟨te, h5, ke⟩ := uni_e (c := blkX X scope) (G := wd X) (fun _ => rfl) he
  exact ⟨_, pe_dc hc hN h1 ok (fun s H C cl fp => h2 ⟨s, H, C, cl, fp⟩) (fun s H C cl fp => h3 ⟨s, H, C, cl, fp⟩) (fun s H C cl fp => h4 ⟨s, H, C, cl, fp⟩) (fun s H C cl fp => h5 ⟨s, H, C, cl, fp⟩) hs, dc_run ki kg kt kk ke⟩
end
end Mw

set_option Elab.async false
set_option linter.all false
set_option maxRecDepth 100000
set_option autoImplicit false
namespace Mw
open PySem PySem.Spec PyProof.Rows L2
section
variable {X : Cx} {tg iter kx vx : Expr} {ifs : List Expr} {scope : Scope} {own : List (Str × Nat)} {pos spos py : Pos} {mi : MI} {g : MG} {mt : MT} {mk me : ME} {y : Str} {i : Nat} {B : List Nat}
/-- name = {..} on one line -/
theorem ps_setDc {wi : TI} {tg' : TG} {tt : TT} {tk tv : TE} (hc : X.calm = true) (hN : X.N.Nodup) (hy : X.N[i]? = some y) (hyl : X.env.scope.names.lookup y = some .local) (hsw : swapsWith (.DictComp kx vx [⟨tg, iter, ifs, 0⟩] scope pos) (some (.Name y py)) spos.line X.env = pure true)
    (hi : PI X tg iter wi) (ok : BlkOk X.N X.env.scope scope own) (hg : ∀ (s : Shared) (H : Hp) (C : Addr) (cl : List (Str × Addr)) (fp : List Addr), PG (X.blk s H scope (compEnvC scope cl C X.env) fp) tg tg')
    (ht : ∀ (s : Shared) (H : Hp) (C : Addr) (cl : List (Str × Addr)) (fp : List Addr), PTs (X.blk s H scope (compEnvC scope cl C X.env) fp) ifs tt) (hk : ∀ (s : Shared) (H : Hp) (C : Addr) (cl : List (Str × Addr)) (fp : List Addr), PE (X.blk s H scope (compEnvC scope cl C X.env) fp) kx tk)
    (he : ∀ (s : Shared) (H : Hp) (C : Addr) (cl : List (Str × Addr)) (fp : List Addr), PE (X.blk s H scope (compEnvC scope cl C X.env) fp) vx tv) (hs : ∀ x, foldedSetIterable iter X.env x = pure x := by intro _; rfl) :
    PS X (.Assign [.Name y py] (.DictComp kx vx [⟨tg, iter, ifs, 0⟩] scope pos) spos) (tAsg (tDc wi tg' tt tk tv (own.map (·.2))) (gName i)) := by
  constructor
  intro pins s σ H D I h
  rw [exec_Assign_Name_used _ _ _ _ hsw]
  apply wpAny_bind
  apply wpAny_standAt
  apply wpAny_bind
  show wpAny _ X.A (do let _ ← comprehension (.DictComp kx vx [⟨tg, iter, ifs, 0⟩] scope pos) scope X.env (firstIterPos [⟨tg, iter, ifs, 0⟩] pos) newDict false (eval iter X.env) (some (assign (.Name y py) X.env))) _ _ s
  have h : tDc wi tg' tt tk tv (own.map (·.2)) σ H (fun x H1 => gName i x σ H1 D.nx) := h
  apply wpAny_bind
  refine thn (dc_core (Qf := fun _ z => SP X pins D .next z) hc hN I hi ok hg ht hk he hs h fun L C z m H2 J q hn f => ?_) fun _ z w => wpAny_pure (wpAny_pure w)
  show wpAny _ _ (assign (.Name y py) X.env (.ref L)) _ _ _
  refine wpAny_assign_Name (store_ok2 (v := V.ref L) J hN hy (.inl hyl) rfl (fun z2 J2 w => ?_) (.inr hyl))
  obtain ⟨a, sb, ha⟩ := w
  obtain ⟨f0, f1, -, f3, f4, f5⟩ := f
  have ne : C ≠ a := ha.elim (fun w => by rw [w]; exact f1) fun w e => f4 y a w e.symm
  refine ⟨m, hn.sameBut sb ne, fun h3 sb3 => ⟨_, H2, J2.turned (t' := z2.toks) (fun b o hb e => ?_) f0 f1 f3 f4 f5, q⟩⟩
  exact (sb3.2 b hb).trans e
theorem sw_dict {gs : List Comprehension} {l : Nat} {env : PySem.Env} (hk : env.scope.kind = .function) (hy : env.scope.names.lookup y = some .local) (hl : (py.line == pos.line) = true)
    (ha : (scope.names.any fun (n, k) => n == y && (k == .local || k == .cell)) = false) : swapsWith (.DictComp kx vx gs scope pos) (some (.Name y py)) l env = pure true := by
  have e1 : env.kindOf y = some .local := hy
  have e2 : env.blockKind = .function := by
    unfold Env.blockKind
    rw [hk]
    rfl
  unfold swapsWith
  simp only [e2, e1, ha, Expr.pos, hl]
  rfl
theorem ds_setDc {vs : List Nat} (hc : X.calm = true) (hN : X.N.Nodup) (ok : BlkOk X.N X.env.scope scope own) (hv : own.map (·.2) = vs)
    (hsw : swapsWith (.DictComp kx vx [⟨tg, iter, ifs, 0⟩] scope pos) (some (.Name y py)) spos.line X.env = pure true) (hi : DI X tg iter mi) (hg : ∀ n i, DG (blkX X scope i) (OnlyB vs n) tg g) (ht : ∀ i, DTs (blkX X scope i) ifs mt)
    (hk : ∀ i, DE (blkX X scope i) kx mk) (he : ∀ i, DE (blkX X scope i) vx me) (hy : X.N[i]? = some y := by rfl) (hyl : X.env.scope.names.lookup y = some .local := by rfl) (hB : i ∉ B := by decide) (hs : ∀ x, foldedSetIterable iter X.env x = pure x := by intro _; rfl) :
    DS X B (.Assign [.Name y py] (.DictComp kx vx [⟨tg, iter, ifs, 0⟩] scope pos) spos) (mSet i (mDc mi vs g mt mk me)) := by
  subst hv
  obtain ⟨wi, h1, ki⟩ := hi.ex
  obtain ⟨tg', h2, kg⟩ := uni_gn (c := blkX X scope) (G := wd X) (fun _ => rfl) hg
  obtain ⟨tt, h3, kt⟩ := uni_t (c := blkX X scope) (G := wd X) (fun _ => rfl) ht
  obtain ⟨tk, h4, kk⟩ := uni_e (c := blkX X scope) (G := wd X) (fun _ => rfl) hk
  obtain ⟨te, h5, ke⟩ := uni_e (c := blkX X scope) (G := wd X) (fun _ => rfl) he
  exact ⟨_, ps_setDc hc hN hy hyl hsw h1 ok (fun s H C cl fp => h2 ⟨s, H, C, cl, fp⟩) (fun s H C cl fp => h3 ⟨s, H, C, cl, fp⟩) (fun s H C cl fp => h4 ⟨s, H, C, cl, fp⟩) (fun s H C cl fp => h5 ⟨s, H, C, cl, fp⟩) hs, set_run (dc_run ki kg kt kk ke) hB⟩
end
end Mw

set_option Elab.async false
set_option linter.all false
set_option maxRecDepth 100000
set_option autoImplicit false
namespace Mw
open PySem PySem.Spec PyProof.Rows L2

/-! ### enumerate(t), t a tuple -/
set_option maxHeartbeats 1000000 in
theorem meets_enum1 {v : Value} {o : Obj} {H : Heap → Prop} (B : Begins v o H) :
    Meets (Builtin.«enumerate.__new__» ⟨[.type "enumerate", v], []⟩) (fun _ R s => H s.heap ∧
      R (.ok (.ret (.ref (s.heap.push o).objs.size))) { s with heap := (s.heap.push o).push { cls := .type "enumerate", data := .fields #[.none, .bool false, .ref s.heap.objs.size, rawInt 0, .none, .none] } }) :=
  .of_wp fun prog w A R s z => by
    obtain ⟨hp, g, d, tk, os⟩ := s; obtain ⟨z1, z⟩ := z
    have hsub := sub_enumerate
    have it : ∀ {A' : Around} {E : Value → Shared → Prop} {Q : Value → Shared → Prop}, Q (.ref hp.objs.size) ⟨hp.push o, g, d, tk, os⟩ → wpAny (model prog w) A' (pyIter v) Q E ⟨hp, g, d, tk, os⟩ :=
      fun q => B.iter prog w _ _ ⟨hp, g, d, tk, os⟩ _ z1 q
    wp_walk using it
    refine wpAny_stack_any fun st => wpAny_pure ?_
    split
    · rename_i c _ _ _ _ _
      cases (c == Value.type "enumerate")
      · wp_walk using it
        exact ⟨_, rfl, z⟩
      · wp_walk using it
        exact ⟨_, rfl, z⟩
    · wp_walk using it
      exact ⟨_, rfl, z⟩
section
variable {prog : Program} {w : World} {A : Around} {E : Value → Shared → Prop} {s : Shared}
theorem call_enumT {l : Addr} {items : Array Value} {Q : Value → Shared → Prop} (hL : s.heap.IsTuple l items)
    (h : ∀ h', IsEnum h' (s.heap.objs.size + 1) s.heap.objs.size 0 .none → h'.IsTupleIter s.heap.objs.size l 0 → (∀ b o, s.heap.get? b = some o → h'.get? b = some o) → Q (.ref (s.heap.objs.size + 1)) { s with heap := h' }) :
    wpAny (model prog w) A (call (.type "enumerate") [.ref l]) Q E s := by
  have B := begins_tuple l items
  refine callType_new F.called_enumerate (by decide) (F.typeCall_enumerate_1 _) (F.newCall_enumerate_1 _) (fun obj => F.args_object_init_2 obj _) F.entry_enumerate_new (meets_enum1 B) ⟨hL, ?_⟩
  show _ ∧ _
  generalize eo : ({ cls := .type "tuple_iterator", data := .fields #[.ref l, .int 0 0] } : Obj) = o at B
  have hz : (s.heap.push o).objs.size = s.heap.objs.size + 1 := Heap.size_push ..
  rw [hz]
  generalize en : ({ cls := .type "enumerate", data := .fields #[.none, .bool false, .ref s.heap.objs.size, rawInt 0, .none, .none] } : Obj) = e
  have he : ((s.heap.push o).push e).get? (s.heap.objs.size + 1) = some e := by
    have := Heap.get?_push_size (s.heap.push o) (o := e) (by rw [← en]; rfl)
    rw [hz] at this
    exact this
  have hi : ((s.heap.push o).push e).get? s.heap.objs.size = some o := Heap.get?_push_of_some _ (Heap.get?_push_size _ B.free)
  subst en
  subst eo
  exact ⟨⟨_, he, rfl⟩, h _ he ⟨_, hi, rfl, rfl⟩ fun b u x => Heap.get?_push_of_some _ (Heap.get?_push_of_some _ x)⟩
end
/-- the items of the tuple at a, each in a new pair with its number -/
def IteT (K : PySem.W.Frag) (a : Addr) : It where
  go := fun i H => ∃ (xs : List V) (x : V), SqT K H a xs ∧ xs[i]? = some x
  yld := fun i H v H' => ∃ T x, v = .ref T ∧ H T = none ∧ H' = upd H T (.tup [.int (i : Nat), x]) ∧ ∀ xs, SqT K H a xs → xs[i]? = some x
  stop := fun i H => ∃ xs : List V, SqT K H a xs ∧ xs.length ≤ i
theorem turn_enumT {P : Program} {w : World} {K : PySem.W.Frag} {elts : List Expr} {kk : Nat} {tpos : Pos} {a e it : Addr} (hne : e ≠ it) (hae : e ≠ a) (hai : a ≠ it) :
    Turn P w K (.Tuple elts kk tpos) (IteT K a) [e, it] e (fun i h => (∃ old, IsEnum h e it ((i : Nat) : Int) old) ∧ h.IsTupleIter it a i) where
  mem := List.mem_cons_self
  obj := fun i h sta b hb => by
    obtain ⟨⟨old, he⟩, ⟨o, ho, cal, hd⟩⟩ := sta
    rcases List.mem_cons.mp hb with z | z
    · subst z; exact ⟨_, he, fun v q => nomatch q⟩
    · rw [List.mem_singleton.mp z]; exact ⟨o, ho, fun v q => by rw [hd] at q; cases q⟩
  keep := fun i h h' sta k => ⟨⟨sta.1.choose, k e List.mem_cons_self _ sta.1.choose_spec⟩, sta.2.at fun o q => k it (List.mem_cons_of_mem _ List.mem_cons_self) o q⟩
  item := by
    intro X eP eW eK cal i pn s σ H E I fo sta go
    subst eP eW eK
    obtain ⟨⟨old, he⟩, iter⟩ := sta
    obtain ⟨xs, x, hq, hx⟩ := go
    obtain ⟨its, rels, p, _⟩ := I.tuple hq
    obtain ⟨u, atU, rel⟩ := rels.get hx
    have inE : e < s.heap.objs.size := Heap.lt_size he
    have inI : it < s.heap.objs.size := by obtain ⟨_, q, _⟩ := iter; exact Heap.lt_size q
    have hi : i < its.toArray.size := by
      have := (List.getElem?_eq_some_iff.mp atU).1
      simpa using this
    refine wpAny_pyNext_enum_itemC (Draws.tuple (A := X.A.in1) (I.ok.hd cal) it a hai its.toArray) he ⟨iter, p⟩ hi hne (by simp [hne, hae]) fun u' h' tk atU' ho iter' hT hsz stay => ?_
    have hu2 : u' = u := by
      rw [List.getElem?_toArray, atU] at atU'
      cases atU'
      rfl
    subst hu2
    refine ⟨_, rfl, wpAny_letOwnedTupleGo_enum (s := { s with heap := h', toks := tk + 1 }) ho fun h'' he' but => ?_⟩
    have tp : h''.get? s.heap.objs.size = some { cls := .type "tuple", data := .seq #[.int i tk, u'] } := (but.2 _ (Nat.ne_of_gt inE)).trans hT
    have okT : ObjOk X.prog X.w (upd H s.heap.objs.size (.tup [.int (i : Nat), x])) h'' s.heap.objs.size (.tup [.int (i : Nat), x]) :=
      ⟨by show 2 ≤ sizeLine; decide, [.int i tk, u'], .cons ⟨_, rfl⟩ (.cons rel .nil), ⟨_, tp, rfl, _, rfl⟩⟩
    have J1 : Inv X pn σ (upd H s.heap.objs.size (.tup [.int (i : Nat), x])) { s with heap := h'', toks := tk + 1 } :=
      I.turnedNew (ch := [e, it]) (fun b ob hb q => (but.2 b (fun z => hb (by simp [z]))).trans (stay b ob (fun z => hb (by simp [z])) (fun z => hb (by simp [z])) q)) fo (Nat.le_refl _) okT
    refine ⟨.ref s.heap.objs.size, _, J1, rfl, ⟨_, x, rfl, I.hok.fresh (Nat.le_refl _), rfl, fun ys hy => by rw [I.tuple_inj hy hq]; exact hx⟩, ⟨⟨u', ?_⟩, iter'.1.at fun o q => (but.2 it (Ne.symm hne)).trans q⟩, fun b hb => ?_⟩
    · have ei : ((i + 1 : Nat) : Int) = (i : Int) + 1 := by omega
      rw [ei]
      exact he'
    · have lb : b < s.heap.objs.size := by
        rcases List.mem_cons.mp hb with z | z
        · rw [z]; exact inE
        · rw [List.mem_singleton.mp z]; exact inI
      rw [upd_ne (Nat.ne_of_lt lb)]
      exact (fo b hb).1
  done := by
    intro X eP eW eK cal i pn s σ H E I fo sta go
    subst eP eW eK
    obtain ⟨⟨old, he⟩, iter⟩ := sta
    obtain ⟨xs, hq, hx⟩ := go
    obtain ⟨its, rels, p, _⟩ := I.tuple hq
    obtain ⟨q0, q1, q2, q3, q4, q5⟩ := fo it (by simp)
    have hl := rels.length
    have D : Draws X.prog X.w X.A.in1 it [it, a] i (fun _ _ => True) (fun j h => j = i ∧ h.IsTupleIter it a i ∧ h.IsTuple a its.toArray) :=
      ⟨fun _ _ z => let ⟨o, ho, _⟩ := z.2.1; ⟨o, ho⟩, fun _ _ _ z k => ⟨z.1, z.2.1.at fun o q => k it (by simp) o q, z.2.2.at fun o q => k a (by simp) o q⟩, fun j _ _ _ lt z => absurd z.1 (Nat.ne_of_lt lt),
        fun s Q E z hE => wpAny_nextOf_tuple_end (I.ok.hd cal) z.2.1 z.2.2 (by simp; omega) hE⟩
    exact wpAny_pyNext_enum_endD D he ⟨rfl, iter, p⟩ fun h' eb => ⟨rfl, I.turned (t' := s.toks) (fun b o hb q => eb b o hb q) q0 q1 q3 q4 q5⟩
  self := fun A i s Q E sta h => let ⟨⟨_, he⟩, _⟩ := sta; wpAny_pyIter_enum he h
def iEnumA (K : PySem.W.Frag) (ta : TA) : TI := fun σ H R => ta σ H fun vs H1 => ∃ a, vs = [.ref a] ∧ ((∃ xs, SqL K H1 a xs ∧ R (Ite K a) H1) ∨ ∃ xs, SqT K H1 a xs ∧ R (IteT K a) H1)
theorem pi_enumA {X : Cx} {e : Expr} {ta : TA} {p pos tpos : Pos} {elts : List Expr} {kk : Nat} (hg : Gl X "enumerate") (hm : X.mg "enumerate" = none) (ha : PA X [e] ta) (hs : starEach [e] X.env = [(false, eval e X.env)] := by rfl) :
    PI X (.Tuple elts kk tpos) (.Call (.Name "enumerate" p) [e] [] pos) (iEnumA X.K ta) := by
  constructor
  intro pins s σ H R I h
  refine Call_ (ld_blt I hg hm boot_enumerate (PyProof.Rows.callWith_type1 (thn (ha.run pos pins s σ H _ I h) fun us s1 z => ?_) hs rfl))
  obtain ⟨vs, H1, I1, r1, a, rfl, q⟩ := z
  obtain ⟨u, rfl, r⟩ := vals1 r1
  cases r
  have fresh : ∀ b ∈ [s1.heap.objs.size + 1, s1.heap.objs.size], FpOk X pins H1 b := fun b hb => by
    have le : s1.heap.objs.size ≤ b := by
      rcases List.mem_cons.mp hb with z | z
      · rw [z]; exact Nat.le_succ _
      · rw [List.mem_singleton.mp z]; exact Nat.le_refl _
    exact I1.fpOk le (I1.hok.fresh le)
  rcases q with ⟨xs, hq, q⟩ | ⟨xs, hq, q⟩
  · obtain ⟨its, rv, p', _⟩ := I1.list hq
    refine call_enumerate_list p'.isList fun h' he hit hsz hk => wpAny_pyIter_enum he ?_
    exact ⟨s1.heap.objs.size + 1, [s1.heap.objs.size + 1, s1.heap.objs.size], _, _, H1, rfl, I1.kept (t' := s1.toks) hk, turn_enum a (s1.heap.objs.size + 1) s1.heap.objs.size, ⟨⟨.none, he⟩, hit, Nat.succ_ne_self _⟩, fresh, q⟩
  · obtain ⟨its, rv, p', _⟩ := I1.tuple hq
    have la : a < s1.heap.objs.size := let ⟨o, ho, _⟩ := p'; Heap.lt_size ho
    refine call_enumT p' fun h' he hit hk => wpAny_pyIter_enum he ?_
    exact ⟨s1.heap.objs.size + 1, [s1.heap.objs.size + 1, s1.heap.objs.size], _, _, H1, rfl, I1.kept (t' := s1.toks) hk, turn_enumT (Nat.succ_ne_self _) (Nat.ne_of_gt (Nat.lt_succ_of_lt la)) (Nat.ne_of_lt la), ⟨⟨.none, he⟩, hit⟩, fresh, q⟩
def iEnA (m : ME) : MI := fun ρ => match m ρ with
  | some (r, ρ1) => match toD r ρ1 with
    | some (.list ds, ρ2) => some (enumD ds, ρ2)
    | some (.tuple ds, ρ2) => some (enumD ds, ρ2)
    | _ => none
  | none => none
theorem it_enumT {G : Wd} {F : Hp} {a : Addr} {xs : List V} {ds : List Pd} (h : F a = some (.tup xs)) (q : DqAll G.K F xs ds) : ItOk G F (IteT G.K a) (enumD ds) := by
  unfold ItOk
  rw [enumD_len, ← dpAll_len q]
  refine ⟨fun i H hi e => ⟨xs, xs[i], SqT.of (e _ _ h), by simp [hi]⟩, fun H e => ⟨xs, SqT.of (e _ _ h), Nat.le_refl _⟩, fun i H x H' hi e y => ?_⟩
  obtain ⟨T, x1, rfl, hT, rfl, e2⟩ := y
  obtain ⟨d, h1, h2⟩ := dpAll_getV q (e2 xs (SqT.of (e _ _ h)))
  refine ⟨.tuple [.int (i : Nat), d], ?_, .inr ⟨T, _, [.int (i : Nat), d], rfl, hT, rfl, .cons (.int _) (.cons h2 .nil), rfl⟩⟩
  unfold enumD
  rw [List.getElem?_map, List.getElem?_zipIdx, h1]
  simp
theorem di_enumA {X : Cx} {a : Expr} {ma : ME} {pos p tpos : Pos} {elts : List Expr} {kk : Nat} (hg : Gl X "enumerate") (hm : X.mg "enumerate" = none) (h : DE X a ma) (hs : starEach [a] X.env = [(false, eval a X.env)] := by rfl) (hs2 : starEach [a] X.env = (false, eval a X.env) :: starEach [] X.env := by rfl) :
    DI X (.Tuple elts kk tpos) (.Call (.Name "enumerate" p) [a] [] pos) (iEnA ma) := by
  obtain ⟨t, ht, k⟩ := h.ex
  refine ⟨_, pi_enumA hg hm (pa_cons ht pa_nil hs2) hs, fun σ H F ρ ds ρ' R s e q => ?_⟩
  unfold iEnA at e
  split at e
  · next r ρ1 e1 =>
    split at e
    · next ds' ρ2 e2 =>
      cases e
      refine k σ H F ρ r ρ1 _ s e1 fun v F1 H1 x1 y1 => ?_
      obtain ⟨F2, x2, m2, y2⟩ := toD_ok x1 y1 e2
      cases y2 with
      | lst h1 h2 => exact ⟨_, rfl, .inl ⟨_, SqL.of (x2.sat.sub _ _ h1), q _ F2 H1 x2 (it_enum (G := wd X) h1 h2)⟩⟩
    · next ds' ρ2 e2 =>
      cases e
      refine k σ H F ρ r ρ1 _ s e1 fun v F1 H1 x1 y1 => ?_
      obtain ⟨F2, x2, m2, y2⟩ := toD_ok x1 y1 e2
      cases y2 with
      | tup h1 h2 => exact ⟨_, rfl, .inr ⟨_, SqT.of (x2.sat.sub _ _ h1), q _ F2 H1 x2 (it_enumT (G := wd X) h1 h2)⟩⟩
    · cases e
  · cases e
end Mw

set_option Elab.async false
set_option linter.all false
set_option maxRecDepth 100000
set_option autoImplicit false
namespace Mw
open PySem PySem.Spec PyProof.Rows L2

/-! ### set(), s.add(k) -/
def mSet0 : ME := fun ρ => some (.new (.set (fun _ => false) 0), ρ)
section
variable {X : Cx} {pos p apos cpos : Pos} {o e : Expr} {mo me : ME}
theorem fresh_new {G : Wd} {F H : Hp} {σ : L2.St} {ρ : En} {q : Addr} {h : HO} {ob : OB} (s : Sat G F H σ ρ) (hq : H q = none) (ok : OKo G F q h ob) : Stp G F H σ ρ F (upd H q h) σ ρ ∧ RepR G F (upd H q h) σ ρ H (.ref q) (.new ob) := by
  have g := Grow.one (o := h) s.sub hq
  refine ⟨stp_grow s g.e1 g.e2 g.e3 g.nw, q, h, rfl, same_free s.sub hq, upd_same, ok, hq, fun z => ?_⟩
  obtain ⟨u, z1, _⟩ := s.own_some z
  rw [hq] at z1
  cases z1
theorem de_set0 (hg : Gl X "set") (hm : X.mg "set" = none) (hp : PE X (.Call (.Name "set" p) [] [] pos) (tCB (rSet0K X.prog X.w) tNil) := by exact pe_callTy0 cr_set0K (by first | assumption | rfl) (by first | assumption | rfl) PyProof.Rows.boot_set) : DE X (.Call (.Name "set" p) [] [] pos) mSet0 :=
  ⟨_, hp, fun σ H F ρ r ρ' Q s z q => by
    cases z
    refine ⟨rfl, fun a ha => ?_⟩
    obtain ⟨x, y⟩ := fresh_new (G := wd X) (h := SetK X.prog X.w a (fun _ => false) 0) (ob := .set (fun _ => false) 0) s ha rfl
    exact q _ F _ x y⟩
def mAdd (mo me : ME) : ME := fun ρ => match mo ρ with
  | some (.slot j, ρ1) => match setAt ρ1 (.slot j) with
    | some _ => match me ρ1 with
      | some (r, ρ2) => match toD r ρ2 with
        | some (d, ρ3) => match keyOf d with
          | some k => match setAt ρ3 (.slot j) with
            | some (S, n) => if n + 1 < scanBound then some (.dat .none, ρ3.set j (some (.obj (.set (fun i => S i || decide (i = k)) (if S k = true then n else n + 1))))) else none
            | none => none
          | none => none
        | none => none
      | none => none
    | none => none
  | _ => none
theorem de_add (ho : DE X o mo) (he : DE X e me) (hbase : attributeBase o "add" X.env (eval o X.env) = eval o X.env := by rfl)
    (hfew : ((backTo cpos (starEach [e] X.env)).all (fun x => !x.1) && (backToKw cpos (keywordEach [] X.env)).all (fun x => x.1.isSome) && decide (([e] : List Expr).length + ([] : List Keyword).length + (if ([] : List Keyword).isEmpty then 0 else 1) < 30)) = true := by rfl)
    (hline : (apos.endLine == cpos.line) = true := by rfl) (hs : starEach [e] X.env = (false, eval e X.env) :: starEach [] X.env := by rfl) (hplain : (backTo cpos (starEach [] X.env)).any (·.1) = false := by rfl) :
    DE X (.Call (.Attribute o "add" apos) [e] [] cpos) (mAdd mo me) := by
  obtain ⟨to, h1, k1⟩ := ho.ex
  obtain ⟨te, h2, k2⟩ := he.ex
  refine ⟨_, pe_saddK h1 (pa_cons h2 pa_nil hs) hbase hfew hline hs hplain, fun σ H F ρ r ρ' Q s z q => ?_⟩
  unfold mAdd at z
  split at z
  · next j ρ1 z1 =>
    split at z
    · next Sn z2 =>
      split at z
      · next re ρ2 z3 =>
        split at z
        · next d ρ3 z4 =>
          split at z
          · next k z5 =>
            split at z
            · next S n z6 =>
              split at z
              · next room =>
                cases z
                refine k1 σ H F ρ _ ρ1 _ s z1 fun v F1 H1 x1 y1 => ?_
                obtain ⟨_, a, e0, sa, _, rfl, ha⟩ := set_ok x1.sat (show RepA (wd X) F1 σ v (.slot j) from y1) (S := Sn.1) (n := Sn.2) z2
                cases e0
                refine ⟨⟨a, _, _, rfl, ha⟩, ?_⟩
                refine k2 σ H1 F1 ρ1 re ρ2 _ x1.sat z3 fun u F2 H2 x2 y2 => ?_
                obtain ⟨F3, x3, _, y3⟩ := toD_ok x2 y2 z4
                obtain ⟨_, b, e0, sb, sr, e1, hb⟩ := set_ok x3.sat (show RepA (wd X) F3 σ (.ref a) (.slot j) from sa) z6
                cases e0
                cases e1
                refine ⟨a, k, S, n, rfl, by rw [key_v y3 z5], hb, room, ?_⟩
                have x4 := stp_mut (h' := SetK X.prog X.w a (fun i => S i || decide (i = k)) (if S k = true then n else n + 1)) (o' := .set (fun i => S i || decide (i = k)) (if S k = true then n else n + 1)) x3.sat sr sb rfl
                exact q _ F3 _ ((x1.trans x3).trans x4) .non
              · cases z
            · cases z
          · cases z
        · cases z
      · cases z
    · cases z
  · cases z
end

/-! ### {k: v, ..} -/
abbrev MP := En → Option (List (Key × Pd) × En)
structure DPs (X : Cx) (pos : Pos) (keys : List (Option Expr)) (values : List Expr) (m : MP) : Prop where
  ex : ∃ trs, PPs X pos keys values trs ∧ ∀ (σ : L2.St) (H F : Hp) (ρ : En) (l : List (Key × Pd)) (ρ' : En) (Q : List (V × V) → Hp → Prop), Sat (wd X) F H σ ρ → m ρ = some (l, ρ') →
    (∀ ks F' H', Stp (wd X) F H σ ρ F' H' σ ρ' → DpKv X.K F' ks l → Q (ks.map fun kv => (kV kv.1, kv.2)) H') → tPairs trs σ H Q
def mpNil : MP := fun ρ => some ([], ρ)
def mpCons (mk me : ME) (mr : MP) : MP := fun ρ => match mk ρ with
  | some (r, ρ1) => match toD r ρ1 with
    | some (kd, ρ2) => match keyOf kd with
      | some k => match me ρ2 with
        | some (r', ρ3) => match toD r' ρ3 with
          | some (d, ρ4) => match mr ρ4 with
            | some (l, ρ5) => some ((k, d) :: l, ρ5)
            | none => none
          | none => none
        | none => none
      | none => none
    | none => none
  | none => none
section
variable {X : Cx} {pos : Pos} {k v : Expr} {ks : List (Option Expr)} {vs : List Expr} {mk me : ME} {mr : MP}
theorem dps_nil : DPs X pos [] [] mpNil := ⟨_, pps_nil, fun σ H F ρ l ρ' Q s z q => by
  cases z
  exact q [] F H (.refl s) .nil⟩
theorem dps_cons (hk : DE X k mk) (hv : DE X v me) (hr : DPs X pos ks vs mr) : DPs X pos (some k :: ks) (v :: vs) (mpCons mk me mr) := by
  obtain ⟨tk, h1, k1⟩ := hk.ex
  obtain ⟨tv, h2, k2⟩ := hv.ex
  obtain ⟨trs, h3, k3⟩ := hr.ex
  refine ⟨_, pps_cons h1 h2 h3, fun σ H F ρ l ρ' Q s z q => ?_⟩
  unfold mpCons at z
  split at z
  · next r ρ1 z1 =>
    split at z
    · next kd ρ2 z2 =>
      split at z
      · next key z3 =>
        split at z
        · next r' ρ3 z4 =>
          split at z
          · next d ρ4 z5 =>
            split at z
            · next l' ρ5 z6 =>
              cases z
              refine k1 σ H F ρ r ρ1 _ s z1 fun u F1 H1 x1 y1 => ?_
              obtain ⟨F2, x2, _, y2⟩ := toD_ok x1 y1 z2
              refine k2 σ H1 F2 ρ2 r' ρ3 _ x2.sat z4 fun w F3 H3 x3 y3 => ?_
              obtain ⟨F4, x4, _, y4⟩ := toD_ok x3 y3 z5
              refine k3 σ H3 F4 ρ4 l' _ _ x4.sat z6 fun ks' F5 H5 x5 y5 => ?_
              rw [key_v y2 z3]
              exact q ((key, w) :: ks') F5 H5 ((x2.trans x4).trans x5) (.cons ⟨rfl, dp_mono x5.ext y4⟩ y5)
            · cases z
          · cases z
        · cases z
      · cases z
    · cases z
  · cases z
def mDisp (m : MP) : ME := fun ρ => match m ρ with
  | some (l, ρ') => if l.length ≤ 15 then some (.new (.dct (mergeP [] l)), ρ') else none
  | none => none
theorem de_disp (h : DPs X pos ks vs mr) (hall : ks.all (·.isSome) = true := by rfl) (hl : ks.length = vs.length := by rfl) (h0 : ks ≠ [] := by exact nofun) (h15 : ks.length ≤ 15 := by decide) : DE X (.Dict ks vs pos) (mDisp mr) := by
  obtain ⟨trs, h1, k1⟩ := h.ex
  refine ⟨_, pe_disp h1 hall hl h0 h15, fun σ H F ρ r ρ' Q s z q => ?_⟩
  unfold mDisp at z
  split at z
  · next l ρ1 z1 =>
    split at z
    · next hlen =>
      cases z
      intro p hp
      have no : ∀ {F1 H1 : Hp} {ρ2 : En}, Stp (wd X) F (upd H p (.dK [])) σ ρ F1 H1 σ ρ2 → H1 p = some (.dK []) ∧ F1 p = none ∧ ¬ Own σ ρ2 p := fun {F1 H1 ρ2} x => by
        have np : ¬ Own σ ρ p := fun w => by
          obtain ⟨u, w1, _⟩ := s.own_some w
          rw [hp] at w1
          cases w1
        refine ⟨x.frm p _ upd_same np, ?_, fun w => ?_⟩
        · cases w : F1 p with
          | none => rfl
          | some u =>
            rcases x.new p (same_free s.sub hp) (by rw [w]; exact nofun) with y | y
            · rw [upd_same] at y; cases y
            · exact absurd y np
        · rcases x.own p w with y | y
          · exact np y
          · rw [upd_same] at y; cases y
      have g := Grow.one (o := HO.dK []) s.sub hp
      have x0 := stp_grow (G := wd X) s g.e1 g.e2 g.e3 g.nw
      refine k1 σ _ F ρ l _ _ x0.sat z1 fun kv F1 H1 x1 y1 => ?_
      obtain ⟨n1, n2, n3⟩ := no x1
      refine ⟨n1, kv, rfl, by rw [kv_len y1]; exact hlen, ?_⟩
      exact q _ F1 _ (stp_grown (x0.trans x1) hp n2 n3) ⟨p, _, rfl, n2, upd_same, ⟨_, rfl, merge_of y1 .nil⟩, hp, n3⟩
    · cases z
  · cases z
end
end Mw

set_option Elab.async false
set_option linter.all false
set_option maxRecDepth 100000
set_option autoImplicit false
namespace Mw
open PySem PySem.Spec PyProof.Rows L2

/-! ### mirrors of loops, by what stays -/
theorem mLc_ev {mi : MI} {vs : List Nat} {g : MG} {t : MT} {me : ME} {ρ ρ1 ρ2 : En} {ds out : List Pd} (hi : mi ρ = some (ds, ρ1)) (hz : ds.length < sizeLine) (hn : noOwn ρ1 vs = true) (hl : loopC vs g t me ds [] (wipeE ρ1 vs) = some (out, ρ2)) :
    mLc mi vs g t me ρ = some (.new (.lst out), restE ρ1 ρ2 vs) := by
  unfold mLc
  rw [hi]
  dsimp only
  rw [if_pos ⟨hz, hn⟩, hl]
theorem mDc_ev {mi : MI} {vs : List Nat} {g : MG} {t : MT} {mk me : ME} {ρ ρ1 ρ2 : En} {ds : List Pd} {out : List (Key × Pd)} (hi : mi ρ = some (ds, ρ1)) (hz : ds.length < sizeLine) (hn : noOwn ρ1 vs = true) (hl : loopD vs g t mk me ds [] (wipeE ρ1 vs) = some (out, ρ2)) :
    mDc mi vs g t mk me ρ = some (.new (.dct out), restE ρ1 ρ2 vs) := by
  unfold mDc
  rw [hi]
  dsimp only
  rw [if_pos ⟨hz, hn⟩, hl]
theorem few {n : Nat} (h : n < 1000000) : n < sizeLine := by
  rw [sizeLine_eq]
  omega
section
variable {vs : List Nat} {g : MG} {t : MT} {me mk : ME} {body : MS}
theorem loopC_inv {R : Pd → Pd → Prop} (I : En → Prop) : ∀ (ds acc : List Pd) (ρ : En), I ρ →
    (∀ d ∈ ds, ∀ ρ, I ρ → ∃ ρ1 ρ2 r ρ3 d' ρ4, g d ρ = some ρ1 ∧ t ρ1 = some (true, ρ2) ∧ me ρ2 = some (r, ρ3) ∧ toD r ρ3 = some (d', ρ4) ∧ R d d' ∧ I (wipeE ρ4 vs)) →
    ∃ out ρ', loopC vs g t me ds acc ρ = some (acc ++ out, ρ') ∧ I ρ' ∧ Paired R ds out
  | [], acc, ρ, h, _ => ⟨[], ρ, by simp [loopC], h, .nil⟩
  | d :: ds, acc, ρ, h, step => by
    obtain ⟨ρ1, ρ2, r, ρ3, d', ρ4, e1, e2, e3, e4, hR, h'⟩ := step d List.mem_cons_self ρ h
    obtain ⟨out, ρ', e5, h5, p5⟩ := loopC_inv I ds (acc ++ [d']) _ h' fun x hx => step x (List.mem_cons_of_mem _ hx)
    refine ⟨d' :: out, ρ', ?_, h5, .cons hR p5⟩
    simp only [loopC, e1, e2, e3, e4, e5, List.append_assoc, List.singleton_append]
theorem loopC_pure (p : Pd → Bool) (f : Pd → Pd) (ρ : En) : ∀ (ds acc : List Pd),
    (∀ d ∈ ds, ∃ ρ1, g d ρ = some ρ1 ∧ ((p d = true ∧ ∃ ρ2 r ρ3 ρ4, t ρ1 = some (true, ρ2) ∧ me ρ2 = some (r, ρ3) ∧ toD r ρ3 = some (f d, ρ4) ∧ wipeE ρ4 vs = ρ) ∨ (p d = false ∧ ∃ ρ2, t ρ1 = some (false, ρ2) ∧ wipeE ρ2 vs = ρ))) →
    loopC vs g t me ds acc ρ = some (acc ++ (ds.filter p).map f, ρ)
  | [], acc, _ => by simp [loopC]
  | d :: ds, acc, step => by
    have rest := fun acc => loopC_pure p f ρ ds acc fun x hx => step x (List.mem_cons_of_mem _ hx)
    obtain ⟨ρ1, e1, ⟨hp, ρ2, r, ρ3, ρ4, e2, e3, e4, e5⟩ | ⟨hp, ρ2, e2, e5⟩⟩ := step d List.mem_cons_self
    · simp only [loopC, e1, e2, e3, e4, e5, rest, List.filter_cons, hp, if_true, List.map_cons, List.append_assoc, List.singleton_append]
    · simp only [loopC, e1, e2, e5, rest, List.filter_cons, hp, Bool.false_eq_true, if_false]
theorem loopD_pure (p : Pd → Bool) (k : Pd → Key) (f : Pd → Pd) (ρ : En) : ∀ (ds : List Pd) (acc : List (Key × Pd)),
    (∀ d ∈ ds, ∃ ρ1, g d ρ = some ρ1 ∧ ((p d = true ∧ ∃ ρ2 r ρ3 kd ρ4 r' ρ5 ρ6, t ρ1 = some (true, ρ2) ∧ mk ρ2 = some (r, ρ3) ∧ toD r ρ3 = some (kd, ρ4) ∧ keyOf kd = some (k d) ∧ me ρ4 = some (r', ρ5) ∧ toD r' ρ5 = some (f d, ρ6) ∧ wipeE ρ6 vs = ρ) ∨ (p d = false ∧ ∃ ρ2, t ρ1 = some (false, ρ2) ∧ wipeE ρ2 vs = ρ))) →
    loopD vs g t mk me ds acc ρ = some (mergeP acc ((ds.filter p).map fun d => (k d, f d)), ρ)
  | [], acc, _ => by simp [loopD, mergeP]
  | d :: ds, acc, step => by
    have rest := fun acc => loopD_pure p k f ρ ds acc fun x hx => step x (List.mem_cons_of_mem _ hx)
    obtain ⟨ρ1, e1, ⟨hp, ρ2, r, ρ3, kd, ρ4, r', ρ5, ρ6, e2, e3, e4, ek, e5, e6, e7⟩ | ⟨hp, ρ2, e2, e5⟩⟩ := step d List.mem_cons_self
    · simp only [loopD, e1, e2, e3, e4, ek, e5, e6, e7, rest, List.filter_cons, hp, if_true, List.map_cons]
      rfl
    · simp only [loopD, e1, e2, e5, rest, List.filter_cons, hp, Bool.false_eq_true, if_false]
/-- a for loop: it ends, or it is left with a value of which Z speaks -/
theorem loopS_inv (I : List Pd → En → Prop) (Z : Rs → En → Prop) : ∀ (ds : List Pd) (ρ : En), I ds ρ →
    (∀ d ds ρ, I (d :: ds) ρ → ∃ ρ1 ρ2, g d ρ = some ρ1 ∧ (((body ρ1 = some (.next, ρ2) ∨ body ρ1 = some (.cnt, ρ2)) ∧ I ds ρ2) ∨ ∃ r, body ρ1 = some (.ret r, ρ2) ∧ Z r ρ2)) →
    (∃ ρ', loopS g body ds ρ = some (.next, ρ') ∧ I [] ρ') ∨ ∃ r ρ', loopS g body ds ρ = some (.ret r, ρ') ∧ Z r ρ'
  | [], ρ, h, _ => .inl ⟨ρ, rfl, h⟩
  | d :: ds, ρ, h, step => by
    obtain ⟨ρ1, ρ2, e1, ⟨e2, h2⟩ | ⟨r, e2, z⟩⟩ := step d ds ρ h
    · have e : loopS g body (d :: ds) ρ = loopS g body ds ρ2 := by
        rcases e2 with e2 | e2 <;> simp only [loopS, e1, e2]
      rw [e]
      exact loopS_inv I Z ds ρ2 h2 step
    · exact .inr ⟨r, ρ2, by simp only [loopS, e1, e2], z⟩
theorem loopS_all (I : List Pd → En → Prop) (ds : List Pd) (ρ : En) (h : I ds ρ)
    (step : ∀ d ds ρ, I (d :: ds) ρ → ∃ ρ1 ρ2, g d ρ = some ρ1 ∧ (body ρ1 = some (.next, ρ2) ∨ body ρ1 = some (.cnt, ρ2)) ∧ I ds ρ2) : ∃ ρ', loopS g body ds ρ = some (.next, ρ') ∧ I [] ρ' := by
  rcases loopS_inv (g := g) (body := body) I (fun _ _ => False) ds ρ h (fun d ds ρ z => by
    obtain ⟨ρ1, ρ2, a, b, c⟩ := step d ds ρ z
    exact ⟨ρ1, ρ2, a, .inl ⟨b, c⟩⟩) with z | ⟨_, _, _, z⟩
  · exact z
  · exact z.elim
/-- a while loop that goes down -/
theorem loopW_inv (I : En → Prop) (μ : En → Nat) (Z : Fl → En → Prop) (step : ∀ ρ, I ρ → ∃ b ρ1, t ρ = some (b, ρ1) ∧ ((b = false ∧ Z .next ρ1) ∨ (b = true ∧ ∃ ρ2, ((body ρ1 = some (.next, ρ2) ∨ body ρ1 = some (.cnt, ρ2)) ∧ I ρ2 ∧ μ ρ2 < μ ρ) ∨ (body ρ1 = some (.brk, ρ2) ∧ Z .next ρ2) ∨ ∃ r, body ρ1 = some (.ret r, ρ2) ∧ Z (.ret r) ρ2))) :
    ∀ (k : Nat) (ρ : En), I ρ → μ ρ ≤ k → ∃ n fl ρ', loopW t body n ρ = some (fl, ρ') ∧ Z fl ρ' := by
  intro k
  induction k with
  | zero =>
    intro ρ h hk
    obtain ⟨b, ρ1, e1, ⟨rfl, z⟩ | ⟨rfl, ρ2, ⟨_, _, lt⟩ | ⟨e2, z⟩ | ⟨r, e2, z⟩⟩⟩ := step ρ h
    · exact ⟨1, .next, ρ1, by simp only [loopW, e1], z⟩
    · omega
    · exact ⟨1, .next, ρ2, by simp only [loopW, e1, e2], z⟩
    · exact ⟨1, .ret r, ρ2, by simp only [loopW, e1, e2], z⟩
  | succ k ih =>
    intro ρ h hk
    obtain ⟨b, ρ1, e1, ⟨rfl, z⟩ | ⟨rfl, ρ2, ⟨e2, h2, lt⟩ | ⟨e2, z⟩ | ⟨r, e2, z⟩⟩⟩ := step ρ h
    · exact ⟨1, .next, ρ1, by simp only [loopW, e1], z⟩
    · obtain ⟨n, fl, ρ', e3, z⟩ := ih ρ2 h2 (by omega)
      exact ⟨n + 1, fl, ρ', by rcases e2 with e2 | e2 <;> simp only [loopW, e1, e2, e3], z⟩
    · exact ⟨1, .next, ρ2, by simp only [loopW, e1, e2], z⟩
    · exact ⟨1, .ret r, ρ2, by simp only [loopW, e1, e2], z⟩
end
end Mw

set_option Elab.async false
set_option linter.all false
set_option maxRecDepth 100000
set_option autoImplicit false
namespace Mw
open PySem PySem.Spec PyProof.Rows L2

/-! ### dicts whose keys are tuples -/
def keysOf : List Pd → Option (List Key)
  | [] => some []
  | d :: ds => match keyOf d with
    | some k => match keysOf ds with
      | some ks => some (k :: ks)
      | none => none
    | none => none
def keyT : Pd → Option (List Key)
  | .tuple ds => keysOf ds
  | _ => none
theorem keys_v {K : PySem.W.Frag} {F : Hp} : ∀ {vs : List V} {ds : List Pd} {ks : List Key}, DqAll K F vs ds → keysOf ds = some ks → vs = ks.map kV
  | _, _, _, .nil, e => by cases e; rfl
  | _, _, _, .cons (d := d) (ds := ds) h q, e => by
    simp only [keysOf] at e
    split at e
    · next k e1 =>
      split at e
      · next l e2 =>
        cases e
        rw [keys_v q e2, key_v h e1]
        rfl
      · cases e
    · cases e
theorem keyT_v {K : PySem.W.Frag} {F : Hp} {v : V} {d : Pd} {ks : List Key} (h : Dq K F v d) (e : keyT d = some ks) : ∃ b, v = .ref b ∧ F b = some (.tup (ks.map kV)) := by
  cases h with
  | tup h q =>
    have w := keys_v q e
    subst w
    exact ⟨_, rfl, h⟩
  | _ => cases e
def valT (kvs : List (List Key × Pd)) (k : List Key) : Option Pd := (kvs.find? fun kv => decide (kv.1 = k)).map (·.2)
def putT (kvs : List (List Key × Pd)) (k : List Key) (d : Pd) : List (List Key × Pd) :=
  if (kvs.any fun kv => decide (kv.1 = k)) = true then kvs.map (fun kv => if kv.1 = k then (kv.1, d) else kv) else kvs ++ [(k, d)]
section
variable {K : PySem.W.Frag} {F : Hp}
theorem kt_val {k : List Key} : ∀ {ks : List (List Key × V)} {kd : List (List Key × Pd)}, DpKt K F ks kd → (valV ks k = none ∧ valT kd k = none) ∨ ∃ v d, valV ks k = some v ∧ valT kd k = some d ∧ Dq K F v d
  | _, _, .nil => .inl ⟨rfl, rfl⟩
  | _, _, .cons (a := p) (b := q) (l₁ := ps) (l₂ := qs) h t => by
    by_cases hk : q.1 = k
    · right
      refine ⟨p.2, q.2, ?_, ?_, h.2⟩
      · exact valV_pos (h.1.trans hk)
      · simp [valT, List.find?_cons, hk]
    · have e1 : valV (p :: ps) k = valV ps k := valV_neg fun z => hk (h.1.symm.trans z)
      have e2 : valT (q :: qs) k = valT qs k := by simp [valT, List.find?_cons, hk]
      rw [e1, e2]
      exact kt_val t
theorem kt_any {k : List Key} : ∀ {ks : List (List Key × V)} {kd : List (List Key × Pd)}, DpKt K F ks kd → (ks.any fun kv => decide (kv.1 = k)) = kd.any fun kv => decide (kv.1 = k)
  | _, _, .nil => rfl
  | _, _, .cons h t => by
    rw [List.any_cons, List.any_cons, kt_any t, h.1]
theorem kt_map {k : List Key} {v : V} {d : Pd} (hd : Dq K F v d) : ∀ {ks : List (List Key × V)} {kd : List (List Key × Pd)}, DpKt K F ks kd → DpKt K F (ks.map fun kv => if kv.1 = k then (kv.1, v) else kv) (kd.map fun kv => if kv.1 = k then (kv.1, d) else kv)
  | _, _, .nil => .nil
  | _, _, .cons (a := p) (b := q) h t => by
    refine .cons ?_ (kt_map hd t)
    dsimp only
    by_cases hk : q.1 = k
    · rw [if_pos (h.1.trans hk), if_pos hk]
      exact ⟨h.1, hd⟩
    · rw [if_neg fun z => hk (h.1.symm.trans z), if_neg hk]
      exact h
theorem kt_app : ∀ {ks ls : List (List Key × V)} {kd ld : List (List Key × Pd)}, DpKt K F ks kd → DpKt K F ls ld → DpKt K F (ks ++ ls) (kd ++ ld)
  | _, _, _, _, .nil, q => q
  | _, _, _, _, .cons h t, q => .cons h (kt_app t q)
theorem kt_put {k : List Key} {v : V} {d : Pd} (hd : Dq K F v d) {ks : List (List Key × V)} {kd : List (List Key × Pd)} (h : DpKt K F ks kd) : DpKt K F (putK ks k v) (putT kd k d) := by
  unfold putK putT
  rw [kt_any h]
  split
  · exact kt_map hd h
  · exact kt_app h (.cons ⟨rfl, hd⟩ .nil)
theorem kt_len {ks : List (List Key × V)} {kd : List (List Key × Pd)} (h : DpKt K F ks kd) : ks.length = kd.length := Paired.length h
end
section
variable {X : Cx} {B : List Nat} {a b e x i f o : Expr} {es : List Expr} {ma mb mc m me mx mi mo mk md : ME} {ms : MA} {pos pos' p apos cpos : Pos}
/-- {}, to hold keys that are tuples -/
def mD0T : ME := fun ρ => some (.new (.dtt []), ρ)
theorem de_dict0T : DE X (.Dict [] [] pos) mD0T := ⟨_, pe_dnewT, fun σ H F ρ r ρ' Q s e q => by
  cases e
  intro p hp
  have g := Grow.one (o := HO.dT []) s.sub hp
  have x := stp_grow s g.e1 g.e2 g.e3 g.nw
  refine q _ F _ x ⟨p, _, rfl, same_free s.sub hp, upd_same, ⟨[], rfl, .nil⟩, hp, fun z => ?_⟩
  obtain ⟨o, z1, _⟩ := s.own_some z
  rw [hp] at z1
  cases z1⟩
/-- d[(k, l)] = e -/
def setTAt (ρ : En) (j : Nat) (di d : Pd) : Option En := match ρ[j]? with
  | some (some (.obj (.dtt kvs))) => match keyT di with
    | some k => if kvs.length < sizeLine then some (ρ.set j (some (.obj (.dtt (putT kvs k d))))) else none
    | none => none
  | _ => none
def mSetT (me mx mi : ME) : MS := fun ρ => match me ρ with
  | some (r, ρ1) => match toD r ρ1 with
    | some (d, ρ2) => match mx ρ2 with
      | some (.slot j, ρ3) => match mi ρ3 with
        | some (.dat di, ρ4) => match setTAt ρ4 j di d with
          | some ρ5 => some (.next, ρ5)
          | none => none
        | _ => none
      | _ => none
    | none => none
  | none => none
theorem ds_setT (hu : X.A.units + 1 < cLine) (he : DE X e me) (hx : DE X x mx) (hi : DE X i mi) (hs2 : swapsWith e (some (.Subscript x i pos')) pos.line X.env = pure false := by rfl) : DS X B (.Assign [.Subscript x i pos'] e pos) (mSetT me mx mi) := by
  obtain ⟨te, h1', ke⟩ := he.ex
  obtain ⟨tx, h2, kx⟩ := hx.ex
  obtain ⟨ti, h3, ki⟩ := hi.ex
  refine ⟨_, ps_dput hu h2 h3 h1' hs2, fun σ H F ρ fl ρ' D s e q => ?_⟩
  unfold mSetT at e
  split at e
  · next r ρ1 e1 =>
    split at e
    · next d ρ2 e2 =>
      split at e
      · next j ρ3 e3 =>
        split at e
        · next di ρ4 e4 =>
          split at e
          · next ρ5 e5 =>
            cases e
            refine ke σ H F ρ r ρ1 _ s e1 fun v F1 H1 x1 y1 => ?_
            obtain ⟨F2, x2, m2, y2⟩ := toD_ok x1 y1 e2
            refine kx σ H1 F2 ρ2 _ ρ3 _ x2.sat e3 fun o F3 H3 x3 y3 => ?_
            refine ki σ H3 F3 ρ3 _ ρ4 _ x3.sat e4 fun k F4 H4 x4 y4 => ?_
            have xx := (x2.trans x3).trans x4
            have yv := dp_mono (x3.ext.trans x4.ext) y2
            unfold setTAt at e5
            split at e5
            · next kvs w =>
              split at e5
              · next kk w2 =>
                split at e5
                · next hl =>
                  cases e5
                  obtain ⟨a', u, z1, z2, z3, ks, rfl, z4⟩ := xx.sat.obj j _ w
                  have y3' : σ[j]? = some (some o) := y3
                  rw [z1] at y3'
                  cases y3'
                  obtain ⟨b', rfl, hb⟩ := keyT_v y4 w2
                  refine ⟨a', _, rfl, DPut.t z3 (xx.sat.sub _ _ hb) (by rw [kt_len z4]; exact hl), ?_⟩
                  have z5 := stp_mut (h' := .dT (putK ks kk v)) (o' := .dtt (putT kvs kk d)) xx.sat w z1 ⟨_, rfl, kt_put yv z4⟩
                  exact q σ F4 _ (xx.trans z5) .refl
                · cases e5
              · cases e5
            · cases e5
          · cases e
        · cases e
      · cases e
    · cases e
  · cases e
/-- d.get((k, l), x) -/
def dttAt (ρ : En) (j : Nat) : Option (List (List Key × Pd)) := match ρ[j]? with
  | some (some (.obj (.dtt kvs))) => some kvs
  | _ => none
theorem dttAt_some {ρ : En} {j : Nat} {xs : List (List Key × Pd)} (h : dttAt ρ j = some xs) : ρ[j]? = some (some (.obj (.dtt xs))) := by
  unfold dttAt at h
  split at h
  · next q => cases h; exact q
  · cases h
def mGetT (mo mk md : ME) : ME := fun ρ => match mo ρ with
  | some (.slot j, ρ1) => match dttAt ρ1 j with
    | some _ => match mk ρ1 with
      | some (.dat kd, ρ2) => match md ρ2 with
        | some (r, ρ3) => match toD r ρ3 with
          | some (d, ρ4) => match dttAt ρ4 j with
            | some kvs => match keyT kd with
              | some k => some (.dat ((valT kvs k).getD d), ρ4)
              | none => none
            | none => none
          | none => none
        | none => none
      | _ => none
    | none => none
  | _ => none
theorem de_getT (hu : X.A.units + 1 < cLine) (ho : DE X o mo) (hk : DE X e mk) (hd : DE X f md) (m : M2 X o "get" apos e f cpos := by exact ⟨rfl, rfl, rfl, rfl⟩) : DE X (.Call (.Attribute o "get" apos) [e, f] [] cpos) (mGetT mo mk md) := by
  obtain ⟨to, h1, k1⟩ := ho.ex
  obtain ⟨tk, h2, k2⟩ := hk.ex
  obtain ⟨td, h3, k3⟩ := hd.ex
  refine ⟨_, pe_dget2 hu h1 h2 h3 m, fun σ H F ρ r ρ' Q s e q => ?_⟩
  unfold mGetT at e
  split at e
  · next j ρ1 e1 =>
    split at e
    · next kv0 e2 =>
      split at e
      · next kd ρ2 e3 =>
        split at e
        · next rx ρ3 e4 =>
          split at e
          · next d ρ4 e5 =>
            split at e
            · next kvs e6 =>
              split at e
              · next kk e7 =>
                cases e
                refine k1 σ H F ρ _ ρ1 _ s e1 fun v F1 H1 x1 y1 => ?_
                obtain ⟨a', u, z1, z2, z3, ks, rfl, z4⟩ := x1.sat.obj j _ (dttAt_some e2)
                have y1' : σ[j]? = some (some v) := y1
                rw [z1] at y1'
                cases y1'
                refine ⟨a', rfl, .inr ⟨ks, .inl z3⟩, ?_⟩
                refine k2 σ H1 F1 ρ1 _ ρ2 _ x1.sat e3 fun w F2 H2 x2 y2 => ?_
                refine k3 σ H2 F2 ρ2 _ ρ3 _ x2.sat e4 fun z F3 H3 x3 y3 => ?_
                obtain ⟨F4, x4, m4, y4⟩ := toD_ok x3 y3 e5
                have xx := (x1.trans x2).trans x4
                obtain ⟨a2, u2, t1, t2, t3, ls, rfl, t4⟩ := xx.sat.obj j _ (dttAt_some e6)
                rw [z1] at t1
                cases t1
                obtain ⟨b', rfl, hb⟩ := keyT_v (dp_mono x4.ext y2) e7
                refine ⟨_, DGet.t t3 (xx.sat.sub _ _ hb), q _ F4 H3 xx ?_⟩
                rcases kt_val (k := kk) t4 with ⟨w1, w2⟩ | ⟨vv, dd, w1, w2, w3⟩
                · rw [w1, w2]
                  exact y4
                · rw [w1, w2]
                  exact w3
              · cases e
            · cases e
          · cases e
        · cases e
      · cases e
    · cases e
  · cases e
/-! ### x[i], y[j] = e -/
def setLAt (ρ : En) (j : Nat) (di d : Pd) : Option En := match ρ[j]? with
  | some (some (.obj (.lst xs))) => match di with
    | .int k => match ixN xs.length k with
      | some n => some (ρ.set j (some (.obj (.lst (xs.set n d)))))
      | none => none
    | _ => none
  | _ => none
def putAt (mx mi : ME) (d : Pd) : En → Option En := fun ρ => match mx ρ with
  | some (.slot j, ρ1) => match mi ρ1 with
    | some (.dat di, ρ2) => setLAt ρ2 j di d
    | _ => none
  | _ => none
def mAsgI2 (me mx mi my mj : ME) : MS := fun ρ => match me ρ with
  | some (.dat (.tuple [d1, d2]), ρ1) => match putAt mx mi d1 ρ1 with
    | some ρ2 => match putAt my mj d2 ρ2 with
      | some ρ3 => some (.next, ρ3)
      | none => none
    | none => none
  | _ => none
theorem put_run {tx ti : TE} (hx : ∀ (σ : L2.St) (H F : Hp) (ρ : En) (r : Rs) (ρ' : En) (Q : VK), Sat (wd X) F H σ ρ → mx ρ = some (r, ρ') →
    (∀ v F' H', Stp (wd X) F H σ ρ F' H' σ ρ' → RepR (wd X) F' H' σ ρ' H v r → Q v H') → tx σ H Q)
    (hi : ∀ (σ : L2.St) (H F : Hp) (ρ : En) (r : Rs) (ρ' : En) (Q : VK), Sat (wd X) F H σ ρ → mi ρ = some (r, ρ') →
    (∀ v F' H', Stp (wd X) F H σ ρ F' H' σ ρ' → RepR (wd X) F' H' σ ρ' H v r → Q v H') → ti σ H Q)
    {σ : L2.St} {H F : Hp} {ρ ρ' : En} {v : V} {d : Pd} {Q : L2.St → Hp → Prop} (s : Sat (wd X) F H σ ρ) (hv : Dq X.K F v d) (e : putAt mx mi d ρ = some ρ')
    (q : ∀ F' H', Stp (wd X) F H σ ρ F' H' σ ρ' → Q σ H') : gSub tx ti rSetL v σ H Q := by
  unfold putAt at e
  split at e
  · next j ρ1 e1 =>
    split at e
    · next di ρ2 e2 =>
      unfold setLAt at e
      split at e
      · next xs w =>
        split at e
        · next kk =>
          split at e
          · next n w2 =>
            cases e
            refine hx σ H F ρ _ ρ1 _ s e1 fun o F1 H1 x1 y1 => ?_
            refine hi σ H1 F1 ρ1 _ ρ2 _ x1.sat e2 fun k F2 H2 x2 y2 => ?_
            have xx := x1.trans x2
            obtain ⟨a', u, z1, z2, z3, vs, rfl, z4⟩ := xx.sat.obj j _ w
            have y1' : σ[j]? = some (some o) := y1
            rw [z1] at y1'
            cases y1'
            cases y2
            refine ⟨a', vs, kk, n, rfl, rfl, z3, by rw [dpAll_len z4]; exact w2, ?_⟩
            have z5 := stp_mut (h' := .lst (vs.set n v)) (o' := .lst (xs.set n d)) xx.sat w z1 ⟨_, rfl, dpAll_set (dp_mono xx.ext hv) n z4⟩
            exact q F2 _ (xx.trans z5)
          · cases e
        · cases e
      · cases e
    · cases e
  · cases e
theorem ds_asgI2 {x y i j : Expr} {px py pt : Pos} {kt : Nat} (hc : X.calm = true) (he : DE X e me) (hx : DE X x mx) (hi : DE X i mi) (hy : DE X y mo) (hj : DE X j mk)
    (hs : swapsWithSole [.Tuple [.Subscript x i px, .Subscript y j py] kt pt] e pos.line X.env = pure false := by rfl) (hw : swappedStores [.Tuple [.Subscript x i px, .Subscript y j py] kt pt] e X.env = pure none := by rfl)
    (h1 : (assignEach [.Tuple [.Subscript x i px, .Subscript y j py] kt pt] X.env).map (·.2) = [assign (.Tuple [.Subscript x i px, .Subscript y j py] kt pt) X.env] := by rfl)
    (hg1 : (assignEach [.Subscript x i px, .Subscript y j py] X.env).map (·.2) = assign (.Subscript x i px) X.env :: (assignEach [.Subscript y j py] X.env).map (·.2) := by rfl) (hg2 : (assignEach [.Subscript y j py] X.env).map (·.2) = assign (.Subscript y j py) X.env :: (assignEach [] X.env).map (·.2) := by rfl)
    (hn : (assignEach [.Subscript x i px, .Subscript y j py] X.env).length = 2 := by rfl) (hst : (assignEach [.Subscript x i px, .Subscript y j py] X.env).findIdx? (·.1) = none := by rfl)
    (ha1 : ∀ v, assign (.Subscript x i px) X.env v = (do
      let ov ← holding [v] (eval x X.env)
      let iv ← holding [v, ov] (eval i X.env)
      standAt px
      holding [v, ov, iv] (setItem ov iv v)
      release [v, ov, iv] []) := by intro _; rfl)
    (ha2 : ∀ v, assign (.Subscript y j py) X.env v = (do
      let ov ← holding [v] (eval y X.env)
      let iv ← holding [v, ov] (eval j X.env)
      standAt py
      holding [v, ov, iv] (setItem ov iv v)
      release [v, ov, iv] []) := by intro _; rfl) :
    DS X B (.Assign [.Tuple [.Subscript x i px, .Subscript y j py] kt pt] e pos) (mAsgI2 me mx mi mo mk) := by
  obtain ⟨te, g1, ke⟩ := he.ex
  obtain ⟨tx, g2, kx⟩ := hx.ex
  obtain ⟨ti, g3, ki⟩ := hi.ex
  obtain ⟨ty, g4, ky⟩ := hy.ex
  obtain ⟨tj, g5, kj⟩ := hj.ex
  refine ⟨_, ps_asg g1 (pg_tup hc (pgs_cons (pg_sub g2 g3 set_list ha1) (pgs_cons (pg_sub g4 g5 set_list ha2) pgs_nil hg2) hg1) hn hst) hs hw h1, fun σ H F ρ fl ρ' D s e q => ?_⟩
  unfold mAsgI2 at e
  split at e
  · next d1 d2 ρ1 e1 =>
    split at e
    · next ρ2 e2 =>
      split at e
      · next ρ3 e3 =>
        cases e
        refine ke σ H F ρ _ ρ1 _ s e1 fun v F1 H1 x1 y1 => ?_
        cases (show Dq X.K F1 v (.tuple [d1, d2]) from y1) with
        | @tup a xs _ hF qs =>
          cases qs with
          | cons q1 qs =>
            cases qs with
            | cons q2 qs =>
              cases qs
              refine ⟨a, _, rfl, SqT.of (x1.sat.sub _ _ hF), rfl, _, _, rfl, put_run kx ki x1.sat q1 e2 fun F2 H2 x2 => ⟨_, _, rfl, put_run ky kj x2.sat (dp_mono x2.ext q2) e3 fun F3 H3 x3 => ⟨rfl, ?_⟩⟩⟩
              exact q σ F3 H3 ((x1.trans x2).trans x3) .refl
      · cases e
    · cases e
  · cases e
/-! ### a, b, c = e1, e2, e3 -/
def mPar3 (i j l : Nat) (ma mb mc : ME) : MS := fun ρ => match ma ρ with
  | some (r1, ρ1) => match mb ρ1 with
    | some (r2, ρ2) => match mc ρ2 with
      | some (r3, ρ3) => match noSlot r1 ρ3 with
        | some (r1', ρ4) => match noSlot r2 ρ4 with
          | some (r2', ρ5) => match noSlot r3 ρ5 with
            | some (r3', ρ6) => match setN i r1' ρ6 with
              | some ρ7 => match setN j r2' ρ7 with
                | some ρ8 => match setN l r3' ρ8 with
                  | some ρ9 => some (.next, ρ9)
                  | none => none
                | none => none
              | none => none
            | none => none
          | none => none
        | none => none
      | none => none
    | none => none
  | none => none
theorem noSlot_new {r : Rs} {ρ ρ' : En} {o : OB} (e : noSlot r ρ = some (.new o, ρ')) : r = .new o := by
  cases r with
  | new o1 => cases e; rfl
  | dat d => cases e
  | slot k =>
    simp only [noSlot] at e
    split at e <;> cases e
/-- a waiting result stays while another one is stored, if the stored one is no new object at the same place -/
theorem rep_wait {G : Wd} {F H H0 : Hp} {σ : L2.St} {ρ ρ' : En} {i : Nat} {v w : V} {r s : Rs} (h : RepR G F H σ ρ H0 w s) (hn : ∀ k, s ≠ .slot k) (own : ∀ a, Own (σ.set i (some v)) ρ' a → Own σ ρ a ∨ (∃ o, r = .new o ∧ v = .ref a)) (ne : ∀ o o', r = .new o → s = .new o' → v ≠ w) : RepR G F H (σ.set i (some v)) ρ' H0 w s := by
  cases s with
  | slot k => exact absurd rfl (hn k)
  | dat d => exact h
  | new o =>
    obtain ⟨p, u, ew, g1, g2, g3, g4, g5⟩ := h
    refine ⟨p, u, ew, g1, g2, g3, g4, fun z => ?_⟩
    rcases own p z with w1 | ⟨o', w1, w2⟩
    · exact g5 w1
    · exact ne o' o w1 rfl (w2.trans ew.symm)
/-- a new object that stands is not one that comes later -/
theorem new_ne {G : Wd} {F H F' H' H0 H1 : Hp} {σ σ' : L2.St} {ρ ρ' : En} {v w : V} {o o' : OB} (h : RepR G F H σ ρ H0 v (.new o)) (h' : RepR G F' H' σ' ρ' H1 w (.new o')) (k : ∀ a, H1 a = none → H a = none) : v ≠ w := by
  obtain ⟨p, u, rfl, _, g2, _⟩ := h
  obtain ⟨p', u', rfl, _, _, _, g4, _⟩ := h'
  intro z
  cases z
  rw [k p g4] at g2
  cases g2
theorem par3_run {i j l : Nat} (hi : i ∉ B) (hj : j ∉ B) (hl : l ∉ B) {c : Expr} (ha : DE X a ma) (hb : DE X b mb) (hc : DE X c mc) : ∃ ta tb tc : TE, PE X a ta ∧ PE X b tb ∧ PE X c tc ∧ ∀ (σ : L2.St) (H F : Hp) (ρ : En) (fl : Fl) (ρ' : En) (D : Ends), Sat (wd X) F H σ ρ → mPar3 i j l ma mb mc ρ = some (fl, ρ') →
    (∀ σ' F' H', Stp (wd X) F H σ ρ F' H' σ' ρ' → Kp B σ σ' → EndP (wd X) H D fl σ' F' H' ρ') →
    ∀ R : V → V → V → Hp → Prop, (∀ v w y H2, (∀ H3, Same H2 H3 → D.nx (((σ.set i (some v)).set j (some w)).set l (some y)) H3) → R v w y H2) → ta σ H fun v H1 => tb σ H1 fun w H2 => tc σ H2 fun y H3 => R v w y H3 := by
  obtain ⟨ta, h1, ka⟩ := ha.ex
  obtain ⟨tb, h2, kb⟩ := hb.ex
  obtain ⟨tc, h3, kc⟩ := hc.ex
  refine ⟨ta, tb, tc, h1, h2, h3, fun σ H F ρ fl ρ' D s e q R hR => ?_⟩
  unfold mPar3 at e
  split at e
  · next r1 ρ1 e1 =>
    split at e
    · next r2 ρ2 e2 =>
      split at e
      · next r3 ρ3 e3 =>
        split at e
        · next r1' ρ4 e4 =>
          split at e
          · next r2' ρ5 e5 =>
            split at e
            · next r3' ρ6 e6 =>
              split at e
              · next ρ7 e7 =>
                split at e
                · next ρ8 e8 =>
                  split at e
                  · next ρ9 e9 =>
                    cases e
                    refine ka σ H F ρ r1 ρ1 _ s e1 fun v F1 H1 x1 y1 => ?_
                    refine kb σ H1 F1 ρ1 r2 ρ2 _ x1.sat e2 fun w F2 H2 x2 y2 => ?_
                    refine kc σ H2 F2 ρ2 r3 ρ3 _ x2.sat e3 fun y F3 H3 x3 y3 => hR v w y H3 fun H4 e34 => ?_
                    have x3' : Stp (wd X) F3 H3 σ ρ3 F3 H4 σ ρ3 := stp_grow x3.sat (Same.refl _) e34 (x3.sat.sub.trans e34) fun _ z z' => absurd z z'
                    have y1' := repR_stp (repR_stp (repR_stp y1 x2) x3) x3'
                    have y2' := repR_stp (repR_stp y2 x3) x3'
                    have y3' := repR_stp y3 x3'
                    obtain ⟨F4, x4, z1, n1⟩ := noSlot_ok x3'.sat y1' e4
                    obtain ⟨F5, x5, z2, n2⟩ := noSlot_ok x4.sat (repR_stp y2' x4) e5
                    obtain ⟨F6, x6, z3, n3⟩ := noSlot_ok x5.sat (repR_stp (repR_stp y3' x4) x5) e6
                    have z1' := repR_stp (repR_stp z1 x5) x6
                    have z2' := repR_stp z2 x6
                    have ne12 : ∀ o o', r1' = .new o → r2' = .new o' → v ≠ w := by
                      intro o o' g g'
                      subst g g'
                      have q1 := noSlot_new e4
                      have q2 := noSlot_new e5
                      subst q1 q2
                      exact new_ne y1 y2 fun _ h => h
                    have ne13 : ∀ o o', r1' = .new o → r3' = .new o' → v ≠ y := by
                      intro o o' g g'
                      subst g g'
                      have q1 := noSlot_new e4
                      have q2 := noSlot_new e6
                      subst q1 q2
                      exact new_ne y1 y3 fun a h => x2.per a h
                    have ne23 : ∀ o o', r2' = .new o → r3' = .new o' → w ≠ y := by
                      intro o o' g g'
                      subst g g'
                      have q1 := noSlot_new e5
                      have q2 := noSlot_new e6
                      subst q1 q2
                      exact new_ne y2 y3 fun _ h => h
                    obtain ⟨s7, o7, l7⟩ := setN_ok x6.sat z1' e7
                    have w2 := rep_wait z2' n2 o7 ne12
                    have w3 := rep_wait z3 n3 o7 ne13
                    obtain ⟨s8, o8, l8⟩ := setN_ok s7 w2 e8
                    have w3' := rep_wait w3 n3 o8 ne23
                    obtain ⟨s9, o9, l9⟩ := setN_ok s8 w3' e9
                    have base := (((x1.trans x2).trans x3).trans x3').trans ((x4.trans x5).trans x6)
                    refine q _ F6 H4 ⟨s9, base.ext, base.frm, base.new, fun c z => ?_, by rw [List.length_set, List.length_set, List.length_set], base.per⟩ (((kp_set hi).trans (kp_set hj)).trans (kp_set hl))
                    rcases o9 c z with z | ⟨o, z3, z4⟩
                    · rcases o8 c z with z | ⟨o, z3, z4⟩
                      · rcases o7 c z with z | ⟨o, z3, z4⟩
                        · exact base.own c z
                        · subst z3
                          obtain ⟨p, u, ep, _, _, _, g4, _⟩ := z1'
                          rw [z4] at ep
                          cases ep
                          exact .inr g4
                      · subst z3
                        obtain ⟨p, u, ep, _, _, _, g4, _⟩ := w2
                        rw [z4] at ep
                        cases ep
                        exact .inr (x1.per _ g4)
                    · subst z3
                      obtain ⟨p, u, ep, _, _, _, g4, _⟩ := w3'
                      rw [z4] at ep
                      cases ep
                      exact .inr (x1.per _ (x2.per _ g4))
                  · cases e
                · cases e
              · cases e
            · cases e
          · cases e
        · cases e
      · cases e
    · cases e
  · cases e
theorem ds_par3 {i j l : Nat} {x y z : Str} {c : Expr} {px py pz pt : Pos} {kt k2 pt2} (hc : X.calm = true) (hN : X.N.Nodup) (ha : DE X a ma) (hb : DE X b mb) (hd : DE X c mc) (hx : X.env.scope.names.lookup x = some .local) (hy : X.env.scope.names.lookup y = some .local) (hz : X.env.scope.names.lookup z = some .local)
    (hw : swappedStores [.Tuple [.Name x px, .Name y py, .Name z pz] kt pt] (.Tuple [a, b, c] k2 pt2) X.env = pure (some [x, y, z])) (hi : X.N[i]? = some x := by rfl) (hj : X.N[j]? = some y := by rfl) (hl : X.N[l]? = some z := by rfl) (hij : i ≠ j := by decide) (hil : i ≠ l := by decide) (hjl : j ≠ l := by decide) (hiB : i ∉ B := by decide) (hjB : j ∉ B := by decide) (hlB : l ∉ B := by decide)
    (hs : swapsWithSole [.Tuple [.Name x px, .Name y py, .Name z pz] kt pt] (.Tuple [a, b, c] k2 pt2) pos.line X.env = pure false := by rfl) (hs1 : starEach [a, b, c] X.env = (false, eval a X.env) :: starEach [b, c] X.env := by rfl) (hs2 : starEach [b, c] X.env = (false, eval b X.env) :: starEach [c] X.env := by rfl) (hs3 : starEach [c] X.env = (false, eval c X.env) :: starEach [] X.env := by rfl) :
    DS X B (.Assign [.Tuple [.Name x px, .Name y py, .Name z pz] kt pt] (.Tuple [a, b, c] k2 pt2) pos) (mPar3 i j l ma mb mc) := by
  obtain ⟨ta, tb, tc, h1, h2, h3, k⟩ := par3_run hiB hjB hlB ha hb hd
  refine ⟨_, ps_par3 hc hN hi hj hl hij hil hjl hx hy hz (pa_cons h1 (pa_cons h2 (pa_cons h3 pa_nil hs3) hs2) hs1) hw hs, fun σ H F ρ fl ρ' D s e q => ?_⟩
  exact k σ H F ρ fl ρ' D s e q _ fun v w y H2 z => ⟨v, w, y, rfl, z H2 (Same.refl _)⟩
theorem ds_par3T {i j l : Nat} {x y z : Str} {c : Expr} {px py pz pt : Pos} {kt k2 pt2} (hc : X.calm = true) (hN : X.N.Nodup) (ha : DE X a ma) (hb : DE X b mb) (hd : DE X c mc) (hi : X.N[i]? = some x := by rfl) (hj : X.N[j]? = some y := by rfl) (hl : X.N[l]? = some z := by rfl) (hx : Loc X.env.scope x := by first | exact Or.inl rfl | exact Or.inr rfl) (hy : Loc X.env.scope y := by first | exact Or.inl rfl | exact Or.inr rfl) (hz : Loc X.env.scope z := by first | exact Or.inl rfl | exact Or.inr rfl)
    (hfx : X.fn x = true ∨ X.env.scope.names.lookup x = some .local := by first | exact .inl rfl | exact .inr rfl | assumption) (hfy : X.fn y = true ∨ X.env.scope.names.lookup y = some .local := by first | exact .inl rfl | exact .inr rfl | assumption) (hfz : X.fn z = true ∨ X.env.scope.names.lookup z = some .local := by first | exact .inl rfl | exact .inr rfl | assumption) (hiB : i ∉ B := by decide) (hjB : j ∉ B := by decide) (hlB : l ∉ B := by decide)
    (hs : swapsWithSole [.Tuple [.Name x px, .Name y py, .Name z pz] kt pt] (.Tuple [a, b, c] k2 pt2) pos.line X.env = pure false := by rfl) (hw : swappedStores [.Tuple [.Name x px, .Name y py, .Name z pz] kt pt] (.Tuple [a, b, c] k2 pt2) X.env = pure none := by rfl)
    (h1 : (assignEach [.Tuple [.Name x px, .Name y py, .Name z pz] kt pt] X.env).map (·.2) = [assign (.Tuple [.Name x px, .Name y py, .Name z pz] kt pt) X.env] := by rfl)
    (hs1 : starEach [a, b, c] X.env = (false, eval a X.env) :: starEach [b, c] X.env := by rfl) (hs2 : starEach [b, c] X.env = (false, eval b X.env) :: starEach [c] X.env := by rfl) (hs3 : starEach [c] X.env = (false, eval c X.env) :: starEach [] X.env := by rfl)
    (hg1 : (assignEach [.Name x px, .Name y py, .Name z pz] X.env).map (·.2) = assign (.Name x px) X.env :: (assignEach [.Name y py, .Name z pz] X.env).map (·.2) := by rfl) (hg2 : (assignEach [.Name y py, .Name z pz] X.env).map (·.2) = assign (.Name y py) X.env :: (assignEach [.Name z pz] X.env).map (·.2) := by rfl) (hg3 : (assignEach [.Name z pz] X.env).map (·.2) = assign (.Name z pz) X.env :: (assignEach [] X.env).map (·.2) := by rfl)
    (hn : (assignEach [.Name x px, .Name y py, .Name z pz] X.env).length = 3 := by rfl) (hst : (assignEach [.Name x px, .Name y py, .Name z pz] X.env).findIdx? (·.1) = none := by rfl) :
    DS X B (.Assign [.Tuple [.Name x px, .Name y py, .Name z pz] kt pt] (.Tuple [a, b, c] k2 pt2) pos) (mPar3 i j l ma mb mc) := by
  obtain ⟨ta, tb, tc, g1, g2, g3, k⟩ := par3_run hiB hjB hlB ha hb hd
  refine ⟨_, ps_asg (pe_tup (pa_cons g1 (pa_cons g2 (pa_cons g3 pa_nil hs3) hs2) hs1)) (pg_tup hc (pgs_cons (pg_name hN hi hx hfx) (pgs_cons (pg_name hN hj hy hfy) (pgs_cons (pg_name hN hl hz hfz) pgs_nil hg3) hg2) hg1) hn hst) hs hw h1, fun σ H F ρ fl ρ' D s e q => ?_⟩
  exact k σ H F ρ fl ρ' D s e q _ fun v w y H2 z => ⟨by show 3 ≤ sizeLine; decide, fun p hp => ⟨p, [v, w, y], rfl, SqT.of upd_same, rfl, v, [w, y], rfl, w, [y], rfl, y, [], rfl, rfl, z _ (same_upd hp)⟩⟩
end
end Mw

set_option Elab.async false
set_option linter.all false
set_option maxRecDepth 100000
set_option autoImplicit false
namespace Mw
open PySem PySem.Spec PyProof.Rows L2

/-! ### zip, of two lists or of two tuples -/
section
variable {X : Cx} {a b : Expr} {ma mb : ME} {pos p tpos : Pos} {elts : List Expr} {kk : Nat}
theorem it_zipT {G : Wd} {F : Hp} {a b : Addr} {xs ys : List V} {ds es : List Pd} (h : F a = some (.tup xs)) (q : DqAll G.K F xs ds) (h' : F b = some (.tup ys)) (q' : DqAll G.K F ys es) : ItOk G F (RZ.ItzT G.K a b) (zipD ds es) := by
  have hl : (zipD ds es).length = min xs.length ys.length := by
    unfold zipD
    rw [List.length_zipWith, dpAll_len q, dpAll_len q']
  unfold ItOk
  rw [hl]
  refine ⟨fun i H hi e => ?_, fun H e => ⟨xs, ys, SqT.of (e _ _ h), SqT.of (e _ _ h'), by omega⟩, fun i H v H' hi e y => ?_⟩
  · have h1 : i < xs.length := by omega
    have h2 : i < ys.length := by omega
    exact ⟨xs, ys, xs[i], ys[i], SqT.of (e _ _ h), SqT.of (e _ _ h'), by simp [h1], by simp [h2]⟩
  · obtain ⟨T, x1, x2, rfl, hT, rfl, e1, e2⟩ := y
    obtain ⟨d, h1, h2⟩ := dpAll_getV q (e1 xs (SqT.of (e _ _ h)))
    obtain ⟨d', h1', h2'⟩ := dpAll_getV q' (e2 ys (SqT.of (e _ _ h')))
    refine ⟨.tuple [d, d'], ?_, .inr ⟨T, _, [d, d'], rfl, hT, rfl, .cons h2 (.cons h2' .nil), rfl⟩⟩
    unfold zipD
    rw [List.getElem?_zipWith, h1, h1']
def zipP : Pd → Pd → Option (List Pd)
  | .list ds, .list es => some (zipD ds es)
  | .tuple ds, .tuple es => some (zipD ds es)
  | _, _ => none
def iZA (ms : MA) : MI := fun ρ => match ms ρ with
  | some ([r1, r2], ρ1) => match esc r1 ρ1 with
    | some (d1, ρ2) => match esc r2 ρ2 with
      | some (d2, ρ3) => match zipP d1 d2 with
        | some ds => some (ds, ρ3)
        | none => none
      | none => none
    | none => none
  | _ => none
theorem di_zipA (hg : Gl X "zip") (hm : X.mg "zip" = none) (ha : DE X a ma) (hb : DE X b mb) (hs1 : starEach [a, b] X.env = (false, eval a X.env) :: starEach [b] X.env := by rfl) (hs2 : starEach [b] X.env = (false, eval b X.env) :: starEach [] X.env := by rfl)
    (hp : ∀ t, PA X [a, b] t → PI X (.Tuple elts kk tpos) (.Call (.Name "zip" p) [a, b] [] pos) (RZ.iZipA X.K t) := by intro t ht; exact RZ.pi_zipA (by first | assumption | rfl) (by first | assumption | rfl) ht) : DI X (.Tuple elts kk tpos) (.Call (.Name "zip" p) [a, b] [] pos) (iZA (mCons ma (mCons mb mNil))) := by
  obtain ⟨t, ht, k⟩ := (da_cons ha (da_cons hb da_nil hs2) hs1).ex
  refine ⟨_, hp t ht, fun σ H F ρ ds ρ' R s e q => ?_⟩
  unfold iZA at e
  split at e
  · next r1 r2 ρ1 e1 =>
    split at e
    · next d1 ρ2 e2 =>
      split at e
      · next d2 ρ3 e3 =>
        split at e
        · next ds' e4 =>
          cases e
          refine k σ H F ρ _ ρ1 _ s e1 fun vs F1 H1 x1 y1 => ?_
          cases y1 with
          | cons y1 y2 => cases y2 with
            | cons y2 y3 =>
              cases y3
              obtain ⟨F2, x2, m2, z2⟩ := esc_ok x1.sat y1 e2
              obtain ⟨F3, x3, m3, z3⟩ := esc_ok x2.sat (y2.mono m2) e3
              have z2' := dp_mono m3 z2
              cases z2' with
              | lst g1 g2 => cases z3 with
                | lst g3 g4 =>
                  cases e4
                  exact ⟨_, _, _, _, rfl, .inl ⟨SqL.of (x3.sat.sub _ _ g1), SqL.of (x3.sat.sub _ _ g3), q _ F3 H1 ((x1.trans x2).trans x3) (it_zip (G := wd X) g1 g2 g3 g4)⟩⟩
                | _ => cases e4
              | tup g1 g2 => cases z3 with
                | tup g3 g4 =>
                  cases e4
                  exact ⟨_, _, _, _, rfl, .inr ⟨SqT.of (x3.sat.sub _ _ g1), SqT.of (x3.sat.sub _ _ g3), q _ F3 H1 ((x1.trans x2).trans x3) (it_zipT (G := wd X) g1 g2 g3 g4)⟩⟩
                | _ => cases e4
              | _ => cases e4
        · cases e
      · cases e
    · cases e
  · cases e
end

/-! ### what mirrors tell -/
theorem eqD_int (a b : Int) : eqD (.int a) (.int b) = some (.dat (.bool (decide (a = b)))) := by
  simp [eqD, SeqAt.shaped, PyData.canLay0, PyData.depth, PyData.eqv]
  by_cases h : a = b <;> simp [h]
theorem neD_int (a b : Int) : neD (.int a) (.int b) = some (.dat (.bool (!decide (a = b)))) := by
  simp [neD, SeqAt.shaped, PyData.canLay0, PyData.depth, PyData.eqv]
  by_cases h : a = b <;> simp [h]
theorem eqD_bool (a b : Bool) : eqD (.bool a) (.bool b) = some (.dat (.bool (a == b))) := by
  simp [eqD, SeqAt.shaped, PyData.canLay0, PyData.depth, PyData.eqv]
theorem neD_bool (a b : Bool) : neD (.bool a) (.bool b) = some (.dat (.bool (!(a == b)))) := by
  simp [neD, SeqAt.shaped, PyData.canLay0, PyData.depth, PyData.eqv]
/-- a text that can stand in data -/
abbrev TxOk (x : Str) : Prop := (PyData.str x).canLay0 = true
theorem eqD_str {x y : Str} (hx : TxOk x) (hy : TxOk y) : eqD (.str x) (.str y) = some (.dat (.bool (decide (x = y)))) := by
  unfold eqD
  rw [if_pos (by simp [SeqAt.shaped, hx, hy, PyData.depth])]
  by_cases h : x = y <;> simp [h, PyData.eqv]
theorem neD_str {x y : Str} (hx : TxOk x) (hy : TxOk y) : neD (.str x) (.str y) = some (.dat (.bool (!decide (x = y)))) := by
  unfold neD
  rw [if_pos (by simp [SeqAt.shaped, hx, hy, PyData.depth])]
  by_cases h : x = y <;> simp [h, PyData.eqv]
theorem eqD_ii (a b c d : Int) : eqD (.tuple [.int a, .int b]) (.tuple [.int c, .int d]) = some (.dat (.bool (decide (a = c ∧ b = d)))) := by
  simp [eqD, SeqAt.shaped, PyData.canLay0, PyData.canLayAll0, PyData.depth, PyData.depthAll, PyData.eqv, PyData.eqvAll]
  by_cases h : a = c <;> by_cases h' : b = d <;> simp [h, h']
/-- a rearranged list of images is a list of images -/
theorem perm_map_inv {α β : Type} (f : α → β) : ∀ (l : List β) (bs : List α), l.Perm (bs.map f) → ∃ cs : List α, cs.Perm bs ∧ cs.map f = l
  | [], bs, h => by
    have e : bs = [] := by
      have := h.length_eq
      simp at this
      exact List.eq_nil_of_length_eq_zero this.symm
    subst e
    exact ⟨[], .refl _, rfl⟩
  | a :: l, bs, h => by
    have ha : a ∈ bs.map f := h.subset List.mem_cons_self
    obtain ⟨b, hb, rfl⟩ := List.mem_map.mp ha
    obtain ⟨s, t, rfl⟩ := List.append_of_mem hb
    have h2 : (f b :: l).Perm (f b :: (s ++ t).map f) := h.trans (by simp only [List.map_append, List.map_cons]; exact List.perm_middle)
    obtain ⟨cs, h3, h4⟩ := perm_map_inv f l (s ++ t) (List.Perm.cons_inv h2)
    exact ⟨b :: cs, (List.Perm.cons b h3).trans List.perm_middle.symm, by rw [List.map_cons, h4]⟩
theorem canLayAll_of {ds : List Pd} (h : ∀ d ∈ ds, d.canLay0 = true) : PyData.canLayAll0 ds = true := by
  induction ds with
  | nil => simp [PyData.canLayAll0]
  | cons d r ih => simp [PyData.canLayAll0, h d List.mem_cons_self, ih fun x hx => h x (List.mem_cons_of_mem _ hx)]
/-- sorted(list of tuples of one kind) -/
theorem sorted_ev {β : Type} (enc : β → Pd) (bs : List β) (ha : ∀ b b', PySem.W.alike (enc b) (enc b') = true) (hs : ∀ b, ∃ x r, enc b = .tuple (x :: r)) (hl : ∀ b ∈ bs, (enc b).canLay0 = true) (hd : ∀ b, (enc b).depth ≤ 62) (hz : bs.length ≤ sizeLine) :
    ∃ cs : List β, cs.Perm bs ∧ sortedD (.list (bs.map enc)) = some (.new (.lst (cs.map enc))) := by
  obtain ⟨cs, h1, h2⟩ := perm_map_inv enc _ bs (List.mergeSort_perm (bs.map enc) (PySem.W.dataLe false id))
  refine ⟨cs, h1, ?_⟩
  rw [h2]
  unfold sortedD
  dsimp only
  have hl' : PyData.canLayAll0 (bs.map enc) = true := canLayAll_of fun d h => by
    obtain ⟨b, hb, rfl⟩ := List.mem_map.mp h
    exact hl b hb
  have hd' : ∀ d ∈ bs.map enc, d.depth ≤ 62 := fun d h => by
    obtain ⟨b, hb, rfl⟩ := List.mem_map.mp h
    exact hd b
  rw [if_pos ⟨PySem.W.AllAlike.of ha, PySem.W.Sortable.tuples hs, hl', by simpa using hz, hd'⟩]
/-- a comprehension over images -/
theorem loopC_map {β : Type} {vs : List Nat} {g : MG} {t : MT} {me : ME} (enc : β → Pd) (p : β → Bool) (f : β → Pd) (ρ : En) : ∀ (bs : List β) (acc : List Pd),
    (∀ b ∈ bs, ∃ ρ1, g (enc b) ρ = some ρ1 ∧ ((p b = true ∧ ∃ ρ2 r ρ3 ρ4, t ρ1 = some (true, ρ2) ∧ me ρ2 = some (r, ρ3) ∧ toD r ρ3 = some (f b, ρ4) ∧ wipeE ρ4 vs = ρ) ∨ (p b = false ∧ ∃ ρ2, t ρ1 = some (false, ρ2) ∧ wipeE ρ2 vs = ρ))) →
    loopC vs g t me (bs.map enc) acc ρ = some (acc ++ (bs.filter p).map f, ρ)
  | [], acc, _ => by simp [loopC]
  | d :: ds, acc, step => by
    have rest := fun acc => loopC_map enc p f ρ ds acc fun x hx => step x (List.mem_cons_of_mem _ hx)
    obtain ⟨ρ1, e1, ⟨hp, ρ2, r, ρ3, ρ4, e2, e3, e4, e5⟩ | ⟨hp, ρ2, e2, e5⟩⟩ := step d List.mem_cons_self
    · simp only [List.map_cons, loopC, e1, e2, e3, e4, e5, rest, List.filter_cons, hp, if_true, List.append_assoc, List.singleton_append]
    · simp only [List.map_cons, loopC, e1, e2, e5, rest, List.filter_cons, hp, Bool.false_eq_true, if_false]
end Mw

set_option Elab.async false
set_option linter.all false
set_option maxRecDepth 100000
set_option autoImplicit false
namespace Mw
open PySem PySem.Spec PyProof.Rows L2
section
variable {X : Cx} {B : List Nat} {a b e x i o : Expr} {es : List Expr} {ma mb m me mx mi : ME} {ms : MA} {pos pos' p apos cpos : Pos}
/-! ### xs.extend(ys) -/
def fExtend : FMu
  | xs, [.list ys] => if xs.length + ys.length ≤ sizeLine then some (.none, xs ++ ys) else none
  | _, _ => none
theorem mu_extend {G : Wd} : MuOk G rExtend fExtend := fun F H l vs avs xs as d ys Q h1 h2 h3 h4 h5 h6 q => by
  cases h3 with
  | nil => cases h6
  | cons a1 a2 => cases a2 with
    | cons _ _ =>
      simp only [fExtend] at h6
      cases h6
    | nil =>
      cases a1 with
      | lst g1 g2 =>
        simp only [fExtend] at h6
        split at h6
        · next hl =>
          cases h6
          exact ⟨l, _, vs, _, rfl, rfl, h1, h4 _ _ g1, by rw [dpAll_len h2, dpAll_len g2]; exact hl, q .non _ .non (dpAll_app h2 g2)⟩
        · cases h6
      | _ => cases h6
theorem de_extend (ho : DE X o m) (ha : DE X e me) (hst : starEach [e] X.env = (false, eval e X.env) :: starEach [] X.env := by rfl) (hbase : attributeBase o "extend" X.env (eval o X.env) = eval o X.env := by rfl)
    (hfew : ((backTo cpos (starEach [e] X.env)).all (fun x => !x.1) && (backToKw cpos (keywordEach [] X.env)).all (fun x => x.1.isSome)
      && decide ([e].length + ([] : List Keyword).length + (if ([] : List Keyword).isEmpty then 0 else 1) < 30)) = true := by rfl)
    (hline : (apos.endLine == cpos.line) = true := by rfl) (hplain : (backTo cpos (starEach [] X.env)).any (·.1) = false := by rfl) :
    DE X (.Call (.Attribute o "extend" apos) [e] [] cpos) (mMeth fExtend m (mCons me mNil)) :=
  de_meth PySem.F.slot_list_extend PySem.F.type_list_extend mt_extend mu_extend ho (da_cons ha da_nil hst) hbase hfew hline hst hplain
/-! ### sorted(d), d a dict of texts -/
def keyStrs : List (Key × Pd) → Option (List Str)
  | [] => some []
  | (.inr x, _) :: r => match keyStrs r with
    | some l => some (x :: l)
    | none => none
  | _ => none
def leS (a b : Str) : Bool := !decide (b.cps.toList < a.cps.toList)
def sortStrs (xs : List Str) : List Str := xs.mergeSort leS
theorem leS_iff {a b : Str} : leS a b = true ↔ ¬ b.cps.toList < a.cps.toList := by simp [leS]
theorem leS_trans (a b c : Str) (h1 : leS a b = true) (h2 : leS b c = true) : leS a c = true := by
  rw [leS_iff] at *
  exact fun z => absurd (List.lt_of_le_of_lt (List.not_lt.mp h2) z) h1
theorem leS_total (a b : Str) : (leS a b || leS b a) = true := by
  by_cases h : leS a b = true
  · simp [h]
  · have h' : b.cps.toList < a.cps.toList := by
      unfold leS at h
      simpa using h
    have : leS b a = true := leS_iff.mpr (List.lt_asymm h')
    simp [this]
theorem leS_anti {a b : Str} (h1 : leS a b = true) (h2 : leS b a = true) : a = b := by
  rw [leS_iff] at *
  have e : a.cps.toList = b.cps.toList := List.le_antisymm (List.not_lt.mp h1) (List.not_lt.mp h2)
  cases a
  cases b
  simp only [Str.mk.injEq]
  exact Array.toList_inj.mp e
theorem rising_pw : ∀ (l : List Str) (p : Str), risingS p l = true → (p :: l).Pairwise (fun a b => leS a b = true)
  | [], p, _ => List.pairwise_singleton _ _
  | x :: r, p, h => by
    unfold risingS at h
    rw [Bool.and_eq_true] at h
    have h1 : leS p x = true := by
      unfold leS
      rw [← ltCps_eq]
      exact h.1
    have ih := rising_pw r x h.2
    rw [List.pairwise_cons]
    refine ⟨fun y hy => ?_, ih⟩
    rcases List.mem_cons.mp hy with rfl | hy
    · exact h1
    · exact leS_trans p x y h1 (List.rel_of_pairwise_cons ih hy)
theorem sortStrs_of {ys ks : List Str} (hp : ys.Perm ks) (hs : sortedS ys = true) : ys = sortStrs ks := by
  have h1 : ys.Pairwise (fun a b => leS a b = true) := by
    cases ys with
    | nil => exact .nil
    | cons x r => exact rising_pw r x hs
  have h2 : (sortStrs ks).Pairwise (fun a b => leS a b = true) := List.pairwise_mergeSort leS_trans leS_total ks
  exact List.Perm.eq_of_pairwise (fun a b _ _ z z' => leS_anti z z') h1 h2 (hp.trans (List.mergeSort_perm ks leS).symm)
theorem keyStrs_kv {K : PySem.W.Frag} {F : Hp} : ∀ {ks : List (Key × V)} {kd : List (Key × Pd)} {l : List Str}, DpKv K F ks kd → keyStrs kd = some l → ks.map (·.1) = l.map Sum.inr
  | _, _, _, .nil, e => by cases e; rfl
  | _, _, _, .cons (a := p) (b := q) h t, e => by
    obtain ⟨k, d⟩ := q
    cases k with
    | inl i => cases e
    | inr x =>
      simp only [keyStrs] at e
      split at e
      · next l' e1 =>
        cases e
        rw [List.map_cons, List.map_cons, keyStrs_kv t e1]
        exact congrArg (· :: _) h.1
      · cases e
theorem dq_strs {K : PySem.W.Frag} {F : Hp} : ∀ l : List Str, DqAll K F (l.map V.str) (l.map PyData.str)
  | [] => .nil
  | x :: l => .cons (.str x) (dq_strs l)
def sortKv (kvs : List (Key × Pd)) (ρ : En) : Option (Rs × En) := match keyStrs kvs with
  | some ks => if ks.length < 64 then some (.new (.lst ((sortStrs ks).map .str)), ρ) else none
  | none => none
open Classical in
noncomputable def mSortK (m : ME) : ME := fun ρ => match m ρ with
  | some (.new (.dct kvs), ρ1) => sortKv kvs ρ1
  | some (.slot j, ρ1) => match dctAt ρ1 (.slot j) with
    | some kvs => sortKv kvs ρ1
    | none => mOp1 sortedD m ρ
  | _ => mOp1 sortedD m ρ
/-- a new list of texts -/
theorem new_strs {G : Wd} {F F1 H H1 : Hp} {σ : L2.St} {ρ ρ1 : En} {l : List Str} {q : Addr} (x : Stp G F H σ ρ F1 H1 σ ρ1) (hq : H1 q = none) : Stp G F H σ ρ F1 (upd H1 q (.lst (l.map V.str))) σ ρ1 ∧ RepR G F1 (upd H1 q (.lst (l.map V.str))) σ ρ1 H (.ref q) (.new (.lst (l.map PyData.str))) := by
  have g := Grow.one (o := HO.lst (l.map V.str)) x.sat.sub hq
  have y := stp_grow x.sat g.e1 g.e2 g.e3 g.nw
  refine ⟨x.trans y, q, _, rfl, same_free x.sat.sub hq, upd_same, ⟨_, rfl, dq_strs l⟩, x.per _ hq, fun z => ?_⟩
  obtain ⟨o, w, _⟩ := x.sat.own_some z
  rw [hq] at w
  cases w
theorem de_sortedK (hcalm : X.calm = true) (hu : X.A.units + 70 < cLine) (hg : Gl X "sorted") (hm : X.mg "sorted" = none) (ha : DE X a m) (hs : starEach [a] X.env = (false, eval a X.env) :: starEach [] X.env := by rfl)
    (hp : ∀ t, PA X [a] t → PE X (.Call (.Name "sorted" p) [a] [] pos) (tCB (rSortD X.K) t) := by intro t ht; exact pe_callB (cr_sortD (by first | assumption | rfl)) (by first | assumption | rfl) (by first | assumption | rfl) boot_sorted ht)
    (hp2 : ∀ t, PA X [a] t → PE X (.Call (.Name "sorted" p) [a] [] pos) (tCB (fun xs H Q => ∃ (a : Addr) (kvs : List (Key × V)) (ks : List Str), xs = [.ref a] ∧ Rd H a (.dK kvs) ∧ kvs.map (·.1) = ks.map Sum.inr ∧ ks.length < 64 ∧ ∀ ys p, ys.Perm ks → sortedS ys = true → H p = none → Q (.ref p) (upd H p (.lst (ys.map V.str)))) t) := by intro t ht; exact pe_callB (call_sortedD (by first | assumption | rfl)) (by first | assumption | rfl) (by first | assumption | rfl) boot_sorted ht) : DE X (.Call (.Name "sorted" p) [a] [] pos) (mSortK m) := by
  obtain ⟨t1, h1, k1⟩ := (de_sorted (p := p) (pos := pos) hu hg hm ha hs hp).ex
  obtain ⟨ta, h2, k2⟩ := ha.ex
  refine ⟨_, PE.or h1 (hp2 _ (pa_cons h2 pa_nil hs)), fun σ H F ρ r ρ' Q s e q => ?_⟩
  have fin : ∀ (kvs : List (Key × Pd)) (ρ1 : En), sortKv kvs ρ1 = some (r, ρ') → ∀ (F1 H1 : Hp) (p0 : Addr) (ks : List (Key × V)), Stp (wd X) F H σ ρ F1 H1 σ ρ1 → H1 p0 = some (.dK ks) → DpKv X.K F1 ks kvs →
      (∃ (a : Addr) (kvs : List (Key × V)) (ks : List Str), [V.ref p0] = [.ref a] ∧ Rd H1 a (.dK kvs) ∧ kvs.map (·.1) = ks.map Sum.inr ∧ ks.length < 64 ∧ ∀ ys p, ys.Perm ks → sortedS ys = true → H1 p = none → Q (.ref p) (upd H1 p (.lst (ys.map V.str)))) := by
    intro kvs ρ1 e1 F1 H1 p0 ks x1 hp0 hkv
    unfold sortKv at e1
    split at e1
    · next l e2 =>
      split at e1
      · next h64 =>
        cases e1
        refine ⟨p0, ks, l, rfl, .inl hp0, keyStrs_kv hkv e2, h64, fun ys q0 hys hsy hq0 => ?_⟩
        have ey := sortStrs_of hys hsy
        subst ey
        obtain ⟨y1, y2⟩ := new_strs (l := sortStrs l) x1 hq0
        exact q _ _ _ y1 y2
      · cases e1
    · cases e1
  unfold mSortK at e
  split at e
  · next kvs ρ1 e1 =>
    refine .inr (k2 σ H F ρ _ ρ1 _ s e1 fun v F1 H1 x1 y1 => ?_)
    obtain ⟨p0, h0, rfl, g1, g2, ⟨ks, rfl, g3⟩, g4, g5⟩ := y1
    exact fin kvs ρ1 e F1 H1 p0 ks x1 g2 g3
  · next j ρ1 e1 =>
    split at e
    · next kvs e2 =>
      refine .inr (k2 σ H F ρ _ ρ1 _ s e1 fun v F1 H1 x1 y1 => ?_)
      obtain ⟨i, a', ks, ei, z1, z2, rfl, z3, z4⟩ := dct_ok (r := .slot j) x1.sat y1 e2
      exact fin kvs ρ1 e F1 H1 a' ks x1 z3 z4
    · exact .inl (k1 σ H F ρ r ρ' Q s e q)
  · exact .inl (k1 σ H F ρ r ρ' Q s e q)
end
end Mw

set_option Elab.async false
set_option linter.all false
set_option maxRecDepth 100000
set_option maxHeartbeats 4000000
namespace Kx
open PySem PySem.Spec PyProof.Rows L2 Mw
def topS (i : Nat) : Stmt := PySem.Challenge.pw_mirrorwood_k05_whole_lights_along_rows.main.body.getD i (.Pass ⟨0, 0, 0, 0⟩)
abbrev s_is_number : Stmt := topS 1
abbrev N_is_number : List Str := ["thing"]
theorem sc_is_number : FnScope N_is_number ["thing"] (defScope s_is_number) := ⟨rfl, rfl, rfl, by decide +kernel, rfl, by decide +kernel, by decide +kernel⟩
noncomputable def m_is_number : MS := (mRet (mAndV (mOp1 (isiD ["int"]) (mVar 0)) (mNotV (mOp1 (isiD ["bool"]) (mVar 0)))))
noncomputable def fm_is_number : FM := runF 1 1 [] m_is_number
theorem body_is_number {P : Program} {w : World} {K : PySem.W.Frag} {mg : Str → Option Value} {base : Heap} (hB : BiOk mg)  (f : Addr) (cdv : Value) (A : Around) (outer : List PySem.Env) (s : Shared) (H : Hp) (E : XK) (hr : Room 0 (A.deeper (envOfC "is_number" (defScope s_is_number) s.heap.objs.size f cdv))) (hg0 : A.guards = some []) :
    DSs (cxN P w K mg base N_is_number "is_number" s_is_number f cdv A outer s H E) [] (defBody s_is_number) m_is_number := by
  have hgd : (cxN P w K mg base N_is_number "is_number" s_is_number f cdv A outer s H E).A.guards = some [] := hg0
  have hb_isinstance := hB "isinstance" (by decide)
  have hb_int := hB "int" (by decide)
  have hb_bool := hB "bool" (by decide)
  obtain ⟨hu70, hu65, hu64, hu1⟩ : (cxN P w K mg base N_is_number "is_number" s_is_number f cdv A outer s H E).A.units + 70 < cLine ∧ (cxN P w K mg base N_is_number "is_number" s_is_number f cdv A outer s H E).A.units + 65 < cLine ∧ (cxN P w K mg base N_is_number "is_number" s_is_number f cdv A outer s H E).A.units + 64 < cLine ∧ (cxN P w K mg base N_is_number "is_number" s_is_number f cdv A outer s H E).A.units + 1 < cLine := units_of hr
  exact (dss_one (ds_ret (de_and (de_isi rfl hb_isinstance tyOk_int (dv 0) (pty rfl hb_int PyProof.Rows.boot_int)) (de_one (de_not (de_isi rfl hb_isinstance tyOk_bool (dv 0) (pty rfl hb_bool (by decide +kernel))))))))
theorem D_is_number {P : Program} {w : World} {K : PySem.W.Frag} {mg : Str → Option Value} {base : Heap} (R : Raw K mg "is_number" s_is_number ["thing"]) (hB : BiOk mg)  : Def P w K mg base "is_number" s_is_number 1 ["thing"] fm_is_number := def_of R sc_is_number (body_is_number hB ) fun _ _ _ h => h
abbrev s_copied : Stmt := topS 2
abbrev N_copied : List Str := ["thing", "part"]
theorem sc_copied : FnScope N_copied ["thing"] (defScope s_copied) := ⟨rfl, rfl, rfl, by decide +kernel, rfl, by decide +kernel, by decide +kernel⟩
noncomputable def m_copied (fm_copied : FM) : MS := (mSeq (mIfS (mTru (mOp1 (isiD ["list"]) (mVar 0))) (mRet (mLc (iE (mVar 0)) [1] (gN 1) mYes (mCall [] fm_copied (mCons (mVar 1) mNil)))) mSkip) (mSeq (mIfS (mTru (mOp1 (isiD ["tuple"]) (mVar 0))) (mRet (mOp1 tupleD (mLc (iE (mVar 0)) [1] (gN 1) mYes (mCall [] fm_copied (mCons (mVar 1) mNil))))) mSkip) (mRet (mVar 0))))
noncomputable def fr_copied : Nat → FM
  | 0 => fun _ => none
  | d + 1 => runF 1 2 [] (m_copied (fr_copied d))
theorem body_copied {P : Program} {w : World} {K : PySem.W.Frag} {mg : Str → Option Value} {base : Heap} (hB : BiOk mg)  {k : Nat} {fm_copied : FM} (D_copied : Def P w K mg base "copied" s_copied k ["thing"] fm_copied) (hk : 0 ≤ k) (f : Addr) (cdv : Value) (A : Around) (outer : List PySem.Env) (s : Shared) (H : Hp) (E : XK) (hr : Room k (A.deeper (envOfC "copied" (defScope s_copied) s.heap.objs.size f cdv))) (hg0 : A.guards = some []) :
    DSs (cxN P w K mg base N_copied "copied" s_copied f cdv A outer s H E) [] (defBody s_copied) (m_copied fm_copied) := by
  have hgd : (cxN P w K mg base N_copied "copied" s_copied f cdv A outer s H E).A.guards = some [] := hg0
  have hb_isinstance := hB "isinstance" (by decide)
  have hb_list := hB "list" (by decide)
  have hb_tuple := hB "tuple" (by decide)
  obtain ⟨hu70, hu65, hu64, hu1⟩ : (cxN P w K mg base N_copied "copied" s_copied f cdv A outer s H E).A.units + 70 < cLine ∧ (cxN P w K mg base N_copied "copied" s_copied f cdv A outer s H E).A.units + 65 < cLine ∧ (cxN P w K mg base N_copied "copied" s_copied f cdv A outer s H E).A.units + 64 < cLine ∧ (cxN P w K mg base N_copied "copied" s_copied f cdv A outer s H E).A.units + 1 < cLine := units_of hr
  exact (dss_cons (ds_if (dt_truth (de_isi rfl hb_isinstance tyOk_list (dv 0) (pty rfl hb_list PyProof.Rows.boot_list))) (dss_one (ds_ret (de_lc rfl sc_copied.nd (blkOk_by (own := [("part", 1)]) (N := N_copied) (sc := defScope s_copied) (by first | decide +kernel | rfl)) (vs := [1]) rfl (di_e (dv 0)) (fun _ _ => (dg_name (i := 1) sc_copied.nd (hB := not_onlyB (by decide)))) (fun _ => dts_nil) (fun _ => (de_callD (B := []) D_copied hr hgd rfl (da_cons (dv 1) da_nil) (len_cons len_nil)))))) dss_nil)
    (dss_cons (ds_if (dt_truth (de_isi rfl hb_isinstance tyOk_tuple (dv 0) (pty rfl hb_tuple PyProof.Rows.boot_tuple))) (dss_one (ds_ret (de_tupC rfl hb_tuple (de_lc rfl sc_copied.nd (blkOk_by (own := [("part", 1)]) (N := N_copied) (sc := defScope s_copied) (by first | decide +kernel | rfl)) (vs := [1]) rfl (di_e (dv 0)) (fun _ _ => (dg_name (i := 1) sc_copied.nd (hB := not_onlyB (by decide)))) (fun _ => dts_nil) (fun _ => (de_callD (B := []) D_copied hr hgd rfl (da_cons (dv 1) da_nil) (len_cons len_nil))))))) dss_nil)
    (dss_one (ds_ret (dv 0)))))
theorem DR_copied {P : Program} {w : World} {K : PySem.W.Frag} {mg : Str → Option Value} {base : Heap} (R : Raw K mg "copied" s_copied ["thing"]) (hB : BiOk mg)  : ∀ d : Nat, Def P w K mg base "copied" s_copied (0 + d) ["thing"] (fr_copied d)
  | 0 => def_none R
  | d + 1 => def_of R sc_copied (body_copied hB  (DR_copied R hB  d) (Nat.le_add_right _ _)) fun _ _ _ h => h
noncomputable def fm_copied : FM := fr_copied 30
theorem D_copied {P : Program} {w : World} {K : PySem.W.Frag} {mg : Str → Option Value} {base : Heap} (R : Raw K mg "copied" s_copied ["thing"]) (hB : BiOk mg)  : Def P w K mg base "copied" s_copied 30 ["thing"] fm_copied := DR_copied R hB  30
abbrev s_counted : Stmt := topS 4
abbrev N_counted : List Str := ["wheel", "number"]
theorem sc_counted : FnScope N_counted ["wheel", "number"] (defScope s_counted) := ⟨rfl, rfl, rfl, by decide +kernel, rfl, by decide +kernel, by decide +kernel⟩
noncomputable def m_counted : MS := (mSeq (mIfS (mB (mOp2 eqD (mVar 0) (mC (.int 0)))) (mRet (mVar 1)) mSkip) (mRet (mOp2 modD (mVar 1) (mVar 0))))
noncomputable def fm_counted : FM := runF 2 2 [] m_counted
theorem body_counted {P : Program} {w : World} {K : PySem.W.Frag} {mg : Str → Option Value} {base : Heap} (hB : BiOk mg)  (f : Addr) (cdv : Value) (A : Around) (outer : List PySem.Env) (s : Shared) (H : Hp) (E : XK) (hr : Room 0 (A.deeper (envOfC "counted" (defScope s_counted) s.heap.objs.size f cdv))) (hg0 : A.guards = some []) :
    DSs (cxN P w K mg base N_counted "counted" s_counted f cdv A outer s H E) [] (defBody s_counted) m_counted := by
  have hgd : (cxN P w K mg base N_counted "counted" s_counted f cdv A outer s H E).A.guards = some [] := hg0
  obtain ⟨hu70, hu65, hu64, hu1⟩ : (cxN P w K mg base N_counted "counted" s_counted f cdv A outer s H E).A.units + 70 < cLine ∧ (cxN P w K mg base N_counted "counted" s_counted f cdv A outer s H E).A.units + 65 < cLine ∧ (cxN P w K mg base N_counted "counted" s_counted f cdv A outer s H E).A.units + 64 < cLine ∧ (cxN P w K mg base N_counted "counted" s_counted f cdv A outer s H E).A.units + 1 < cLine := units_of hr
  exact (dss_cons (ds_if (dt_cmp (op_eqD hu64) b2_eq (dv 0) de_int) (dss_one (ds_ret (dv 1))) dss_nil)
    (dss_one (ds_ret (de_op op_modN b2_mod (dv 1) (dv 0)))))
theorem D_counted {P : Program} {w : World} {K : PySem.W.Frag} {mg : Str → Option Value} {base : Heap} (R : Raw K mg "counted" s_counted ["wheel", "number"]) (hB : BiOk mg)  : Def P w K mg base "counted" s_counted 1 ["wheel", "number"] fm_counted := def_of R sc_counted (body_counted hB ) fun _ _ _ h => h
abbrev s_is_counted : Stmt := topS 5
abbrev N_is_counted : List Str := ["wheel", "thing"]
theorem sc_is_counted : FnScope N_is_counted ["wheel", "thing"] (defScope s_is_counted) := ⟨rfl, rfl, rfl, by decide +kernel, rfl, by decide +kernel, by decide +kernel⟩
noncomputable def m_is_counted : MS := (mRet (mAndV (mCall [] fm_is_number (mCons (mVar 1) mNil)) (mOp2 eqD (mCall [] fm_counted (mCons (mVar 0) (mCons (mVar 1) mNil))) (mVar 1))))
noncomputable def fm_is_counted : FM := runF 2 2 [] m_is_counted
theorem body_is_counted {P : Program} {w : World} {K : PySem.W.Frag} {mg : Str → Option Value} {base : Heap} (hB : BiOk mg) (D_is_number : Def P w K mg base "is_number" s_is_number 1 ["thing"] fm_is_number) (D_counted : Def P w K mg base "counted" s_counted 1 ["wheel", "number"] fm_counted) (f : Addr) (cdv : Value) (A : Around) (outer : List PySem.Env) (s : Shared) (H : Hp) (E : XK) (hr : Room 1 (A.deeper (envOfC "is_counted" (defScope s_is_counted) s.heap.objs.size f cdv))) (hg0 : A.guards = some []) :
    DSs (cxN P w K mg base N_is_counted "is_counted" s_is_counted f cdv A outer s H E) [] (defBody s_is_counted) m_is_counted := by
  have hgd : (cxN P w K mg base N_is_counted "is_counted" s_is_counted f cdv A outer s H E).A.guards = some [] := hg0
  obtain ⟨hu70, hu65, hu64, hu1⟩ : (cxN P w K mg base N_is_counted "is_counted" s_is_counted f cdv A outer s H E).A.units + 70 < cLine ∧ (cxN P w K mg base N_is_counted "is_counted" s_is_counted f cdv A outer s H E).A.units + 65 < cLine ∧ (cxN P w K mg base N_is_counted "is_counted" s_is_counted f cdv A outer s H E).A.units + 64 < cLine ∧ (cxN P w K mg base N_is_counted "is_counted" s_is_counted f cdv A outer s H E).A.units + 1 < cLine := units_of hr
  exact (dss_one (ds_ret (de_and (de_callD (B := []) D_is_number (hr.mono (by decide)) hgd rfl (da_cons (dv 1) da_nil) (len_cons len_nil)) (de_one (de_cmp (op_eqD hu64) b2_eq (de_callD (B := []) D_counted (hr.mono (by decide)) hgd rfl (da_cons (dv 0) (da_cons (dv 1) da_nil)) (len_cons (len_cons len_nil))) (dv 1))))))
theorem D_is_counted {P : Program} {w : World} {K : PySem.W.Frag} {mg : Str → Option Value} {base : Heap} (R : Raw K mg "is_counted" s_is_counted ["wheel", "thing"]) (hB : BiOk mg) (D_is_number : Def P w K mg base "is_number" s_is_number 1 ["thing"] fm_is_number) (D_counted : Def P w K mg base "counted" s_counted 1 ["wheel", "number"] fm_counted) : Def P w K mg base "is_counted" s_is_counted 2 ["wheel", "thing"] fm_is_counted := def_of R sc_is_counted (body_is_counted hB D_is_number D_counted) fun _ _ _ h => h
abbrev s_is_card : Stmt := topS 6
abbrev N_is_card : List Str := ["wheel", "thing", "face", "number"]
theorem sc_is_card : FnScope N_is_card ["wheel", "thing"] (defScope s_is_card) := ⟨rfl, rfl, rfl, by decide +kernel, rfl, by decide +kernel, by decide +kernel⟩
noncomputable def m_is_card : MS := (mSeq (mIfS (mOr (mNot (mTru (mOp1 (isiD ["tuple"]) (mVar 1)))) (mB (mOp2 neD (mOp1 lenD (mVar 1)) (mC (.int 2))))) (mRet (mC (.bool false))) mSkip) (mSeq (mAsg (mVar 1) (gT 2 (gsCons (gN 2) (gsCons (gN 3) gsNil)))) (mRet (mAndV (mCall [] fm_is_number (mCons (mVar 2) mNil)) (mAndV (mChain leD leD (mC (.int 0)) (mVar 2) (mC (.int 1))) (mCall [] fm_is_counted (mCons (mVar 0) (mCons (mVar 3) mNil))))))))
noncomputable def fm_is_card : FM := runF 2 4 [] m_is_card
theorem body_is_card {P : Program} {w : World} {K : PySem.W.Frag} {mg : Str → Option Value} {base : Heap} (hB : BiOk mg) (D_is_number : Def P w K mg base "is_number" s_is_number 1 ["thing"] fm_is_number) (D_is_counted : Def P w K mg base "is_counted" s_is_counted 2 ["wheel", "thing"] fm_is_counted) (f : Addr) (cdv : Value) (A : Around) (outer : List PySem.Env) (s : Shared) (H : Hp) (E : XK) (hr : Room 2 (A.deeper (envOfC "is_card" (defScope s_is_card) s.heap.objs.size f cdv))) (hg0 : A.guards = some []) :
    DSs (cxN P w K mg base N_is_card "is_card" s_is_card f cdv A outer s H E) [] (defBody s_is_card) m_is_card := by
  have hgd : (cxN P w K mg base N_is_card "is_card" s_is_card f cdv A outer s H E).A.guards = some [] := hg0
  have hb_isinstance := hB "isinstance" (by decide)
  have hb_tuple := hB "tuple" (by decide)
  have hb_len := hB "len" (by decide)
  obtain ⟨hu70, hu65, hu64, hu1⟩ : (cxN P w K mg base N_is_card "is_card" s_is_card f cdv A outer s H E).A.units + 70 < cLine ∧ (cxN P w K mg base N_is_card "is_card" s_is_card f cdv A outer s H E).A.units + 65 < cLine ∧ (cxN P w K mg base N_is_card "is_card" s_is_card f cdv A outer s H E).A.units + 64 < cLine ∧ (cxN P w K mg base N_is_card "is_card" s_is_card f cdv A outer s H E).A.units + 1 < cLine := units_of hr
  exact (dss_cons (ds_if (dt_w (dw_or (dt_not (dt_truth (de_isi rfl hb_isinstance tyOk_tuple (dv 1) (pty rfl hb_tuple PyProof.Rows.boot_tuple)))) (dw_or1 (dt_cmp (op_neD hu64) b2_ne (de_len rfl hb_len (dv 1)) de_int)))) (dss_one (ds_ret de_bl)) dss_nil)
    (dss_cons (ds_asg (dv 1) (dg_tup rfl (dgs_cons (dg_name (i := 2) sc_is_card.nd) (dgs_cons (dg_name (i := 3) sc_is_card.nd) dgs_nil))))
    (dss_one (ds_ret (de_and (de_callD (B := []) D_is_number (hr.mono (by decide)) hgd rfl (da_cons (dv 2) da_nil) (len_cons len_nil)) (de_and (de_chain op_leD op_leD b2_le b2_le de_int (dv 2) de_int) (de_one (de_callD (B := []) D_is_counted (hr.mono (by decide)) hgd rfl (da_cons (dv 0) (da_cons (dv 3) da_nil)) (len_cons (len_cons len_nil))))))))))
theorem D_is_card {P : Program} {w : World} {K : PySem.W.Frag} {mg : Str → Option Value} {base : Heap} (R : Raw K mg "is_card" s_is_card ["wheel", "thing"]) (hB : BiOk mg) (D_is_number : Def P w K mg base "is_number" s_is_number 1 ["thing"] fm_is_number) (D_is_counted : Def P w K mg base "is_counted" s_is_counted 2 ["wheel", "thing"] fm_is_counted) : Def P w K mg base "is_card" s_is_card 3 ["wheel", "thing"] fm_is_card := def_of R sc_is_card (body_is_card hB D_is_number D_is_counted) fun _ _ _ h => h
abbrev s_mirrored : Stmt := topS 7
abbrev N_mirrored : List Str := ["wheel", "card", "mirror", "face", "number"]
theorem sc_mirrored : FnScope N_mirrored ["wheel", "card", "mirror"] (defScope s_mirrored) := ⟨rfl, rfl, rfl, by decide +kernel, rfl, by decide +kernel, by decide +kernel⟩
noncomputable def m_mirrored : MS := (mSeq (mAsg (mVar 1) (gT 2 (gsCons (gN 3) (gsCons (gN 4) gsNil)))) (mRet (mTup (mCons (mOp2 subD (mC (.int 1)) (mVar 3)) (mCons (mCall [] fm_counted (mCons (mVar 0) (mCons (mOp2 subD (mVar 2) (mVar 4)) mNil))) mNil)))))
noncomputable def fm_mirrored : FM := runF 3 5 [] m_mirrored
theorem body_mirrored {P : Program} {w : World} {K : PySem.W.Frag} {mg : Str → Option Value} {base : Heap} (hB : BiOk mg) (D_counted : Def P w K mg base "counted" s_counted 1 ["wheel", "number"] fm_counted) (f : Addr) (cdv : Value) (A : Around) (outer : List PySem.Env) (s : Shared) (H : Hp) (E : XK) (hr : Room 1 (A.deeper (envOfC "mirrored" (defScope s_mirrored) s.heap.objs.size f cdv))) (hg0 : A.guards = some []) :
    DSs (cxN P w K mg base N_mirrored "mirrored" s_mirrored f cdv A outer s H E) [] (defBody s_mirrored) m_mirrored := by
  have hgd : (cxN P w K mg base N_mirrored "mirrored" s_mirrored f cdv A outer s H E).A.guards = some [] := hg0
  obtain ⟨hu70, hu65, hu64, hu1⟩ : (cxN P w K mg base N_mirrored "mirrored" s_mirrored f cdv A outer s H E).A.units + 70 < cLine ∧ (cxN P w K mg base N_mirrored "mirrored" s_mirrored f cdv A outer s H E).A.units + 65 < cLine ∧ (cxN P w K mg base N_mirrored "mirrored" s_mirrored f cdv A outer s H E).A.units + 64 < cLine ∧ (cxN P w K mg base N_mirrored "mirrored" s_mirrored f cdv A outer s H E).A.units + 1 < cLine := units_of hr
  exact (dss_cons (ds_asg (dv 1) (dg_tup rfl (dgs_cons (dg_name (i := 3) sc_mirrored.nd) (dgs_cons (dg_name (i := 4) sc_mirrored.nd) dgs_nil))))
    (dss_one (ds_ret (de_tup (da_cons (de_op op_sub b2_sub de_int (dv 3)) (da_cons (de_callD (B := []) D_counted (hr.mono (by decide)) hgd rfl (da_cons (dv 0) (da_cons (de_op op_sub b2_sub (dv 2) (dv 4)) da_nil)) (len_cons (len_cons len_nil))) da_nil)) (len_cons (len_cons len_nil))))))
theorem D_mirrored {P : Program} {w : World} {K : PySem.W.Frag} {mg : Str → Option Value} {base : Heap} (R : Raw K mg "mirrored" s_mirrored ["wheel", "card", "mirror"]) (hB : BiOk mg) (D_counted : Def P w K mg base "counted" s_counted 1 ["wheel", "number"] fm_counted) : Def P w K mg base "mirrored" s_mirrored 2 ["wheel", "card", "mirror"] fm_mirrored := def_of R sc_mirrored (body_mirrored hB D_counted) fun _ _ _ h => h
abbrev s_is_free : Stmt := topS 8
abbrev N_is_free : List Str := ["card"]
theorem sc_is_free : FnScope N_is_free ["card"] (defScope s_is_free) := ⟨rfl, rfl, rfl, by decide +kernel, rfl, by decide +kernel, by decide +kernel⟩
noncomputable def m_is_free : MS := (mRet (mAndV (mCall [] fm_is_card (mCons (mC (.int 0)) (mCons (mVar 0) mNil))) (mOp2 eqD (mVar 0) (mTup (mCons (mC (.int 1)) (mCons (mC (.int 0)) mNil))))))
noncomputable def fm_is_free : FM := runF 1 1 [] m_is_free
theorem body_is_free {P : Program} {w : World} {K : PySem.W.Frag} {mg : Str → Option Value} {base : Heap} (hB : BiOk mg) (D_is_card : Def P w K mg base "is_card" s_is_card 3 ["wheel", "thing"] fm_is_card) (f : Addr) (cdv : Value) (A : Around) (outer : List PySem.Env) (s : Shared) (H : Hp) (E : XK) (hr : Room 3 (A.deeper (envOfC "is_free" (defScope s_is_free) s.heap.objs.size f cdv))) (hg0 : A.guards = some []) :
    DSs (cxN P w K mg base N_is_free "is_free" s_is_free f cdv A outer s H E) [] (defBody s_is_free) m_is_free := by
  have hgd : (cxN P w K mg base N_is_free "is_free" s_is_free f cdv A outer s H E).A.guards = some [] := hg0
  obtain ⟨hu70, hu65, hu64, hu1⟩ : (cxN P w K mg base N_is_free "is_free" s_is_free f cdv A outer s H E).A.units + 70 < cLine ∧ (cxN P w K mg base N_is_free "is_free" s_is_free f cdv A outer s H E).A.units + 65 < cLine ∧ (cxN P w K mg base N_is_free "is_free" s_is_free f cdv A outer s H E).A.units + 64 < cLine ∧ (cxN P w K mg base N_is_free "is_free" s_is_free f cdv A outer s H E).A.units + 1 < cLine := units_of hr
  exact (dss_one (ds_ret (de_and (de_callD (B := []) D_is_card (hr.mono (by decide)) hgd rfl (da_cons de_int (da_cons (dv 0) da_nil)) (len_cons (len_cons len_nil))) (de_one (de_cmp (op_eqD hu64) b2_eq (dv 0) (de_tup (da_cons de_int (da_cons de_int da_nil)) (len_cons (len_cons len_nil))))))))
theorem D_is_free {P : Program} {w : World} {K : PySem.W.Frag} {mg : Str → Option Value} {base : Heap} (R : Raw K mg "is_free" s_is_free ["card"]) (hB : BiOk mg) (D_is_card : Def P w K mg base "is_card" s_is_card 3 ["wheel", "thing"] fm_is_card) : Def P w K mg base "is_free" s_is_free 4 ["card"] fm_is_free := def_of R sc_is_free (body_is_free hB D_is_card) fun _ _ _ h => h
abbrev s_names_of : Stmt := topS 12
abbrev N_names_of : List Str := ["hall", "place"]
theorem sc_names_of : FnScope N_names_of ["hall"] (defScope s_names_of) := ⟨rfl, rfl, rfl, by decide +kernel, rfl, by decide +kernel, by decide +kernel⟩
noncomputable def m_names_of : MS := (mRet (mLc (iE (mSub (mVar 0) (mC (.int 1)))) [1] (gN 1) mYes (mSub (mVar 1) (mC (.int 0)))))
noncomputable def fm_names_of : FM := runF 1 2 [] m_names_of
theorem body_names_of {P : Program} {w : World} {K : PySem.W.Frag} {mg : Str → Option Value} {base : Heap} (hB : BiOk mg)  (f : Addr) (cdv : Value) (A : Around) (outer : List PySem.Env) (s : Shared) (H : Hp) (E : XK) (hr : Room 0 (A.deeper (envOfC "names_of" (defScope s_names_of) s.heap.objs.size f cdv))) (hg0 : A.guards = some []) :
    DSs (cxN P w K mg base N_names_of "names_of" s_names_of f cdv A outer s H E) [] (defBody s_names_of) m_names_of := by
  have hgd : (cxN P w K mg base N_names_of "names_of" s_names_of f cdv A outer s H E).A.guards = some [] := hg0
  obtain ⟨hu70, hu65, hu64, hu1⟩ : (cxN P w K mg base N_names_of "names_of" s_names_of f cdv A outer s H E).A.units + 70 < cLine ∧ (cxN P w K mg base N_names_of "names_of" s_names_of f cdv A outer s H E).A.units + 65 < cLine ∧ (cxN P w K mg base N_names_of "names_of" s_names_of f cdv A outer s H E).A.units + 64 < cLine ∧ (cxN P w K mg base N_names_of "names_of" s_names_of f cdv A outer s H E).A.units + 1 < cLine := units_of hr
  exact (dss_one (ds_ret (de_lc rfl sc_names_of.nd (blkOk_by (own := [("place", 1)]) (N := N_names_of) (sc := defScope s_names_of) (by first | decide +kernel | rfl)) (vs := [1]) rfl (di_e (de_sub hu1 (dv 0) de_int)) (fun _ _ => (dg_name (i := 1) sc_names_of.nd (hB := not_onlyB (by decide)))) (fun _ => dts_nil) (fun _ => (de_sub hu1 (dv 1) de_int)))))
theorem D_names_of {P : Program} {w : World} {K : PySem.W.Frag} {mg : Str → Option Value} {base : Heap} (R : Raw K mg "names_of" s_names_of ["hall"]) (hB : BiOk mg)  : Def P w K mg base "names_of" s_names_of 1 ["hall"] fm_names_of := def_of R sc_names_of (body_names_of hB ) fun _ _ _ h => h
abbrev s_near : Stmt := topS 13
abbrev N_near : List Str := ["hall", "name", "ahead", "behind", "one", "other", "mirror"]
theorem sc_near : FnScope N_near ["hall", "name"] (defScope s_near) := ⟨rfl, rfl, rfl, by decide +kernel, rfl, by decide +kernel, by decide +kernel⟩
noncomputable def m_near : MS := (mSeq (mSet 2 (mLc (iE (mSub (mVar 0) (mC (.int 2)))) [4, 5, 6] (gT 3 (gsCons (gN 4) (gsCons (gN 5) (gsCons (gN 6) gsNil)))) (mB (mOp2 eqD (mVar 5) (mVar 1))) (mVar 4))) (mSeq (mSet 3 (mLc (iE (mSub (mVar 0) (mC (.int 2)))) [4, 5, 6] (gT 3 (gsCons (gN 4) (gsCons (gN 5) (gsCons (gN 6) gsNil)))) (mB (mOp2 eqD (mVar 4) (mVar 1))) (mVar 5))) (mRet (mOp1 sortedD (mOp2 addD (mVar 2) (mVar 3))))))
noncomputable def fm_near : FM := runF 2 7 [] m_near
theorem body_near {P : Program} {w : World} {K : PySem.W.Frag} {mg : Str → Option Value} {base : Heap} (hB : BiOk mg)  (f : Addr) (cdv : Value) (A : Around) (outer : List PySem.Env) (s : Shared) (H : Hp) (E : XK) (hr : Room 0 (A.deeper (envOfC "near" (defScope s_near) s.heap.objs.size f cdv))) (hg0 : A.guards = some []) :
    DSs (cxN P w K mg base N_near "near" s_near f cdv A outer s H E) [] (defBody s_near) m_near := by
  have hgd : (cxN P w K mg base N_near "near" s_near f cdv A outer s H E).A.guards = some [] := hg0
  have hb_sorted := hB "sorted" (by decide)
  obtain ⟨hu70, hu65, hu64, hu1⟩ : (cxN P w K mg base N_near "near" s_near f cdv A outer s H E).A.units + 70 < cLine ∧ (cxN P w K mg base N_near "near" s_near f cdv A outer s H E).A.units + 65 < cLine ∧ (cxN P w K mg base N_near "near" s_near f cdv A outer s H E).A.units + 64 < cLine ∧ (cxN P w K mg base N_near "near" s_near f cdv A outer s H E).A.units + 1 < cLine := units_of hr
  exact (dss_cons (by first | exact ds_setLc (i := 2) rfl sc_near.nd (blkOk_by (own := [("one", 4), ("other", 5), ("mirror", 6)]) (N := N_near) (sc := defScope s_near) (by first | decide +kernel | rfl)) (vs := [4, 5, 6]) rfl (sw_true rfl rfl rfl (by decide +kernel)) (di_e (de_sub hu1 (dv 0) de_int)) (fun _ _ => (dg_tup rfl (dgs_cons (dg_name (i := 4) sc_near.nd (hB := not_onlyB (by decide))) (dgs_cons (dg_name (i := 5) sc_near.nd (hB := not_onlyB (by decide))) (dgs_cons (dg_name (i := 6) sc_near.nd (hB := not_onlyB (by decide))) dgs_nil))))) (fun _ => (dts_one (dt_cmp (op_eqD hu64) b2_eq (dv 5) (dv 1)))) (fun _ => (dv 4)) | exact ds_set (i := 2) sc_near.nd (de_lc rfl sc_near.nd (blkOk_by (own := [("one", 4), ("other", 5), ("mirror", 6)]) (N := N_near) (sc := defScope s_near) (by first | decide +kernel | rfl)) (vs := [4, 5, 6]) rfl (di_e (de_sub hu1 (dv 0) de_int)) (fun _ _ => (dg_tup rfl (dgs_cons (dg_name (i := 4) sc_near.nd (hB := not_onlyB (by decide))) (dgs_cons (dg_name (i := 5) sc_near.nd (hB := not_onlyB (by decide))) (dgs_cons (dg_name (i := 6) sc_near.nd (hB := not_onlyB (by decide))) dgs_nil))))) (fun _ => (dts_one (dt_cmp (op_eqD hu64) b2_eq (dv 5) (dv 1)))) (fun _ => (dv 4))))
    (dss_cons (by first | exact ds_setLc (i := 3) rfl sc_near.nd (blkOk_by (own := [("one", 4), ("other", 5), ("mirror", 6)]) (N := N_near) (sc := defScope s_near) (by first | decide +kernel | rfl)) (vs := [4, 5, 6]) rfl (sw_true rfl rfl rfl (by decide +kernel)) (di_e (de_sub hu1 (dv 0) de_int)) (fun _ _ => (dg_tup rfl (dgs_cons (dg_name (i := 4) sc_near.nd (hB := not_onlyB (by decide))) (dgs_cons (dg_name (i := 5) sc_near.nd (hB := not_onlyB (by decide))) (dgs_cons (dg_name (i := 6) sc_near.nd (hB := not_onlyB (by decide))) dgs_nil))))) (fun _ => (dts_one (dt_cmp (op_eqD hu64) b2_eq (dv 4) (dv 1)))) (fun _ => (dv 5)) | exact ds_set (i := 3) sc_near.nd (de_lc rfl sc_near.nd (blkOk_by (own := [("one", 4), ("other", 5), ("mirror", 6)]) (N := N_near) (sc := defScope s_near) (by first | decide +kernel | rfl)) (vs := [4, 5, 6]) rfl (di_e (de_sub hu1 (dv 0) de_int)) (fun _ _ => (dg_tup rfl (dgs_cons (dg_name (i := 4) sc_near.nd (hB := not_onlyB (by decide))) (dgs_cons (dg_name (i := 5) sc_near.nd (hB := not_onlyB (by decide))) (dgs_cons (dg_name (i := 6) sc_near.nd (hB := not_onlyB (by decide))) dgs_nil))))) (fun _ => (dts_one (dt_cmp (op_eqD hu64) b2_eq (dv 4) (dv 1)))) (fun _ => (dv 5))))
    (dss_one (ds_ret (de_sorted hu70 rfl hb_sorted (de_op op_addD b2_add (dv 2) (dv 3)))))))
theorem D_near {P : Program} {w : World} {K : PySem.W.Frag} {mg : Str → Option Value} {base : Heap} (R : Raw K mg "near" s_near ["hall", "name"]) (hB : BiOk mg)  : Def P w K mg base "near" s_near 1 ["hall", "name"] fm_near := def_of R sc_near (body_near hB ) fun _ _ _ h => h
abbrev s_card_of : Stmt := topS 14
abbrev N_card_of : List Str := ["hall", "name", "place", "face", "number"]
theorem sc_card_of : FnScope N_card_of ["hall", "name"] (defScope s_card_of) := ⟨rfl, rfl, rfl, by decide +kernel, rfl, by decide +kernel, by decide +kernel⟩
noncomputable def m_card_of : MS := (mSeq (mFor (iE (mSub (mVar 0) (mC (.int 1)))) (gT 3 (gsCons (gN 2) (gsCons (gN 3) (gsCons (gN 4) gsNil)))) (mIfS (mB (mOp2 eqD (mVar 2) (mVar 1))) (mRet (mTup (mCons (mVar 3) (mCons (mVar 4) mNil)))) mSkip)) (mRet (mC .none)))
noncomputable def fm_card_of : FM := runF 2 5 [] m_card_of
theorem body_card_of {P : Program} {w : World} {K : PySem.W.Frag} {mg : Str → Option Value} {base : Heap} (hB : BiOk mg)  (f : Addr) (cdv : Value) (A : Around) (outer : List PySem.Env) (s : Shared) (H : Hp) (E : XK) (hr : Room 0 (A.deeper (envOfC "card_of" (defScope s_card_of) s.heap.objs.size f cdv))) (hg0 : A.guards = some []) :
    DSs (cxN P w K mg base N_card_of "card_of" s_card_of f cdv A outer s H E) [] (defBody s_card_of) m_card_of := by
  have hgd : (cxN P w K mg base N_card_of "card_of" s_card_of f cdv A outer s H E).A.guards = some [] := hg0
  obtain ⟨hu70, hu65, hu64, hu1⟩ : (cxN P w K mg base N_card_of "card_of" s_card_of f cdv A outer s H E).A.units + 70 < cLine ∧ (cxN P w K mg base N_card_of "card_of" s_card_of f cdv A outer s H E).A.units + 65 < cLine ∧ (cxN P w K mg base N_card_of "card_of" s_card_of f cdv A outer s H E).A.units + 64 < cLine ∧ (cxN P w K mg base N_card_of "card_of" s_card_of f cdv A outer s H E).A.units + 1 < cLine := units_of hr
  exact (dss_cons (ds_for rfl PassesOwn.never (di_e (de_sub hu1 (dv 0) de_int)) (dg_tup rfl (dgs_cons (dg_name (i := 2) sc_card_of.nd) (dgs_cons (dg_name (i := 3) sc_card_of.nd) (dgs_cons (dg_name (i := 4) sc_card_of.nd) dgs_nil)))) (dss_one (ds_if (dt_cmp (op_eqD hu64) b2_eq (dv 2) (dv 1)) (dss_one (ds_ret (de_tup (da_cons (dv 3) (da_cons (dv 4) da_nil)) (len_cons (len_cons len_nil))))) dss_nil)))
    (dss_one (ds_ret de_non)))
theorem D_card_of {P : Program} {w : World} {K : PySem.W.Frag} {mg : Str → Option Value} {base : Heap} (R : Raw K mg "card_of" s_card_of ["hall", "name"]) (hB : BiOk mg)  : Def P w K mg base "card_of" s_card_of 1 ["hall", "name"] fm_card_of := def_of R sc_card_of (body_card_of hB ) fun _ _ _ h => h
abbrev s_reached : Stmt := topS 15
abbrev N_reached : List Str := ["hall", "start", "towards", "waiting", "name", "other"]
theorem sc_reached : FnScope N_reached ["hall", "start"] (defScope s_reached) := ⟨rfl, rfl, rfl, by decide +kernel, rfl, by decide +kernel, by decide +kernel⟩
noncomputable def m_reached : MS := (mSeq (mSet 2 (mDisp (mpCons (mVar 1) (mC .none) mpNil))) (mSeq (mSet 3 (mLst (mCons (mVar 1) mNil))) (mSeq (mWhile (mTru (mVar 3)) (mSeq (mSet 4 (mMeth fPop (mVar 3) mNil)) (mFor (iE (mCall [] fm_near (mCons (mVar 0) (mCons (mVar 4) mNil)))) (gN 5) (mIfS (mB (mIn true (mVar 5) (mVar 2))) (mSeq (mSetI (mVar 4) (mVar 2) (mVar 5)) (mDrop (mMeth fAppend (mVar 3) (mCons (mVar 5) mNil)))) mSkip)))) (mRet (mVar 2)))))
noncomputable def fm_reached : FM := runF 2 6 [] m_reached
theorem body_reached {P : Program} {w : World} {K : PySem.W.Frag} {mg : Str → Option Value} {base : Heap} (hB : BiOk mg) (D_near : Def P w K mg base "near" s_near 1 ["hall", "name"] fm_near) (f : Addr) (cdv : Value) (A : Around) (outer : List PySem.Env) (s : Shared) (H : Hp) (E : XK) (hr : Room 1 (A.deeper (envOfC "reached" (defScope s_reached) s.heap.objs.size f cdv))) (hg0 : A.guards = some []) :
    DSs (cxN P w K mg base N_reached "reached" s_reached f cdv A outer s H E) [] (defBody s_reached) m_reached := by
  have hgd : (cxN P w K mg base N_reached "reached" s_reached f cdv A outer s H E).A.guards = some [] := hg0
  obtain ⟨hu70, hu65, hu64, hu1⟩ : (cxN P w K mg base N_reached "reached" s_reached f cdv A outer s H E).A.units + 70 < cLine ∧ (cxN P w K mg base N_reached "reached" s_reached f cdv A outer s H E).A.units + 65 < cLine ∧ (cxN P w K mg base N_reached "reached" s_reached f cdv A outer s H E).A.units + 64 < cLine ∧ (cxN P w K mg base N_reached "reached" s_reached f cdv A outer s H E).A.units + 1 < cLine := units_of hr
  exact (dss_cons (ds_set (i := 2) sc_reached.nd (de_disp (dps_cons (dv 1) de_non dps_nil)))
    (dss_cons (ds_set (i := 3) sc_reached.nd (de_lst (da_cons (dv 1) da_nil) (len_cons len_nil)))
    (dss_cons (ds_while PassesOwn.never (dt_truth (dv 3)) (dss_cons (ds_set (i := 4) sc_reached.nd (de_pop (dv 3)))
    (dss_one (ds_for rfl PassesOwn.never (di_e (de_callD (B := []) D_near (hr.mono (by decide)) hgd rfl (da_cons (dv 0) (da_cons (dv 4) da_nil)) (len_cons (len_cons len_nil)))) (dg_name (i := 5) sc_reached.nd) (dss_one (ds_if (dt_notIn hu65 (dv 5) (dv 2)) (dss_cons (ds_setI hu1 (dv 4) (dv 2) (dv 5))
    (dss_one (ds_expr (de_append (dv 3) (dv 5))))) dss_nil))))))
    (dss_one (ds_ret (dv 2))))))
theorem D_reached {P : Program} {w : World} {K : PySem.W.Frag} {mg : Str → Option Value} {base : Heap} (R : Raw K mg "reached" s_reached ["hall", "start"]) (hB : BiOk mg) (D_near : Def P w K mg base "near" s_near 1 ["hall", "name"] fm_near) : Def P w K mg base "reached" s_reached 2 ["hall", "start"] fm_reached := def_of R sc_reached (body_reached hB D_near) fun _ _ _ h => h
abbrev s_pieces : Stmt := topS 16
abbrev N_pieces : List Str := ["hall", "told", "seen", "name", "piece", "other"]
theorem sc_pieces : FnScope N_pieces ["hall"] (defScope s_pieces) := ⟨rfl, rfl, rfl, by decide +kernel, rfl, by decide +kernel, by decide +kernel⟩
noncomputable def m_pieces : MS := (mSeq (mSet 1 (mLst mNil)) (mSeq (mSet 2 mSet0) (mSeq (mFor (iE (mCall [] fm_names_of (mCons (mVar 0) mNil))) (gN 3) (mIfS (mB (mIn true (mVar 3) (mVar 2))) (mSeq (mSet 4 (mSortK (mCall [] fm_reached (mCons (mVar 0) (mCons (mVar 3) mNil))))) (mSeq (mDrop (mMeth fAppend (mVar 1) (mCons (mVar 4) mNil))) (mFor (iE (mVar 4)) (gN 5) (mDrop (mAdd (mVar 2) (mVar 5)))))) mSkip)) (mRet (mVar 1)))))
noncomputable def fm_pieces : FM := runF 1 6 [] m_pieces
theorem body_pieces {P : Program} {w : World} {K : PySem.W.Frag} {mg : Str → Option Value} {base : Heap} (hB : BiOk mg) (D_names_of : Def P w K mg base "names_of" s_names_of 1 ["hall"] fm_names_of) (D_reached : Def P w K mg base "reached" s_reached 2 ["hall", "start"] fm_reached) (f : Addr) (cdv : Value) (A : Around) (outer : List PySem.Env) (s : Shared) (H : Hp) (E : XK) (hr : Room 2 (A.deeper (envOfC "pieces" (defScope s_pieces) s.heap.objs.size f cdv))) (hg0 : A.guards = some []) :
    DSs (cxN P w K mg base N_pieces "pieces" s_pieces f cdv A outer s H E) [] (defBody s_pieces) m_pieces := by
  have hgd : (cxN P w K mg base N_pieces "pieces" s_pieces f cdv A outer s H E).A.guards = some [] := hg0
  have hb_set := hB "set" (by decide)
  have hb_sorted := hB "sorted" (by decide)
  obtain ⟨hu70, hu65, hu64, hu1⟩ : (cxN P w K mg base N_pieces "pieces" s_pieces f cdv A outer s H E).A.units + 70 < cLine ∧ (cxN P w K mg base N_pieces "pieces" s_pieces f cdv A outer s H E).A.units + 65 < cLine ∧ (cxN P w K mg base N_pieces "pieces" s_pieces f cdv A outer s H E).A.units + 64 < cLine ∧ (cxN P w K mg base N_pieces "pieces" s_pieces f cdv A outer s H E).A.units + 1 < cLine := units_of hr
  exact (dss_cons (ds_set (i := 1) sc_pieces.nd (de_lst da_nil len_nil))
    (dss_cons (ds_set (i := 2) sc_pieces.nd (de_set0 rfl hb_set))
    (dss_cons (ds_for rfl PassesOwn.never (di_e (de_callD (B := []) D_names_of (hr.mono (by decide)) hgd rfl (da_cons (dv 0) da_nil) (len_cons len_nil))) (dg_name (i := 3) sc_pieces.nd) (dss_one (ds_if (dt_notIn hu65 (dv 3) (dv 2)) (dss_cons (ds_set (i := 4) sc_pieces.nd (de_sortedK rfl hu70 rfl hb_sorted (de_callD (B := []) D_reached (hr.mono (by decide)) hgd rfl (da_cons (dv 0) (da_cons (dv 3) da_nil)) (len_cons (len_cons len_nil)))))
    (dss_cons (ds_expr (de_append (dv 1) (dv 4)))
    (dss_one (ds_for rfl PassesOwn.never (di_e (dv 4)) (dg_name (i := 5) sc_pieces.nd) (dss_one (ds_expr (de_add (dv 2) (dv 5)))))))) dss_nil)))
    (dss_one (ds_ret (dv 1))))))
theorem D_pieces {P : Program} {w : World} {K : PySem.W.Frag} {mg : Str → Option Value} {base : Heap} (R : Raw K mg "pieces" s_pieces ["hall"]) (hB : BiOk mg) (D_names_of : Def P w K mg base "names_of" s_names_of 1 ["hall"] fm_names_of) (D_reached : Def P w K mg base "reached" s_reached 2 ["hall", "start"] fm_reached) : Def P w K mg base "pieces" s_pieces 3 ["hall"] fm_pieces := def_of R sc_pieces (body_pieces hB D_names_of D_reached) fun _ _ _ h => h
abbrev s_is_odd : Stmt := topS 18
abbrev N_is_odd : List Str := ["hall", "names", "name"]
theorem sc_is_odd : FnScope N_is_odd ["hall", "names"] (defScope s_is_odd) := ⟨rfl, rfl, rfl, by decide +kernel, rfl, by decide +kernel, by decide +kernel⟩
noncomputable def m_is_odd : MS := (mRet (mOp2 eqD (mOp2 modD (mOp1 sumD (mLc (iE (mVar 1)) [2] (gN 2) mYes (mSub (mCall [] fm_card_of (mCons (mVar 0) (mCons (mVar 2) mNil))) (mC (.int 0))))) (mC (.int 2))) (mC (.int 1))))
noncomputable def fm_is_odd : FM := runF 2 3 [] m_is_odd
theorem body_is_odd {P : Program} {w : World} {K : PySem.W.Frag} {mg : Str → Option Value} {base : Heap} (hB : BiOk mg) (D_card_of : Def P w K mg base "card_of" s_card_of 1 ["hall", "name"] fm_card_of) (f : Addr) (cdv : Value) (A : Around) (outer : List PySem.Env) (s : Shared) (H : Hp) (E : XK) (hr : Room 1 (A.deeper (envOfC "is_odd" (defScope s_is_odd) s.heap.objs.size f cdv))) (hg0 : A.guards = some []) :
    DSs (cxN P w K mg base N_is_odd "is_odd" s_is_odd f cdv A outer s H E) [] (defBody s_is_odd) m_is_odd := by
  have hgd : (cxN P w K mg base N_is_odd "is_odd" s_is_odd f cdv A outer s H E).A.guards = some [] := hg0
  have hb_sum := hB "sum" (by decide)
  obtain ⟨hu70, hu65, hu64, hu1⟩ : (cxN P w K mg base N_is_odd "is_odd" s_is_odd f cdv A outer s H E).A.units + 70 < cLine ∧ (cxN P w K mg base N_is_odd "is_odd" s_is_odd f cdv A outer s H E).A.units + 65 < cLine ∧ (cxN P w K mg base N_is_odd "is_odd" s_is_odd f cdv A outer s H E).A.units + 64 < cLine ∧ (cxN P w K mg base N_is_odd "is_odd" s_is_odd f cdv A outer s H E).A.units + 1 < cLine := units_of hr
  exact (dss_one (ds_ret (de_cmp (op_eqD hu64) b2_eq (de_op op_modN b2_mod (de_sum rfl rfl hb_sum (de_lc rfl sc_is_odd.nd (blkOk_by (own := [("name", 2)]) (N := N_is_odd) (sc := defScope s_is_odd) (by first | decide +kernel | rfl)) (vs := [2]) rfl (di_e (dv 1)) (fun _ _ => (dg_name (i := 2) sc_is_odd.nd (hB := not_onlyB (by decide)))) (fun _ => dts_nil) (fun _ => (de_sub hu1 (de_callD (B := []) D_card_of (hr.mono (by decide)) hgd rfl (da_cons (dv 0) (da_cons (dv 2) da_nil)) (len_cons (len_cons len_nil))) de_int)))) de_int) de_int)))
theorem D_is_odd {P : Program} {w : World} {K : PySem.W.Frag} {mg : Str → Option Value} {base : Heap} (R : Raw K mg "is_odd" s_is_odd ["hall", "names"]) (hB : BiOk mg) (D_card_of : Def P w K mg base "card_of" s_card_of 1 ["hall", "name"] fm_card_of) : Def P w K mg base "is_odd" s_is_odd 2 ["hall", "names"] fm_is_odd := def_of R sc_is_odd (body_is_odd hB D_card_of) fun _ _ _ h => h
abbrev s_may_go : Stmt := topS 20
abbrev N_may_go : List Str := ["hall", "name", "face", "number"]
theorem sc_may_go : FnScope N_may_go ["hall"] (defScope s_may_go) := ⟨rfl, rfl, rfl, by decide +kernel, rfl, by decide +kernel, by decide +kernel⟩
noncomputable def m_may_go : MS := (mRet (mLc (iE (mSub (mVar 0) (mC (.int 1)))) [1, 2, 3] (gT 3 (gsCons (gN 1) (gsCons (gN 2) (gsCons (gN 3) gsNil)))) (mTru (mCall [] fm_is_free (mCons (mTup (mCons (mVar 2) (mCons (mVar 3) mNil))) mNil))) (mVar 1)))
noncomputable def fm_may_go : FM := runF 1 4 [] m_may_go
theorem body_may_go {P : Program} {w : World} {K : PySem.W.Frag} {mg : Str → Option Value} {base : Heap} (hB : BiOk mg) (D_is_free : Def P w K mg base "is_free" s_is_free 4 ["card"] fm_is_free) (f : Addr) (cdv : Value) (A : Around) (outer : List PySem.Env) (s : Shared) (H : Hp) (E : XK) (hr : Room 4 (A.deeper (envOfC "may_go" (defScope s_may_go) s.heap.objs.size f cdv))) (hg0 : A.guards = some []) :
    DSs (cxN P w K mg base N_may_go "may_go" s_may_go f cdv A outer s H E) [] (defBody s_may_go) m_may_go := by
  have hgd : (cxN P w K mg base N_may_go "may_go" s_may_go f cdv A outer s H E).A.guards = some [] := hg0
  obtain ⟨hu70, hu65, hu64, hu1⟩ : (cxN P w K mg base N_may_go "may_go" s_may_go f cdv A outer s H E).A.units + 70 < cLine ∧ (cxN P w K mg base N_may_go "may_go" s_may_go f cdv A outer s H E).A.units + 65 < cLine ∧ (cxN P w K mg base N_may_go "may_go" s_may_go f cdv A outer s H E).A.units + 64 < cLine ∧ (cxN P w K mg base N_may_go "may_go" s_may_go f cdv A outer s H E).A.units + 1 < cLine := units_of hr
  exact (dss_one (ds_ret (de_lc rfl sc_may_go.nd (blkOk_by (own := [("name", 1), ("face", 2), ("number", 3)]) (N := N_may_go) (sc := defScope s_may_go) (by first | decide +kernel | rfl)) (vs := [1, 2, 3]) rfl (di_e (de_sub hu1 (dv 0) de_int)) (fun _ _ => (dg_tup rfl (dgs_cons (dg_name (i := 1) sc_may_go.nd (hB := not_onlyB (by decide))) (dgs_cons (dg_name (i := 2) sc_may_go.nd (hB := not_onlyB (by decide))) (dgs_cons (dg_name (i := 3) sc_may_go.nd (hB := not_onlyB (by decide))) dgs_nil))))) (fun _ => (dts_one (dt_truth (de_callD (B := []) D_is_free (hr.mono (by decide)) hgd rfl (da_cons (de_tup (da_cons (dv 2) (da_cons (dv 3) da_nil)) (len_cons (len_cons len_nil))) da_nil) (len_cons len_nil))))) (fun _ => (dv 1)))))
theorem D_may_go {P : Program} {w : World} {K : PySem.W.Frag} {mg : Str → Option Value} {base : Heap} (R : Raw K mg "may_go" s_may_go ["hall"]) (hB : BiOk mg) (D_is_free : Def P w K mg base "is_free" s_is_free 4 ["card"] fm_is_free) : Def P w K mg base "may_go" s_may_go 5 ["hall"] fm_may_go := def_of R sc_may_go (body_may_go hB D_is_free) fun _ _ _ h => h
abbrev s_mirrors_at : Stmt := topS 22
abbrev N_mirrors_at : List Str := ["ties", "name", "mirrors", "one", "other", "mirror"]
theorem sc_mirrors_at : FnScope N_mirrors_at ["ties", "name"] (defScope s_mirrors_at) := ⟨rfl, rfl, rfl, by decide +kernel, rfl, by decide +kernel, by decide +kernel⟩
noncomputable def m_mirrors_at : MS := (mSeq (mSet 2 mD0) (mSeq (mFor (iE (mVar 0)) (gT 3 (gsCons (gN 3) (gsCons (gN 4) (gsCons (gN 5) gsNil)))) (mIfS (mB (mOp2 eqD (mVar 3) (mVar 1))) (mSetI (mVar 5) (mVar 2) (mVar 4)) (mIfS (mB (mOp2 eqD (mVar 4) (mVar 1))) (mSetI (mVar 5) (mVar 2) (mVar 3)) mSkip))) (mRet (mVar 2))))
noncomputable def fm_mirrors_at : FM := runF 2 6 [] m_mirrors_at
theorem body_mirrors_at {P : Program} {w : World} {K : PySem.W.Frag} {mg : Str → Option Value} {base : Heap} (hB : BiOk mg)  (f : Addr) (cdv : Value) (A : Around) (outer : List PySem.Env) (s : Shared) (H : Hp) (E : XK) (hr : Room 0 (A.deeper (envOfC "mirrors_at" (defScope s_mirrors_at) s.heap.objs.size f cdv))) (hg0 : A.guards = some []) :
    DSs (cxN P w K mg base N_mirrors_at "mirrors_at" s_mirrors_at f cdv A outer s H E) [] (defBody s_mirrors_at) m_mirrors_at := by
  have hgd : (cxN P w K mg base N_mirrors_at "mirrors_at" s_mirrors_at f cdv A outer s H E).A.guards = some [] := hg0
  obtain ⟨hu70, hu65, hu64, hu1⟩ : (cxN P w K mg base N_mirrors_at "mirrors_at" s_mirrors_at f cdv A outer s H E).A.units + 70 < cLine ∧ (cxN P w K mg base N_mirrors_at "mirrors_at" s_mirrors_at f cdv A outer s H E).A.units + 65 < cLine ∧ (cxN P w K mg base N_mirrors_at "mirrors_at" s_mirrors_at f cdv A outer s H E).A.units + 64 < cLine ∧ (cxN P w K mg base N_mirrors_at "mirrors_at" s_mirrors_at f cdv A outer s H E).A.units + 1 < cLine := units_of hr
  exact (dss_cons (ds_set (i := 2) sc_mirrors_at.nd de_dict0)
    (dss_cons (ds_for rfl PassesOwn.never (di_e (dv 0)) (dg_tup rfl (dgs_cons (dg_name (i := 3) sc_mirrors_at.nd) (dgs_cons (dg_name (i := 4) sc_mirrors_at.nd) (dgs_cons (dg_name (i := 5) sc_mirrors_at.nd) dgs_nil)))) (dss_one (ds_if (dt_cmp (op_eqD hu64) b2_eq (dv 3) (dv 1)) (dss_one (ds_setI hu1 (dv 5) (dv 2) (dv 4))) (dss_one (ds_if (dt_cmp (op_eqD hu64) b2_eq (dv 4) (dv 1)) (dss_one (ds_setI hu1 (dv 5) (dv 2) (dv 3))) dss_nil)))))
    (dss_one (ds_ret (dv 2)))))
theorem D_mirrors_at {P : Program} {w : World} {K : PySem.W.Frag} {mg : Str → Option Value} {base : Heap} (R : Raw K mg "mirrors_at" s_mirrors_at ["ties", "name"]) (hB : BiOk mg)  : Def P w K mg base "mirrors_at" s_mirrors_at 1 ["ties", "name"] fm_mirrors_at := def_of R sc_mirrors_at (body_mirrors_at hB ) fun _ _ _ h => h
abbrev s_turned_by : Stmt := topS 23
abbrev N_turned_by : List Str := ["wheel", "place", "mirrors", "name", "face", "number"]
theorem sc_turned_by : FnScope N_turned_by ["wheel", "place", "mirrors"] (defScope s_turned_by) := ⟨rfl, rfl, rfl, by decide +kernel, rfl, by decide +kernel, by decide +kernel⟩
noncomputable def m_turned_by : MS := (mSeq (mAsg (mVar 1) (gT 3 (gsCons (gN 3) (gsCons (gN 4) (gsCons (gN 5) gsNil))))) (mSeq (mIfS (mB (mIn true (mVar 3) (mVar 2))) (mRet (mVar 1)) mSkip) (mSeq (mAsg (mCall [] fm_mirrored (mCons (mVar 0) (mCons (mTup (mCons (mVar 4) (mCons (mVar 5) mNil))) (mCons (mSub (mVar 2) (mVar 3)) mNil)))) (gT 2 (gsCons (gN 4) (gsCons (gN 5) gsNil)))) (mRet (mTup (mCons (mVar 3) (mCons (mVar 4) (mCons (mVar 5) mNil))))))))
noncomputable def fm_turned_by : FM := runF 3 6 [2] m_turned_by
theorem body_turned_by {P : Program} {w : World} {K : PySem.W.Frag} {mg : Str → Option Value} {base : Heap} (hB : BiOk mg) (D_mirrored : Def P w K mg base "mirrored" s_mirrored 2 ["wheel", "card", "mirror"] fm_mirrored) (f : Addr) (cdv : Value) (A : Around) (outer : List PySem.Env) (s : Shared) (H : Hp) (E : XK) (hr : Room 2 (A.deeper (envOfC "turned_by" (defScope s_turned_by) s.heap.objs.size f cdv))) (hg0 : A.guards = some []) :
    DSs (cxN P w K mg base N_turned_by "turned_by" s_turned_by f cdv A outer s H E) [2] (defBody s_turned_by) m_turned_by := by
  have hgd : (cxN P w K mg base N_turned_by "turned_by" s_turned_by f cdv A outer s H E).A.guards = some [] := hg0
  obtain ⟨hu70, hu65, hu64, hu1⟩ : (cxN P w K mg base N_turned_by "turned_by" s_turned_by f cdv A outer s H E).A.units + 70 < cLine ∧ (cxN P w K mg base N_turned_by "turned_by" s_turned_by f cdv A outer s H E).A.units + 65 < cLine ∧ (cxN P w K mg base N_turned_by "turned_by" s_turned_by f cdv A outer s H E).A.units + 64 < cLine ∧ (cxN P w K mg base N_turned_by "turned_by" s_turned_by f cdv A outer s H E).A.units + 1 < cLine := units_of hr
  exact (dss_cons (ds_asg (dv 1) (dg_tup rfl (dgs_cons (dg_name (i := 3) sc_turned_by.nd) (dgs_cons (dg_name (i := 4) sc_turned_by.nd) (dgs_cons (dg_name (i := 5) sc_turned_by.nd) dgs_nil)))))
    (dss_cons (ds_if (dt_notIn hu65 (dv 3) (dv 2)) (dss_one (ds_ret (dv 1))) dss_nil)
    (dss_cons (ds_asg (de_callD (B := []) D_mirrored (hr.mono (by decide)) hgd rfl (da_cons (dv 0) (da_cons (de_tup (da_cons (dv 4) (da_cons (dv 5) da_nil)) (len_cons (len_cons len_nil))) (da_cons (de_sub hu1 (dv 2) (dv 3)) da_nil))) (len_cons (len_cons (len_cons len_nil)))) (dg_tup rfl (dgs_cons (dg_name (i := 4) sc_turned_by.nd) (dgs_cons (dg_name (i := 5) sc_turned_by.nd) dgs_nil))))
    (dss_one (ds_ret (de_tup (da_cons (dv 3) (da_cons (dv 4) (da_cons (dv 5) da_nil))) (len_cons (len_cons (len_cons len_nil)))))))))
theorem D_turned_by {P : Program} {w : World} {K : PySem.W.Frag} {mg : Str → Option Value} {base : Heap} (R : Raw K mg "turned_by" s_turned_by ["wheel", "place", "mirrors"]) (hB : BiOk mg) (D_mirrored : Def P w K mg base "mirrored" s_mirrored 2 ["wheel", "card", "mirror"] fm_mirrored) : Def P w K mg base "turned_by" s_turned_by 3 ["wheel", "place", "mirrors"] fm_turned_by := def_of R sc_turned_by (body_turned_by hB D_mirrored) fun _ _ _ h => h
abbrev s_gone : Stmt := topS 21
abbrev N_gone : List Str := ["hall", "name", "wheel", "places", "ties", "mirrors", "left", "place", "tie"]
theorem sc_gone : FnScope N_gone ["hall", "name"] (defScope s_gone) := ⟨rfl, rfl, rfl, by decide +kernel, rfl, by decide +kernel, by decide +kernel⟩
noncomputable def m_gone : MS := (mSeq (mIfS (mNot (mTru (mCall [] fm_is_free (mCons (mCall [] fm_card_of (mCons (mVar 0) (mCons (mVar 1) mNil))) mNil)))) mNeverS mSkip) (mSeq (mAsg (mVar 0) (gT 3 (gsCons (gN 2) (gsCons (gN 3) (gsCons (gN 4) gsNil))))) (mSeq (mSet 5 (mCall [] fm_mirrors_at (mCons (mVar 4) (mCons (mVar 1) mNil)))) (mSeq (mSet 6 (mLc (iE (mVar 3)) [7] (gN 7) (mB (mOp2 neD (mSub (mVar 7) (mC (.int 0))) (mVar 1))) (mCall [2] fm_turned_by (mCons (mVar 2) (mCons (mVar 7) (mCons (mVar 5) mNil)))))) (mRet (mTup (mCons (mVar 2) (mCons (mOp1 tupleD (mVar 6)) (mCons (mOp1 tupleD (mLc (iE (mVar 4)) [8] (gN 8) (mB (mIn true (mVar 1) (mSl (mVar 8) oNone (oSome (mC (.int 2)))))) (mVar 8))) mNil)))))))))
noncomputable def fm_gone : FM := runF 2 9 [] m_gone
theorem body_gone {P : Program} {w : World} {K : PySem.W.Frag} {mg : Str → Option Value} {base : Heap} (hB : BiOk mg) (D_card_of : Def P w K mg base "card_of" s_card_of 1 ["hall", "name"] fm_card_of) (D_is_free : Def P w K mg base "is_free" s_is_free 4 ["card"] fm_is_free) (D_mirrors_at : Def P w K mg base "mirrors_at" s_mirrors_at 1 ["ties", "name"] fm_mirrors_at) (D_turned_by : Def P w K mg base "turned_by" s_turned_by 3 ["wheel", "place", "mirrors"] fm_turned_by) (f : Addr) (cdv : Value) (A : Around) (outer : List PySem.Env) (s : Shared) (H : Hp) (E : XK) (hr : Room 4 (A.deeper (envOfC "gone" (defScope s_gone) s.heap.objs.size f cdv))) (hg0 : A.guards = some []) :
    DSs (cxN P w K mg base N_gone "gone" s_gone f cdv A outer s H E) [] (defBody s_gone) m_gone := by
  have hgd : (cxN P w K mg base N_gone "gone" s_gone f cdv A outer s H E).A.guards = some [] := hg0
  have hb_tuple := hB "tuple" (by decide)
  obtain ⟨hu70, hu65, hu64, hu1⟩ : (cxN P w K mg base N_gone "gone" s_gone f cdv A outer s H E).A.units + 70 < cLine ∧ (cxN P w K mg base N_gone "gone" s_gone f cdv A outer s H E).A.units + 65 < cLine ∧ (cxN P w K mg base N_gone "gone" s_gone f cdv A outer s H E).A.units + 64 < cLine ∧ (cxN P w K mg base N_gone "gone" s_gone f cdv A outer s H E).A.units + 1 < cLine := units_of hr
  exact (dss_cons (ds_if (dt_not (dt_truth (de_callD (B := []) D_is_free (hr.mono (by decide)) hgd rfl (da_cons (de_callD (B := []) D_card_of (hr.mono (by decide)) hgd rfl (da_cons (dv 0) (da_cons (dv 1) da_nil)) (len_cons (len_cons len_nil))) da_nil) (len_cons len_nil)))) (dss_one ds_never) dss_nil)
    (dss_cons (ds_asg (dv 0) (dg_tup rfl (dgs_cons (dg_name (i := 2) sc_gone.nd) (dgs_cons (dg_name (i := 3) sc_gone.nd) (dgs_cons (dg_name (i := 4) sc_gone.nd) dgs_nil)))))
    (dss_cons (ds_set (i := 5) sc_gone.nd (de_callD (B := []) D_mirrors_at (hr.mono (by decide)) hgd rfl (da_cons (dv 4) (da_cons (dv 1) da_nil)) (len_cons (len_cons len_nil))))
    (dss_cons (by first | exact ds_setLc (i := 6) rfl sc_gone.nd (blkOk_by (own := [("place", 7)]) (N := N_gone) (sc := defScope s_gone) (by first | decide +kernel | rfl)) (vs := [7]) rfl (sw_true rfl rfl rfl (by decide +kernel)) (di_e (dv 3)) (fun _ _ => (dg_name (i := 7) sc_gone.nd (hB := not_onlyB (by decide)))) (fun _ => (dts_one (dt_cmp (op_neD hu64) b2_ne (de_sub hu1 (dv 7) de_int) (dv 1)))) (fun _ => (de_callD (B := [2]) D_turned_by (hr.mono (by decide)) hgd rfl (da_cons (dv 2) (da_cons (dv 7) (da_cons (dv 5) da_nil))) (len_cons (len_cons (len_cons len_nil))))) | exact ds_set (i := 6) sc_gone.nd (de_lc rfl sc_gone.nd (blkOk_by (own := [("place", 7)]) (N := N_gone) (sc := defScope s_gone) (by first | decide +kernel | rfl)) (vs := [7]) rfl (di_e (dv 3)) (fun _ _ => (dg_name (i := 7) sc_gone.nd (hB := not_onlyB (by decide)))) (fun _ => (dts_one (dt_cmp (op_neD hu64) b2_ne (de_sub hu1 (dv 7) de_int) (dv 1)))) (fun _ => (de_callD (B := [2]) D_turned_by (hr.mono (by decide)) hgd rfl (da_cons (dv 2) (da_cons (dv 7) (da_cons (dv 5) da_nil))) (len_cons (len_cons (len_cons len_nil)))))))
    (dss_one (ds_ret (de_tup (da_cons (dv 2) (da_cons (de_tupC rfl hb_tuple (dv 6)) (da_cons (de_tupC rfl hb_tuple (de_lc rfl sc_gone.nd (blkOk_by (own := [("tie", 8)]) (N := N_gone) (sc := defScope s_gone) (by first | decide +kernel | rfl)) (vs := [8]) rfl (di_e (dv 4)) (fun _ _ => (dg_name (i := 8) sc_gone.nd (hB := not_onlyB (by decide)))) (fun _ => (dts_one (dt_notIn hu65 (dv 1) (de_sl (dv 8) do_none (do_some de_int))))) (fun _ => (dv 8)))) da_nil))) (len_cons (len_cons (len_cons len_nil))))))))))
theorem D_gone {P : Program} {w : World} {K : PySem.W.Frag} {mg : Str → Option Value} {base : Heap} (R : Raw K mg "gone" s_gone ["hall", "name"]) (hB : BiOk mg) (D_card_of : Def P w K mg base "card_of" s_card_of 1 ["hall", "name"] fm_card_of) (D_is_free : Def P w K mg base "is_free" s_is_free 4 ["card"] fm_is_free) (D_mirrors_at : Def P w K mg base "mirrors_at" s_mirrors_at 1 ["ties", "name"] fm_mirrors_at) (D_turned_by : Def P w K mg base "turned_by" s_turned_by 3 ["wheel", "place", "mirrors"] fm_turned_by) : Def P w K mg base "gone" s_gone 5 ["hall", "name"] fm_gone := def_of R sc_gone (body_gone hB D_card_of D_is_free D_mirrors_at D_turned_by) fun _ _ _ h => h
abbrev s_behind : Stmt := topS 24
abbrev N_behind : List Str := ["hall", "row", "name"]
theorem sc_behind : FnScope N_behind ["hall", "row"] (defScope s_behind) := ⟨rfl, rfl, rfl, by decide +kernel, rfl, by decide +kernel, by decide +kernel⟩
noncomputable def m_behind : MS := (mSeq (mFor (iE (mVar 1)) (gN 2) (mSet 0 (mCall [] fm_gone (mCons (mVar 0) (mCons (mVar 2) mNil))))) (mRet (mVar 0)))
noncomputable def fm_behind : FM := runF 2 3 [] m_behind
theorem body_behind {P : Program} {w : World} {K : PySem.W.Frag} {mg : Str → Option Value} {base : Heap} (hB : BiOk mg) (D_gone : Def P w K mg base "gone" s_gone 5 ["hall", "name"] fm_gone) (f : Addr) (cdv : Value) (A : Around) (outer : List PySem.Env) (s : Shared) (H : Hp) (E : XK) (hr : Room 5 (A.deeper (envOfC "behind" (defScope s_behind) s.heap.objs.size f cdv))) (hg0 : A.guards = some []) :
    DSs (cxN P w K mg base N_behind "behind" s_behind f cdv A outer s H E) [] (defBody s_behind) m_behind := by
  have hgd : (cxN P w K mg base N_behind "behind" s_behind f cdv A outer s H E).A.guards = some [] := hg0
  obtain ⟨hu70, hu65, hu64, hu1⟩ : (cxN P w K mg base N_behind "behind" s_behind f cdv A outer s H E).A.units + 70 < cLine ∧ (cxN P w K mg base N_behind "behind" s_behind f cdv A outer s H E).A.units + 65 < cLine ∧ (cxN P w K mg base N_behind "behind" s_behind f cdv A outer s H E).A.units + 64 < cLine ∧ (cxN P w K mg base N_behind "behind" s_behind f cdv A outer s H E).A.units + 1 < cLine := units_of hr
  exact (dss_cons (ds_for rfl PassesOwn.never (di_e (dv 1)) (dg_name (i := 2) sc_behind.nd) (dss_one (ds_set (i := 0) sc_behind.nd (de_callD (B := []) D_gone (hr.mono (by decide)) hgd rfl (da_cons (dv 0) (da_cons (dv 2) da_nil)) (len_cons (len_cons len_nil))))))
    (dss_one (ds_ret (dv 0))))
theorem D_behind {P : Program} {w : World} {K : PySem.W.Frag} {mg : Str → Option Value} {base : Heap} (R : Raw K mg "behind" s_behind ["hall", "row"]) (hB : BiOk mg) (D_gone : Def P w K mg base "gone" s_gone 5 ["hall", "name"] fm_gone) : Def P w K mg base "behind" s_behind 6 ["hall", "row"] fm_behind := def_of R sc_behind (body_behind hB D_gone) fun _ _ _ h => h
abbrev s_is_way : Stmt := topS 25
abbrev N_is_way : List Str := ["hall", "thing", "name"]
theorem sc_is_way : FnScope N_is_way ["hall", "thing"] (defScope s_is_way) := ⟨rfl, rfl, rfl, by decide +kernel, rfl, by decide +kernel, by decide +kernel⟩
noncomputable def m_is_way : MS := (mSeq (mIfS (mNot (mTru (mOp1 (isiD ["list"]) (mVar 1)))) (mRet (mC (.bool false))) mSkip) (mSeq (mFor (iE (mVar 1)) (gN 2) (mSeq (mIfS (mNot (mTru (mCall [] fm_is_free (mCons (mCall [] fm_card_of (mCons (mVar 0) (mCons (mVar 2) mNil))) mNil)))) (mRet (mC (.bool false))) mSkip) (mSet 0 (mCall [] fm_gone (mCons (mVar 0) (mCons (mVar 2) mNil)))))) (mRet (mOp2 eqD (mOp1 lenD (mSub (mVar 0) (mC (.int 1)))) (mC (.int 0))))))
noncomputable def fm_is_way : FM := runF 2 3 [] m_is_way
theorem body_is_way {P : Program} {w : World} {K : PySem.W.Frag} {mg : Str → Option Value} {base : Heap} (hB : BiOk mg) (D_card_of : Def P w K mg base "card_of" s_card_of 1 ["hall", "name"] fm_card_of) (D_is_free : Def P w K mg base "is_free" s_is_free 4 ["card"] fm_is_free) (D_gone : Def P w K mg base "gone" s_gone 5 ["hall", "name"] fm_gone) (f : Addr) (cdv : Value) (A : Around) (outer : List PySem.Env) (s : Shared) (H : Hp) (E : XK) (hr : Room 5 (A.deeper (envOfC "is_way" (defScope s_is_way) s.heap.objs.size f cdv))) (hg0 : A.guards = some []) :
    DSs (cxN P w K mg base N_is_way "is_way" s_is_way f cdv A outer s H E) [] (defBody s_is_way) m_is_way := by
  have hgd : (cxN P w K mg base N_is_way "is_way" s_is_way f cdv A outer s H E).A.guards = some [] := hg0
  have hb_isinstance := hB "isinstance" (by decide)
  have hb_list := hB "list" (by decide)
  have hb_len := hB "len" (by decide)
  obtain ⟨hu70, hu65, hu64, hu1⟩ : (cxN P w K mg base N_is_way "is_way" s_is_way f cdv A outer s H E).A.units + 70 < cLine ∧ (cxN P w K mg base N_is_way "is_way" s_is_way f cdv A outer s H E).A.units + 65 < cLine ∧ (cxN P w K mg base N_is_way "is_way" s_is_way f cdv A outer s H E).A.units + 64 < cLine ∧ (cxN P w K mg base N_is_way "is_way" s_is_way f cdv A outer s H E).A.units + 1 < cLine := units_of hr
  exact (dss_cons (ds_if (dt_not (dt_truth (de_isi rfl hb_isinstance tyOk_list (dv 1) (pty rfl hb_list PyProof.Rows.boot_list)))) (dss_one (ds_ret de_bl)) dss_nil)
    (dss_cons (ds_for rfl PassesOwn.never (di_e (dv 1)) (dg_name (i := 2) sc_is_way.nd) (dss_cons (ds_if (dt_not (dt_truth (de_callD (B := []) D_is_free (hr.mono (by decide)) hgd rfl (da_cons (de_callD (B := []) D_card_of (hr.mono (by decide)) hgd rfl (da_cons (dv 0) (da_cons (dv 2) da_nil)) (len_cons (len_cons len_nil))) da_nil) (len_cons len_nil)))) (dss_one (ds_ret de_bl)) dss_nil)
    (dss_one (ds_set (i := 0) sc_is_way.nd (de_callD (B := []) D_gone (hr.mono (by decide)) hgd rfl (da_cons (dv 0) (da_cons (dv 2) da_nil)) (len_cons (len_cons len_nil)))))))
    (dss_one (ds_ret (de_cmp (op_eqD hu64) b2_eq (de_len rfl hb_len (de_sub hu1 (dv 0) de_int)) de_int)))))
theorem D_is_way {P : Program} {w : World} {K : PySem.W.Frag} {mg : Str → Option Value} {base : Heap} (R : Raw K mg "is_way" s_is_way ["hall", "thing"]) (hB : BiOk mg) (D_card_of : Def P w K mg base "card_of" s_card_of 1 ["hall", "name"] fm_card_of) (D_is_free : Def P w K mg base "is_free" s_is_free 4 ["card"] fm_is_free) (D_gone : Def P w K mg base "gone" s_gone 5 ["hall", "name"] fm_gone) : Def P w K mg base "is_way" s_is_way 6 ["hall", "thing"] fm_is_way := def_of R sc_is_way (body_is_way hB D_card_of D_is_free D_gone) fun _ _ _ h => h
abbrev s__law_box : Stmt := topS 27
abbrev N__law_box : List Str := ["_law_cells_here", "_law_k", "_law_cell"]
theorem sc__law_box : FnScope N__law_box ["_law_cells_here", "_law_k"] (defScope s__law_box) := ⟨rfl, rfl, rfl, by decide +kernel, rfl, by decide +kernel, by decide +kernel⟩
noncomputable def m__law_box : MS := (mSeq (mSet 2 (mSub (mVar 0) (mVar 1))) (mRet (mLst (mCons (mOp2 mulD (mOp1 absD (mVar 2)) (mOp1 intD (mOp2 geD (mOp1 absD (mVar 2)) (mOp2 powD (mC (.int 10)) (mC (.int 18)))))) (mCons (mOp2 addD (mOp2 addD (mOp2 modD (mVar 2) (mC (.int 2305843009213693951))) (mOp2 mulD (mC (.int 15485863)) (mVar 1))) (mC (.int 11))) (mCons (mC (.int 0)) mNil))))))
noncomputable def fm__law_box : FM := runF 2 3 [] m__law_box
theorem body__law_box {P : Program} {w : World} {K : PySem.W.Frag} {mg : Str → Option Value} {base : Heap} (hB : BiOk mg)  (f : Addr) (cdv : Value) (A : Around) (outer : List PySem.Env) (s : Shared) (H : Hp) (E : XK) (hr : Room 0 (A.deeper (envOfC "_law_box" (defScope s__law_box) s.heap.objs.size f cdv))) (hg0 : A.guards = some []) :
    DSs (cxN P w K mg base N__law_box "_law_box" s__law_box f cdv A outer s H E) [] (defBody s__law_box) m__law_box := by
  have hgd : (cxN P w K mg base N__law_box "_law_box" s__law_box f cdv A outer s H E).A.guards = some [] := hg0
  have hb_abs := hB "abs" (by decide)
  have hb_int := hB "int" (by decide)
  obtain ⟨hu70, hu65, hu64, hu1⟩ : (cxN P w K mg base N__law_box "_law_box" s__law_box f cdv A outer s H E).A.units + 70 < cLine ∧ (cxN P w K mg base N__law_box "_law_box" s__law_box f cdv A outer s H E).A.units + 65 < cLine ∧ (cxN P w K mg base N__law_box "_law_box" s__law_box f cdv A outer s H E).A.units + 64 < cLine ∧ (cxN P w K mg base N__law_box "_law_box" s__law_box f cdv A outer s H E).A.units + 1 < cLine := units_of hr
  exact (dss_cons (ds_set (i := 2) sc__law_box.nd (de_sub hu1 (dv 0) (dv 1)))
    (dss_one (ds_ret (de_lst (da_cons (de_op op_mulD b2_mul (de_abs rfl hb_abs (dv 2)) (de_intC rfl hb_int (de_cmp op_ge b2_ge (de_abs rfl hb_abs (dv 2)) (de_op op_pow b2_pow de_int de_int)))) (da_cons (de_op op_addD b2_add (de_op op_addD b2_add (de_op op_modN b2_mod (dv 2) de_int) (de_op op_mulD b2_mul de_int (dv 1))) de_int) (da_cons de_int da_nil))) (len_cons (len_cons (len_cons len_nil)))))))
theorem D__law_box {P : Program} {w : World} {K : PySem.W.Frag} {mg : Str → Option Value} {base : Heap} (R : Raw K mg "_law_box" s__law_box ["_law_cells_here", "_law_k"]) (hB : BiOk mg)  : Def P w K mg base "_law_box" s__law_box 1 ["_law_cells_here", "_law_k"] fm__law_box := def_of R sc__law_box (body__law_box hB ) fun _ _ _ h => h
abbrev s__law_take : Stmt := topS 28
abbrev N__law_take : List Str := ["_law_box_here", "_law_amount", "_law_found", "_law_blend"]
theorem sc__law_take : FnScope N__law_take ["_law_box_here", "_law_amount"] (defScope s__law_take) := ⟨rfl, rfl, rfl, by decide +kernel, rfl, by decide +kernel, by decide +kernel⟩
noncomputable def m__law_take : MS := (mSeq (mIfS (mB (mOp2 gtD (mSub (mVar 0) (mC (.int 0))) (mC (.int 0)))) (mSeq (mSet 2 (mOp2 modD (mSub (mVar 0) (mC (.int 0))) (mVar 1))) (mSeq (mSetI (mOp2 fdivD (mSub (mVar 0) (mC (.int 0))) (mVar 1)) (mVar 0) (mC (.int 0))) (mRet (mVar 2)))) mSkip) (mSeq (mSetI (mOp2 addD (mSub (mVar 0) (mC (.int 2))) (mC (.int 1))) (mVar 0) (mC (.int 2))) (mSeq (mSet 3 (mOp2 modD (mOp2 addD (mSub (mVar 0) (mC (.int 1))) (mOp2 mulD (mC (.int 1442695040888963407)) (mSub (mVar 0) (mC (.int 2))))) (mC (.int 2305843009213693951)))) (mSeq (mSet 3 (mOp2 modD (mOp2 addD (mOp2 addD (mOp2 mulD (mVar 3) (mVar 3)) (mOp2 mulD (mC (.int 39373)) (mSub (mVar 0) (mC (.int 2))))) (mC (.int 7))) (mC (.int 2305843009213693921)))) (mSeq (mSet 3 (mOp2 modD (mOp2 addD (mOp2 mulD (mVar 3) (mOp2 addD (mOp2 fdivD (mVar 3) (mC (.int 65536))) (mC (.int 3)))) (mSub (mVar 0) (mC (.int 2)))) (mC (.int 2305843009213693907)))) (mRet (mOp2 modD (mOp2 fdivD (mVar 3) (mC (.int 1048576))) (mVar 1))))))))
noncomputable def fm__law_take : FM := runF 2 4 [0] m__law_take
theorem body__law_take {P : Program} {w : World} {K : PySem.W.Frag} {mg : Str → Option Value} {base : Heap} (hB : BiOk mg)  (f : Addr) (cdv : Value) (A : Around) (outer : List PySem.Env) (s : Shared) (H : Hp) (E : XK) (hr : Room 0 (A.deeper (envOfC "_law_take" (defScope s__law_take) s.heap.objs.size f cdv))) (hg0 : A.guards = some []) :
    DSs (cxN P w K mg base N__law_take "_law_take" s__law_take f cdv A outer s H E) [0] (defBody s__law_take) m__law_take := by
  have hgd : (cxN P w K mg base N__law_take "_law_take" s__law_take f cdv A outer s H E).A.guards = some [] := hg0
  obtain ⟨hu70, hu65, hu64, hu1⟩ : (cxN P w K mg base N__law_take "_law_take" s__law_take f cdv A outer s H E).A.units + 70 < cLine ∧ (cxN P w K mg base N__law_take "_law_take" s__law_take f cdv A outer s H E).A.units + 65 < cLine ∧ (cxN P w K mg base N__law_take "_law_take" s__law_take f cdv A outer s H E).A.units + 64 < cLine ∧ (cxN P w K mg base N__law_take "_law_take" s__law_take f cdv A outer s H E).A.units + 1 < cLine := units_of hr
  exact (dss_cons (ds_if (dt_cmp op_gt b2_gt (de_sub hu1 (dv 0) de_int) de_int) (dss_cons (ds_set (i := 2) sc__law_take.nd (de_op op_modN b2_mod (de_sub hu1 (dv 0) de_int) (dv 1)))
    (dss_cons (ds_setI hu1 (de_op op_fdivN b2_fdiv (de_sub hu1 (dv 0) de_int) (dv 1)) (dv 0) de_int)
    (dss_one (ds_ret (dv 2))))) dss_nil)
    (dss_cons (ds_setI hu1 (de_op op_addD b2_add (de_sub hu1 (dv 0) de_int) de_int) (dv 0) de_int)
    (dss_cons (ds_set (i := 3) sc__law_take.nd (de_op op_modN b2_mod (de_op op_addD b2_add (de_sub hu1 (dv 0) de_int) (de_op op_mulD b2_mul de_int (de_sub hu1 (dv 0) de_int))) de_int))
    (dss_cons (ds_set (i := 3) sc__law_take.nd (de_op op_modN b2_mod (de_op op_addD b2_add (de_op op_addD b2_add (de_op op_mulD b2_mul (dv 3) (dv 3)) (de_op op_mulD b2_mul de_int (de_sub hu1 (dv 0) de_int))) de_int) de_int))
    (dss_cons (ds_set (i := 3) sc__law_take.nd (de_op op_modN b2_mod (de_op op_addD b2_add (de_op op_mulD b2_mul (dv 3) (de_op op_addD b2_add (de_op op_fdivN b2_fdiv (dv 3) de_int) de_int)) (de_sub hu1 (dv 0) de_int)) de_int))
    (dss_one (ds_ret (de_op op_modN b2_mod (de_op op_fdivN b2_fdiv (dv 3) de_int) (dv 1)))))))))
theorem D__law_take {P : Program} {w : World} {K : PySem.W.Frag} {mg : Str → Option Value} {base : Heap} (R : Raw K mg "_law_take" s__law_take ["_law_box_here", "_law_amount"]) (hB : BiOk mg)  : Def P w K mg base "_law_take" s__law_take 1 ["_law_box_here", "_law_amount"] fm__law_take := def_of R sc__law_take (body__law_take hB ) fun _ _ _ h => h
abbrev s__law_cells : Stmt := topS 29
abbrev N__law_cells : List Str := ["_law_script", "_law_utmost", "_law_cells_here", "_law_k", "_law_cell"]
theorem sc__law_cells : FnScope N__law_cells ["_law_script", "_law_utmost"] (defScope s__law_cells) := ⟨rfl, rfl, rfl, by decide +kernel, rfl, by decide +kernel, by decide +kernel⟩
noncomputable def m__law_cells : MS := (mSeq (mSet 2 (mOrV (mOp1 listD (mSl (mVar 0) oNone (oSome (mVar 1)))) (mLst (mCons (mC (.int 0)) mNil)))) (mSeq (mFor (iEnA (mSl (mVar 0) (oSome (mVar 1)) (oSome (mC (.int 63))))) (gT 2 (gsCons (gN 3) (gsCons (gN 4) gsNil))) (mSetI (mOp2 addD (mSub (mVar 2) (mOp2 modD (mVar 3) (mVar 1))) (mOp2 mulD (mVar 4) (mOp2 addD (mVar 3) (mC (.int 2))))) (mVar 2) (mOp2 modD (mVar 3) (mVar 1)))) (mRet (mVar 2))))
noncomputable def fm__law_cells : FM := runF 2 5 [] m__law_cells
theorem body__law_cells {P : Program} {w : World} {K : PySem.W.Frag} {mg : Str → Option Value} {base : Heap} (hB : BiOk mg)  (f : Addr) (cdv : Value) (A : Around) (outer : List PySem.Env) (s : Shared) (H : Hp) (E : XK) (hr : Room 0 (A.deeper (envOfC "_law_cells" (defScope s__law_cells) s.heap.objs.size f cdv))) (hg0 : A.guards = some []) :
    DSs (cxN P w K mg base N__law_cells "_law_cells" s__law_cells f cdv A outer s H E) [] (defBody s__law_cells) m__law_cells := by
  have hgd : (cxN P w K mg base N__law_cells "_law_cells" s__law_cells f cdv A outer s H E).A.guards = some [] := hg0
  have hb_list := hB "list" (by decide)
  have hb_enumerate := hB "enumerate" (by decide)
  obtain ⟨hu70, hu65, hu64, hu1⟩ : (cxN P w K mg base N__law_cells "_law_cells" s__law_cells f cdv A outer s H E).A.units + 70 < cLine ∧ (cxN P w K mg base N__law_cells "_law_cells" s__law_cells f cdv A outer s H E).A.units + 65 < cLine ∧ (cxN P w K mg base N__law_cells "_law_cells" s__law_cells f cdv A outer s H E).A.units + 64 < cLine ∧ (cxN P w K mg base N__law_cells "_law_cells" s__law_cells f cdv A outer s H E).A.units + 1 < cLine := units_of hr
  exact (dss_cons (ds_set (i := 2) sc__law_cells.nd (de_or (de_listC rfl hb_list (de_sl (dv 0) do_none (do_some (dv 1)))) (de_one (de_lst (da_cons de_int da_nil) (len_cons len_nil)))))
    (dss_cons (ds_for rfl PassesOwn.never (di_enumA rfl hb_enumerate (de_sl (dv 0) (do_some (dv 1)) (do_some de_int))) (dg_tup rfl (dgs_cons (dg_name (i := 3) sc__law_cells.nd) (dgs_cons (dg_name (i := 4) sc__law_cells.nd) dgs_nil))) (dss_one (ds_setI hu1 (de_op op_addD b2_add (de_sub hu1 (dv 2) (de_op op_modN b2_mod (dv 3) (dv 1))) (de_op op_mulD b2_mul (dv 4) (de_op op_addD b2_add (dv 3) de_int))) (dv 2) (de_op op_modN b2_mod (dv 3) (dv 1)))))
    (dss_one (ds_ret (dv 2)))))
theorem D__law_cells {P : Program} {w : World} {K : PySem.W.Frag} {mg : Str → Option Value} {base : Heap} (R : Raw K mg "_law_cells" s__law_cells ["_law_script", "_law_utmost"]) (hB : BiOk mg)  : Def P w K mg base "_law_cells" s__law_cells 1 ["_law_script", "_law_utmost"] fm__law_cells := def_of R sc__law_cells (body__law_cells hB ) fun _ _ _ h => h
abbrev s__law_callings : Stmt := topS 30
abbrev N__law_callings : List Str := ["_law_box_here", "_law_amount", "_law_letters", "_law_start", "_law_stem", "_law_step", "_law_turn", "_law_k"]
theorem sc__law_callings : FnScope N__law_callings ["_law_box_here", "_law_amount"] (defScope s__law_callings) := ⟨rfl, rfl, rfl, by decide +kernel, rfl, by decide +kernel, by decide +kernel⟩
noncomputable def m__law_callings : MS := (mSeq (mPar2 2 3 (mC (.str "abcdefghijklmnopqrstuvwxyz")) (mCall [0] fm__law_take (mCons (mVar 0) (mCons (mC (.int 26)) mNil)))) (mSeq (mSet 4 (mOp2 joinD (mC (.str "")) (mLc (iR1 (mCons (mCall [0] fm__law_take (mCons (mVar 0) (mCons (mC (.int 8)) mNil))) mNil)) [6] (gN 6) mYes (mSub (mVar 2) (mCall [0] fm__law_take (mCons (mVar 0) (mCons (mC (.int 26)) mNil))))))) (mSeq (mSet 5 (mSub (mLst (mCons (mC (.int 1)) (mCons (mC (.int 7)) (mCons (mC (.int 25)) mNil)))) (mCall [0] fm__law_take (mCons (mVar 0) (mCons (mC (.int 3)) mNil))))) (mRet (mLc (iR1 (mCons (mVar 1) mNil)) [7] (gN 7) mYes (mOp2 addD (mVar 4) (mSub (mVar 2) (mOp2 modD (mOp2 addD (mVar 3) (mOp2 mulD (mVar 5) (mVar 7))) (mC (.int 26))))))))))
noncomputable def fm__law_callings : FM := runF 2 8 [0] m__law_callings
theorem body__law_callings {P : Program} {w : World} {K : PySem.W.Frag} {mg : Str → Option Value} {base : Heap} (hB : BiOk mg) (D__law_take : Def P w K mg base "_law_take" s__law_take 1 ["_law_box_here", "_law_amount"] fm__law_take) (f : Addr) (cdv : Value) (A : Around) (outer : List PySem.Env) (s : Shared) (H : Hp) (E : XK) (hr : Room 1 (A.deeper (envOfC "_law_callings" (defScope s__law_callings) s.heap.objs.size f cdv))) (hg0 : A.guards = some []) :
    DSs (cxN P w K mg base N__law_callings "_law_callings" s__law_callings f cdv A outer s H E) [0] (defBody s__law_callings) m__law_callings := by
  have hgd : (cxN P w K mg base N__law_callings "_law_callings" s__law_callings f cdv A outer s H E).A.guards = some [] := hg0
  have hb_range := hB "range" (by decide)
  obtain ⟨hu70, hu65, hu64, hu1⟩ : (cxN P w K mg base N__law_callings "_law_callings" s__law_callings f cdv A outer s H E).A.units + 70 < cLine ∧ (cxN P w K mg base N__law_callings "_law_callings" s__law_callings f cdv A outer s H E).A.units + 65 < cLine ∧ (cxN P w K mg base N__law_callings "_law_callings" s__law_callings f cdv A outer s H E).A.units + 64 < cLine ∧ (cxN P w K mg base N__law_callings "_law_callings" s__law_callings f cdv A outer s H E).A.units + 1 < cLine := units_of hr
  exact (dss_cons (by first | exact ds_par (i := 2) (j := 3) rfl sc__law_callings.nd de_str (de_callD (B := [0]) D__law_take (hr.mono (by decide)) hgd rfl (da_cons (dv 0) (da_cons de_int da_nil)) (len_cons (len_cons len_nil))) rfl rfl (by rfl) | exact ds_parT (i := 2) (j := 3) rfl sc__law_callings.nd de_str (de_callD (B := [0]) D__law_take (hr.mono (by decide)) hgd rfl (da_cons (dv 0) (da_cons de_int da_nil)) (len_cons (len_cons len_nil))))
    (dss_cons (ds_set (i := 4) sc__law_callings.nd (de_join de_str (de_lc rfl sc__law_callings.nd (blkOk_by (own := [("_law_turn", 6)]) (N := N__law_callings) (sc := defScope s__law_callings) (by first | decide +kernel | rfl)) (vs := [6]) rfl (di_r1 rfl hb_range (da_cons (de_callD (B := [0]) D__law_take (hr.mono (by decide)) hgd rfl (da_cons (dv 0) (da_cons de_int da_nil)) (len_cons (len_cons len_nil))) da_nil)) (fun _ _ => (dg_name (i := 6) sc__law_callings.nd (hB := not_onlyB (by decide)))) (fun _ => dts_nil) (fun _ => (de_sub hu1 (dv 2) (de_callD (B := [0]) D__law_take (hr.mono (by decide)) hgd rfl (da_cons (dv 0) (da_cons de_int da_nil)) (len_cons (len_cons len_nil)))))) (fun _ => ⟨_, rfl⟩)))
    (dss_cons (ds_set (i := 5) sc__law_callings.nd (de_sub hu1 (de_lst (da_cons de_int (da_cons de_int (da_cons de_int da_nil))) (len_cons (len_cons (len_cons len_nil)))) (de_callD (B := [0]) D__law_take (hr.mono (by decide)) hgd rfl (da_cons (dv 0) (da_cons de_int da_nil)) (len_cons (len_cons len_nil)))))
    (dss_one (ds_ret (de_lc rfl sc__law_callings.nd (blkOk_by (own := [("_law_k", 7)]) (N := N__law_callings) (sc := defScope s__law_callings) (by first | decide +kernel | rfl)) (vs := [7]) rfl (di_r1 rfl hb_range (da_cons (dv 1) da_nil)) (fun _ _ => (dg_name (i := 7) sc__law_callings.nd (hB := not_onlyB (by decide)))) (fun _ => dts_nil) (fun _ => (de_op op_addD b2_add (dv 4) (de_sub hu1 (dv 2) (de_op op_modN b2_mod (de_op op_addD b2_add (dv 3) (de_op op_mulD b2_mul (dv 5) (dv 7))) de_int))))))))))
theorem D__law_callings {P : Program} {w : World} {K : PySem.W.Frag} {mg : Str → Option Value} {base : Heap} (R : Raw K mg "_law_callings" s__law_callings ["_law_box_here", "_law_amount"]) (hB : BiOk mg) (D__law_take : Def P w K mg base "_law_take" s__law_take 1 ["_law_box_here", "_law_amount"] fm__law_take) : Def P w K mg base "_law_callings" s__law_callings 2 ["_law_box_here", "_law_amount"] fm__law_callings := def_of R sc__law_callings (body__law_callings hB D__law_take) fun _ _ _ h => h
abbrev s__law_round : Stmt := topS 31
abbrev N__law_round : List Str := ["_law_size", "_law_amount"]
theorem sc__law_round : FnScope N__law_round ["_law_size", "_law_amount"] (defScope s__law_round) := ⟨rfl, rfl, rfl, by decide +kernel, rfl, by decide +kernel, by decide +kernel⟩
noncomputable def m__law_round : MS := (mRet (mIf (mB (mOp2 eqD (mVar 0) (mC (.int 0)))) (mVar 1) (mOp2 modD (mVar 1) (mVar 0))))
noncomputable def fm__law_round : FM := runF 2 2 [] m__law_round
theorem body__law_round {P : Program} {w : World} {K : PySem.W.Frag} {mg : Str → Option Value} {base : Heap} (hB : BiOk mg)  (f : Addr) (cdv : Value) (A : Around) (outer : List PySem.Env) (s : Shared) (H : Hp) (E : XK) (hr : Room 0 (A.deeper (envOfC "_law_round" (defScope s__law_round) s.heap.objs.size f cdv))) (hg0 : A.guards = some []) :
    DSs (cxN P w K mg base N__law_round "_law_round" s__law_round f cdv A outer s H E) [] (defBody s__law_round) m__law_round := by
  have hgd : (cxN P w K mg base N__law_round "_law_round" s__law_round f cdv A outer s H E).A.guards = some [] := hg0
  obtain ⟨hu70, hu65, hu64, hu1⟩ : (cxN P w K mg base N__law_round "_law_round" s__law_round f cdv A outer s H E).A.units + 70 < cLine ∧ (cxN P w K mg base N__law_round "_law_round" s__law_round f cdv A outer s H E).A.units + 65 < cLine ∧ (cxN P w K mg base N__law_round "_law_round" s__law_round f cdv A outer s H E).A.units + 64 < cLine ∧ (cxN P w K mg base N__law_round "_law_round" s__law_round f cdv A outer s H E).A.units + 1 < cLine := units_of hr
  exact (dss_one (ds_ret (de_if (dt_cmp (op_eqD hu64) b2_eq (dv 0) de_int) (dv 1) (de_op op_modN b2_mod (dv 1) (dv 0)))))
theorem D__law_round {P : Program} {w : World} {K : PySem.W.Frag} {mg : Str → Option Value} {base : Heap} (R : Raw K mg "_law_round" s__law_round ["_law_size", "_law_amount"]) (hB : BiOk mg)  : Def P w K mg base "_law_round" s__law_round 1 ["_law_size", "_law_amount"] fm__law_round := def_of R sc__law_round (body__law_round hB ) fun _ _ _ h => h
abbrev s__law_links : Stmt := topS 32
abbrev N__law_links : List Str := ["_law_box_here", "_law_size", "_law_callings_here", "_law_often", "_law_found", "_law_used", "_law_k", "_law_free_here", "_law_whom", "_law_glass", "_law_who"]
theorem sc__law_links : FnScope N__law_links ["_law_box_here", "_law_size", "_law_callings_here", "_law_often"] (defScope s__law_links) := ⟨rfl, rfl, rfl, by decide +kernel, rfl, by decide +kernel, by decide +kernel⟩
noncomputable def m__law_links : MS := (mSeq (mPar2 4 5 (mLst mNil) (mOp1 dictD (mLc (iE (mVar 2)) [10] (gN 10) mYes (mTup (mCons (mVar 10) (mCons (mC (.int 0)) mNil)))))) (mSeq (mFor (iR2 (mCons (mC (.int 1)) (mCons (mOp1 lenD (mVar 2)) mNil))) (gN 6) (mSeq (mSet 7 (mLc (iE (mSl (mVar 2) oNone (oSome (mVar 6)))) [10] (gN 10) (mB (mOp2 ltD (mSub (mVar 5) (mVar 10)) (mC (.int 6)))) (mVar 10))) (mSeq (mSet 8 (mSub (mVar 7) (mCall [0] fm__law_take (mCons (mVar 0) (mCons (mOp1 lenD (mVar 7)) mNil))))) (mSeq (mSet 9 (mCall [] fm__law_round (mCons (mVar 1) (mCons (mOp2 subD (mCall [0] fm__law_take (mCons (mVar 0) (mCons (mC (.int 60)) mNil))) (mC (.int 20))) mNil)))) (mIfS (mB (mOp2 gtD (mCall [0] fm__law_take (mCons (mVar 0) (mCons (mVar 3) mNil))) (mC (.int 0)))) (mSeq (mDrop (mMeth fAppend (mVar 4) (mCons (mTup (mCons (mOp2 minD (mVar 8) (mSub (mVar 2) (mVar 6))) (mCons (mOp2 maxD (mVar 8) (mSub (mVar 2) (mVar 6))) (mCons (mVar 9) mNil)))) mNil))) (mSeq (mSetI (mOp2 addD (mSub (mVar 5) (mVar 8)) (mC (.int 1))) (mVar 5) (mVar 8)) (mSetI (mOp2 addD (mSub (mVar 5) (mSub (mVar 2) (mVar 6))) (mC (.int 1))) (mVar 5) (mSub (mVar 2) (mVar 6))))) mSkip))))) (mRet (mOp1 sortedD (mVar 4)))))
noncomputable def fm__law_links : FM := runF 4 11 [0] m__law_links
theorem body__law_links {P : Program} {w : World} {K : PySem.W.Frag} {mg : Str → Option Value} {base : Heap} (hB : BiOk mg) (D__law_take : Def P w K mg base "_law_take" s__law_take 1 ["_law_box_here", "_law_amount"] fm__law_take) (D__law_round : Def P w K mg base "_law_round" s__law_round 1 ["_law_size", "_law_amount"] fm__law_round) (f : Addr) (cdv : Value) (A : Around) (outer : List PySem.Env) (s : Shared) (H : Hp) (E : XK) (hr : Room 1 (A.deeper (envOfC "_law_links" (defScope s__law_links) s.heap.objs.size f cdv))) (hg0 : A.guards = some []) :
    DSs (cxN P w K mg base N__law_links "_law_links" s__law_links f cdv A outer s H E) [0] (defBody s__law_links) m__law_links := by
  have hgd : (cxN P w K mg base N__law_links "_law_links" s__law_links f cdv A outer s H E).A.guards = some [] := hg0
  have hb_dict := hB "dict" (by decide)
  have hb_len := hB "len" (by decide)
  have hb_range := hB "range" (by decide)
  have hb_min := hB "min" (by decide)
  have hb_max := hB "max" (by decide)
  have hb_sorted := hB "sorted" (by decide)
  obtain ⟨hu70, hu65, hu64, hu1⟩ : (cxN P w K mg base N__law_links "_law_links" s__law_links f cdv A outer s H E).A.units + 70 < cLine ∧ (cxN P w K mg base N__law_links "_law_links" s__law_links f cdv A outer s H E).A.units + 65 < cLine ∧ (cxN P w K mg base N__law_links "_law_links" s__law_links f cdv A outer s H E).A.units + 64 < cLine ∧ (cxN P w K mg base N__law_links "_law_links" s__law_links f cdv A outer s H E).A.units + 1 < cLine := units_of hr
  exact (dss_cons (by first | exact ds_par (i := 4) (j := 5) rfl sc__law_links.nd (de_lst da_nil len_nil) (de_dictC rfl rfl hb_dict (de_lc rfl sc__law_links.nd (blkOk_by (own := [("_law_who", 10)]) (N := N__law_links) (sc := defScope s__law_links) (by first | decide +kernel | rfl)) (vs := [10]) rfl (di_e (dv 2)) (fun _ _ => (dg_name (i := 10) sc__law_links.nd (hB := not_onlyB (by decide)))) (fun _ => dts_nil) (fun _ => (de_tup (da_cons (dv 10) (da_cons de_int da_nil)) (len_cons (len_cons len_nil)))))) rfl rfl (by rfl) | exact ds_parT (i := 4) (j := 5) rfl sc__law_links.nd (de_lst da_nil len_nil) (de_dictC rfl rfl hb_dict (de_lc rfl sc__law_links.nd (blkOk_by (own := [("_law_who", 10)]) (N := N__law_links) (sc := defScope s__law_links) (by first | decide +kernel | rfl)) (vs := [10]) rfl (di_e (dv 2)) (fun _ _ => (dg_name (i := 10) sc__law_links.nd (hB := not_onlyB (by decide)))) (fun _ => dts_nil) (fun _ => (de_tup (da_cons (dv 10) (da_cons de_int da_nil)) (len_cons (len_cons len_nil)))))))
    (dss_cons (ds_for rfl PassesOwn.never (di_r2 rfl hb_range (da_cons de_int (da_cons (de_len rfl hb_len (dv 2)) da_nil))) (dg_name (i := 6) sc__law_links.nd) (dss_cons (by first | exact ds_setLc (i := 7) rfl sc__law_links.nd (blkOk_by (own := [("_law_who", 10)]) (N := N__law_links) (sc := defScope s__law_links) (by first | decide +kernel | rfl)) (vs := [10]) rfl (sw_true rfl rfl rfl (by decide +kernel)) (di_e (de_sl (dv 2) do_none (do_some (dv 6)))) (fun _ _ => (dg_name (i := 10) sc__law_links.nd (hB := not_onlyB (by decide)))) (fun _ => (dts_one (dt_cmp (op_ltD hu64) b2_lt (de_sub hu1 (dv 5) (dv 10)) de_int))) (fun _ => (dv 10)) | exact ds_set (i := 7) sc__law_links.nd (de_lc rfl sc__law_links.nd (blkOk_by (own := [("_law_who", 10)]) (N := N__law_links) (sc := defScope s__law_links) (by first | decide +kernel | rfl)) (vs := [10]) rfl (di_e (de_sl (dv 2) do_none (do_some (dv 6)))) (fun _ _ => (dg_name (i := 10) sc__law_links.nd (hB := not_onlyB (by decide)))) (fun _ => (dts_one (dt_cmp (op_ltD hu64) b2_lt (de_sub hu1 (dv 5) (dv 10)) de_int))) (fun _ => (dv 10))))
    (dss_cons (ds_set (i := 8) sc__law_links.nd (de_sub hu1 (dv 7) (de_callD (B := [0]) D__law_take (hr.mono (by decide)) hgd rfl (da_cons (dv 0) (da_cons (de_len rfl hb_len (dv 7)) da_nil)) (len_cons (len_cons len_nil)))))
    (dss_cons (ds_set (i := 9) sc__law_links.nd (de_callD (B := []) D__law_round (hr.mono (by decide)) hgd rfl (da_cons (dv 1) (da_cons (de_op op_sub b2_sub (de_callD (B := [0]) D__law_take (hr.mono (by decide)) hgd rfl (da_cons (dv 0) (da_cons de_int da_nil)) (len_cons (len_cons len_nil))) de_int) da_nil)) (len_cons (len_cons len_nil))))
    (dss_one (ds_if (dt_cmp op_gt b2_gt (de_callD (B := [0]) D__law_take (hr.mono (by decide)) hgd rfl (da_cons (dv 0) (da_cons (dv 3) da_nil)) (len_cons (len_cons len_nil))) de_int) (dss_cons (ds_expr (de_append (dv 4) (de_tup (da_cons (de_min2 rfl rfl hb_min (dv 8) (de_sub hu1 (dv 2) (dv 6))) (da_cons (de_max2 rfl rfl hb_max (dv 8) (de_sub hu1 (dv 2) (dv 6))) (da_cons (dv 9) da_nil))) (len_cons (len_cons (len_cons len_nil))))))
    (dss_cons (ds_setI hu1 (de_op op_addD b2_add (de_sub hu1 (dv 5) (dv 8)) de_int) (dv 5) (dv 8))
    (dss_one (ds_setI hu1 (de_op op_addD b2_add (de_sub hu1 (dv 5) (de_sub hu1 (dv 2) (dv 6))) de_int) (dv 5) (de_sub hu1 (dv 2) (dv 6)))))) dss_nil))))))
    (dss_one (ds_ret (de_sorted hu70 rfl hb_sorted (dv 4))))))
theorem D__law_links {P : Program} {w : World} {K : PySem.W.Frag} {mg : Str → Option Value} {base : Heap} (R : Raw K mg "_law_links" s__law_links ["_law_box_here", "_law_size", "_law_callings_here", "_law_often"]) (hB : BiOk mg) (D__law_take : Def P w K mg base "_law_take" s__law_take 1 ["_law_box_here", "_law_amount"] fm__law_take) (D__law_round : Def P w K mg base "_law_round" s__law_round 1 ["_law_size", "_law_amount"] fm__law_round) : Def P w K mg base "_law_links" s__law_links 2 ["_law_box_here", "_law_size", "_law_callings_here", "_law_often"] fm__law_links := def_of R sc__law_links (body__law_links hB D__law_take D__law_round) fun _ _ _ h => h
abbrev s__law_beside : Stmt := topS 33
abbrev N__law_beside : List Str := ["_law_links_here", "_law_who", "_law_found", "_law_a", "_law_b", "_law_glass"]
theorem sc__law_beside : FnScope N__law_beside ["_law_links_here", "_law_who"] (defScope s__law_beside) := ⟨rfl, rfl, rfl, by decide +kernel, rfl, by decide +kernel, by decide +kernel⟩
noncomputable def m__law_beside : MS := (mSeq (mSet 2 (mOp2 addD (mLc (iE (mVar 0)) [3, 4, 5] (gT 3 (gsCons (gN 3) (gsCons (gN 4) (gsCons (gN 5) gsNil)))) (mB (mOp2 eqD (mVar 3) (mVar 1))) (mTup (mCons (mVar 4) (mCons (mVar 5) mNil)))) (mLc (iE (mVar 0)) [3, 4, 5] (gT 3 (gsCons (gN 3) (gsCons (gN 4) (gsCons (gN 5) gsNil)))) (mB (mOp2 eqD (mVar 4) (mVar 1))) (mTup (mCons (mVar 3) (mCons (mVar 5) mNil)))))) (mRet (mOp1 sortedD (mVar 2))))
noncomputable def fm__law_beside : FM := runF 2 6 [] m__law_beside
theorem body__law_beside {P : Program} {w : World} {K : PySem.W.Frag} {mg : Str → Option Value} {base : Heap} (hB : BiOk mg)  (f : Addr) (cdv : Value) (A : Around) (outer : List PySem.Env) (s : Shared) (H : Hp) (E : XK) (hr : Room 0 (A.deeper (envOfC "_law_beside" (defScope s__law_beside) s.heap.objs.size f cdv))) (hg0 : A.guards = some []) :
    DSs (cxN P w K mg base N__law_beside "_law_beside" s__law_beside f cdv A outer s H E) [] (defBody s__law_beside) m__law_beside := by
  have hgd : (cxN P w K mg base N__law_beside "_law_beside" s__law_beside f cdv A outer s H E).A.guards = some [] := hg0
  have hb_sorted := hB "sorted" (by decide)
  obtain ⟨hu70, hu65, hu64, hu1⟩ : (cxN P w K mg base N__law_beside "_law_beside" s__law_beside f cdv A outer s H E).A.units + 70 < cLine ∧ (cxN P w K mg base N__law_beside "_law_beside" s__law_beside f cdv A outer s H E).A.units + 65 < cLine ∧ (cxN P w K mg base N__law_beside "_law_beside" s__law_beside f cdv A outer s H E).A.units + 64 < cLine ∧ (cxN P w K mg base N__law_beside "_law_beside" s__law_beside f cdv A outer s H E).A.units + 1 < cLine := units_of hr
  exact (dss_cons (ds_set (i := 2) sc__law_beside.nd (de_op op_addD b2_add (de_lc rfl sc__law_beside.nd (blkOk_by (own := [("_law_a", 3), ("_law_b", 4), ("_law_glass", 5)]) (N := N__law_beside) (sc := defScope s__law_beside) (by first | decide +kernel | rfl)) (vs := [3, 4, 5]) rfl (di_e (dv 0)) (fun _ _ => (dg_tup rfl (dgs_cons (dg_name (i := 3) sc__law_beside.nd (hB := not_onlyB (by decide))) (dgs_cons (dg_name (i := 4) sc__law_beside.nd (hB := not_onlyB (by decide))) (dgs_cons (dg_name (i := 5) sc__law_beside.nd (hB := not_onlyB (by decide))) dgs_nil))))) (fun _ => (dts_one (dt_cmp (op_eqD hu64) b2_eq (dv 3) (dv 1)))) (fun _ => (de_tup (da_cons (dv 4) (da_cons (dv 5) da_nil)) (len_cons (len_cons len_nil))))) (de_lc rfl sc__law_beside.nd (blkOk_by (own := [("_law_a", 3), ("_law_b", 4), ("_law_glass", 5)]) (N := N__law_beside) (sc := defScope s__law_beside) (by first | decide +kernel | rfl)) (vs := [3, 4, 5]) rfl (di_e (dv 0)) (fun _ _ => (dg_tup rfl (dgs_cons (dg_name (i := 3) sc__law_beside.nd (hB := not_onlyB (by decide))) (dgs_cons (dg_name (i := 4) sc__law_beside.nd (hB := not_onlyB (by decide))) (dgs_cons (dg_name (i := 5) sc__law_beside.nd (hB := not_onlyB (by decide))) dgs_nil))))) (fun _ => (dts_one (dt_cmp (op_eqD hu64) b2_eq (dv 4) (dv 1)))) (fun _ => (de_tup (da_cons (dv 3) (da_cons (dv 5) da_nil)) (len_cons (len_cons len_nil)))))))
    (dss_one (ds_ret (de_sorted hu70 rfl hb_sorted (dv 2)))))
theorem D__law_beside {P : Program} {w : World} {K : PySem.W.Frag} {mg : Str → Option Value} {base : Heap} (R : Raw K mg "_law_beside" s__law_beside ["_law_links_here", "_law_who"]) (hB : BiOk mg)  : Def P w K mg base "_law_beside" s__law_beside 1 ["_law_links_here", "_law_who"] fm__law_beside := def_of R sc__law_beside (body__law_beside hB ) fun _ _ _ h => h
abbrev s__law_homely : Stmt := topS 34
abbrev N__law_homely : List Str := ["_law_box_here", "_law_amount", "_law_size", "_law_callings_here", "_law_links_here", "_law_led", "_law_spots", "_law_a", "_law_b", "_law_glass", "_law_who", "_law_ahead", "_law_total", "_law_left", "_law_turn", "_law_whom"]
theorem sc__law_homely : FnScope N__law_homely ["_law_box_here", "_law_amount"] (defScope s__law_homely) := ⟨rfl, rfl, rfl, by decide +kernel, rfl, by decide +kernel, by decide +kernel⟩
noncomputable def m__law_homely : MS := (mSeq (mPar2 2 3 (mSub (mLst (mCons (mC (.int 0)) (mCons (mC (.int 1)) (mCons (mC (.int 2)) (mCons (mC (.int 3)) (mCons (mC (.int 5)) (mCons (mC (.int 12)) (mCons (mC (.int 60)) mNil)))))))) (mCall [0] fm__law_take (mCons (mVar 0) (mCons (mC (.int 7)) mNil)))) (mCall [0] fm__law_callings (mCons (mVar 0) (mCons (mVar 1) mNil)))) (mSeq (mPar3 4 5 6 (mCall [0] fm__law_links (mCons (mVar 0) (mCons (mVar 2) (mCons (mVar 3) (mCons (mC (.int 8)) mNil))))) mD0T (mLst mNil)) (mSeq (mFor (iE (mVar 4)) (gT 3 (gsCons (gN 7) (gsCons (gN 8) (gsCons (gN 9) gsNil)))) (mSetT (mCall [0] fm__law_take (mCons (mVar 0) (mCons (mC (.int 2)) mNil))) (mVar 5) (mTup (mCons (mVar 7) (mCons (mVar 8) mNil))))) (mSeq (mFor (iE (mVar 3)) (gN 10) (mSeq (mSet 11 (mLc (iE (mCall [] fm__law_beside (mCons (mVar 4) (mCons (mVar 10) mNil)))) [8, 9] (gT 2 (gsCons (gN 8) (gsCons (gN 9) gsNil))) (mB (mOp2 eqD (mGetT (mVar 5) (mTup (mCons (mVar 10) (mCons (mVar 8) mNil))) (mOp2 subD (mC (.int 1)) (mGetT (mVar 5) (mTup (mCons (mVar 8) (mCons (mVar 10) mNil))) (mC (.int 0))))) (mC (.int 1)))) (mTup (mCons (mVar 8) (mCons (mVar 9) mNil))))) (mSeq (mSet 12 (mC (.int 0))) (mSeq (mSet 13 (mOp1 listD (mVar 11))) (mSeq (mFor (iR1 (mCons (mOp1 lenD (mVar 11)) mNil)) (gN 14) (mSeq (mAsg (mMeth fPopAt (mVar 13) (mCons (mCall [0] fm__law_take (mCons (mVar 0) (mCons (mOp1 lenD (mVar 13)) mNil))) mNil)) (gT 2 (gsCons (gN 15) (gsCons (gN 9) gsNil)))) (mSet 12 (mOp2 addD (mVar 12) (mOp2 mulD (mVar 9) (mOp2 subD (mC (.int 1)) (mOp2 mulD (mC (.int 2)) (mOp2 modD (mVar 14) (mC (.int 2)))))))))) (mDrop (mMeth fAppend (mVar 6) (mCons (mTup (mCons (mVar 10) (mCons (mOp2 subD (mC (.int 1)) (mOp2 modD (mOp1 lenD (mVar 11)) (mC (.int 2)))) (mCons (mCall [] fm__law_round (mCons (mVar 2) (mCons (mVar 12) mNil))) mNil)))) mNil)))))))) (mRet (mTup (mCons (mVar 2) (mCons (mOp1 tupleD (mOp1 sortedD (mVar 6))) (mCons (mOp1 tupleD (mVar 4)) mNil)))))))))
noncomputable def fm__law_homely : FM := runF 2 16 [0] m__law_homely
theorem body__law_homely {P : Program} {w : World} {K : PySem.W.Frag} {mg : Str → Option Value} {base : Heap} (hB : BiOk mg) (D__law_take : Def P w K mg base "_law_take" s__law_take 1 ["_law_box_here", "_law_amount"] fm__law_take) (D__law_callings : Def P w K mg base "_law_callings" s__law_callings 2 ["_law_box_here", "_law_amount"] fm__law_callings) (D__law_links : Def P w K mg base "_law_links" s__law_links 2 ["_law_box_here", "_law_size", "_law_callings_here", "_law_often"] fm__law_links) (D__law_beside : Def P w K mg base "_law_beside" s__law_beside 1 ["_law_links_here", "_law_who"] fm__law_beside) (D__law_round : Def P w K mg base "_law_round" s__law_round 1 ["_law_size", "_law_amount"] fm__law_round) (f : Addr) (cdv : Value) (A : Around) (outer : List PySem.Env) (s : Shared) (H : Hp) (E : XK) (hr : Room 2 (A.deeper (envOfC "_law_homely" (defScope s__law_homely) s.heap.objs.size f cdv))) (hg0 : A.guards = some []) :
    DSs (cxN P w K mg base N__law_homely "_law_homely" s__law_homely f cdv A outer s H E) [0] (defBody s__law_homely) m__law_homely := by
  have hgd : (cxN P w K mg base N__law_homely "_law_homely" s__law_homely f cdv A outer s H E).A.guards = some [] := hg0
  have hb_list := hB "list" (by decide)
  have hb_len := hB "len" (by decide)
  have hb_range := hB "range" (by decide)
  have hb_tuple := hB "tuple" (by decide)
  have hb_sorted := hB "sorted" (by decide)
  obtain ⟨hu70, hu65, hu64, hu1⟩ : (cxN P w K mg base N__law_homely "_law_homely" s__law_homely f cdv A outer s H E).A.units + 70 < cLine ∧ (cxN P w K mg base N__law_homely "_law_homely" s__law_homely f cdv A outer s H E).A.units + 65 < cLine ∧ (cxN P w K mg base N__law_homely "_law_homely" s__law_homely f cdv A outer s H E).A.units + 64 < cLine ∧ (cxN P w K mg base N__law_homely "_law_homely" s__law_homely f cdv A outer s H E).A.units + 1 < cLine := units_of hr
  exact (dss_cons (by first | exact ds_par (i := 2) (j := 3) rfl sc__law_homely.nd (de_sub hu1 (de_lst (da_cons de_int (da_cons de_int (da_cons de_int (da_cons de_int (da_cons de_int (da_cons de_int (da_cons de_int da_nil))))))) (len_cons (len_cons (len_cons (len_cons (len_cons (len_cons (len_cons len_nil)))))))) (de_callD (B := [0]) D__law_take (hr.mono (by decide)) hgd rfl (da_cons (dv 0) (da_cons de_int da_nil)) (len_cons (len_cons len_nil)))) (de_callD (B := [0]) D__law_callings (hr.mono (by decide)) hgd rfl (da_cons (dv 0) (da_cons (dv 1) da_nil)) (len_cons (len_cons len_nil))) rfl rfl (by rfl) | exact ds_parT (i := 2) (j := 3) rfl sc__law_homely.nd (de_sub hu1 (de_lst (da_cons de_int (da_cons de_int (da_cons de_int (da_cons de_int (da_cons de_int (da_cons de_int (da_cons de_int da_nil))))))) (len_cons (len_cons (len_cons (len_cons (len_cons (len_cons (len_cons len_nil)))))))) (de_callD (B := [0]) D__law_take (hr.mono (by decide)) hgd rfl (da_cons (dv 0) (da_cons de_int da_nil)) (len_cons (len_cons len_nil)))) (de_callD (B := [0]) D__law_callings (hr.mono (by decide)) hgd rfl (da_cons (dv 0) (da_cons (dv 1) da_nil)) (len_cons (len_cons len_nil))))
    (dss_cons (by first | exact ds_par3 (i := 4) (j := 5) (l := 6) rfl sc__law_homely.nd (de_callD (B := [0]) D__law_links (hr.mono (by decide)) hgd rfl (da_cons (dv 0) (da_cons (dv 2) (da_cons (dv 3) (da_cons de_int da_nil)))) (len_cons (len_cons (len_cons (len_cons len_nil))))) de_dict0T (de_lst da_nil len_nil) rfl rfl rfl (by rfl) | exact ds_par3T (i := 4) (j := 5) (l := 6) rfl sc__law_homely.nd (de_callD (B := [0]) D__law_links (hr.mono (by decide)) hgd rfl (da_cons (dv 0) (da_cons (dv 2) (da_cons (dv 3) (da_cons de_int da_nil)))) (len_cons (len_cons (len_cons (len_cons len_nil))))) de_dict0T (de_lst da_nil len_nil))
    (dss_cons (ds_for rfl PassesOwn.never (di_e (dv 4)) (dg_tup rfl (dgs_cons (dg_name (i := 7) sc__law_homely.nd) (dgs_cons (dg_name (i := 8) sc__law_homely.nd) (dgs_cons (dg_name (i := 9) sc__law_homely.nd) dgs_nil)))) (dss_one (ds_setT hu1 (de_callD (B := [0]) D__law_take (hr.mono (by decide)) hgd rfl (da_cons (dv 0) (da_cons de_int da_nil)) (len_cons (len_cons len_nil))) (dv 5) (de_tup (da_cons (dv 7) (da_cons (dv 8) da_nil)) (len_cons (len_cons len_nil))))))
    (dss_cons (ds_for rfl PassesOwn.never (di_e (dv 3)) (dg_name (i := 10) sc__law_homely.nd) (dss_cons (by first | exact ds_setLc (i := 11) rfl sc__law_homely.nd (blkOk_by (own := [("_law_b", 8), ("_law_glass", 9)]) (N := N__law_homely) (sc := defScope s__law_homely) (by first | decide +kernel | rfl)) (vs := [8, 9]) rfl (sw_true rfl rfl rfl (by decide +kernel)) (di_e (de_callD (B := []) D__law_beside (hr.mono (by decide)) hgd rfl (da_cons (dv 4) (da_cons (dv 10) da_nil)) (len_cons (len_cons len_nil)))) (fun _ _ => (dg_tup rfl (dgs_cons (dg_name (i := 8) sc__law_homely.nd (hB := not_onlyB (by decide))) (dgs_cons (dg_name (i := 9) sc__law_homely.nd (hB := not_onlyB (by decide))) dgs_nil)))) (fun _ => (dts_one (dt_cmp (op_eqD hu64) b2_eq (de_getT hu1 (dv 5) (de_tup (da_cons (dv 10) (da_cons (dv 8) da_nil)) (len_cons (len_cons len_nil))) (de_op op_sub b2_sub de_int (de_getT hu1 (dv 5) (de_tup (da_cons (dv 8) (da_cons (dv 10) da_nil)) (len_cons (len_cons len_nil))) de_int))) de_int))) (fun _ => (de_tup (da_cons (dv 8) (da_cons (dv 9) da_nil)) (len_cons (len_cons len_nil)))) | exact ds_set (i := 11) sc__law_homely.nd (de_lc rfl sc__law_homely.nd (blkOk_by (own := [("_law_b", 8), ("_law_glass", 9)]) (N := N__law_homely) (sc := defScope s__law_homely) (by first | decide +kernel | rfl)) (vs := [8, 9]) rfl (di_e (de_callD (B := []) D__law_beside (hr.mono (by decide)) hgd rfl (da_cons (dv 4) (da_cons (dv 10) da_nil)) (len_cons (len_cons len_nil)))) (fun _ _ => (dg_tup rfl (dgs_cons (dg_name (i := 8) sc__law_homely.nd (hB := not_onlyB (by decide))) (dgs_cons (dg_name (i := 9) sc__law_homely.nd (hB := not_onlyB (by decide))) dgs_nil)))) (fun _ => (dts_one (dt_cmp (op_eqD hu64) b2_eq (de_getT hu1 (dv 5) (de_tup (da_cons (dv 10) (da_cons (dv 8) da_nil)) (len_cons (len_cons len_nil))) (de_op op_sub b2_sub de_int (de_getT hu1 (dv 5) (de_tup (da_cons (dv 8) (da_cons (dv 10) da_nil)) (len_cons (len_cons len_nil))) de_int))) de_int))) (fun _ => (de_tup (da_cons (dv 8) (da_cons (dv 9) da_nil)) (len_cons (len_cons len_nil))))))
    (dss_cons (ds_set (i := 12) sc__law_homely.nd de_int)
    (dss_cons (ds_set (i := 13) sc__law_homely.nd (de_listC rfl hb_list (dv 11)))
    (dss_cons (ds_for rfl PassesOwn.never (di_r1 rfl hb_range (da_cons (de_len rfl hb_len (dv 11)) da_nil)) (dg_name (i := 14) sc__law_homely.nd) (dss_cons (ds_asg (de_popAt (dv 13) (de_callD (B := [0]) D__law_take (hr.mono (by decide)) hgd rfl (da_cons (dv 0) (da_cons (de_len rfl hb_len (dv 13)) da_nil)) (len_cons (len_cons len_nil)))) (dg_tup rfl (dgs_cons (dg_name (i := 15) sc__law_homely.nd) (dgs_cons (dg_name (i := 9) sc__law_homely.nd) dgs_nil))))
    (dss_one (ds_set (i := 12) sc__law_homely.nd (de_op op_addD b2_add (dv 12) (de_op op_mulD b2_mul (dv 9) (de_op op_sub b2_sub de_int (de_op op_mulD b2_mul de_int (de_op op_modN b2_mod (dv 14) de_int)))))))))
    (dss_one (ds_expr (de_append (dv 6) (de_tup (da_cons (dv 10) (da_cons (de_op op_sub b2_sub de_int (de_op op_modN b2_mod (de_len rfl hb_len (dv 11)) de_int)) (da_cons (de_callD (B := []) D__law_round (hr.mono (by decide)) hgd rfl (da_cons (dv 2) (da_cons (dv 12) da_nil)) (len_cons (len_cons len_nil))) da_nil))) (len_cons (len_cons (len_cons len_nil))))))))))))
    (dss_one (ds_ret (de_tup (da_cons (dv 2) (da_cons (de_tupC rfl hb_tuple (de_sorted hu70 rfl hb_sorted (dv 6))) (da_cons (de_tupC rfl hb_tuple (dv 4)) da_nil))) (len_cons (len_cons (len_cons len_nil))))))))))
theorem D__law_homely {P : Program} {w : World} {K : PySem.W.Frag} {mg : Str → Option Value} {base : Heap} (R : Raw K mg "_law_homely" s__law_homely ["_law_box_here", "_law_amount"]) (hB : BiOk mg) (D__law_take : Def P w K mg base "_law_take" s__law_take 1 ["_law_box_here", "_law_amount"] fm__law_take) (D__law_callings : Def P w K mg base "_law_callings" s__law_callings 2 ["_law_box_here", "_law_amount"] fm__law_callings) (D__law_links : Def P w K mg base "_law_links" s__law_links 2 ["_law_box_here", "_law_size", "_law_callings_here", "_law_often"] fm__law_links) (D__law_beside : Def P w K mg base "_law_beside" s__law_beside 1 ["_law_links_here", "_law_who"] fm__law_beside) (D__law_round : Def P w K mg base "_law_round" s__law_round 1 ["_law_size", "_law_amount"] fm__law_round) : Def P w K mg base "_law_homely" s__law_homely 3 ["_law_box_here", "_law_amount"] fm__law_homely := def_of R sc__law_homely (body__law_homely hB D__law_take D__law_callings D__law_links D__law_beside D__law_round) fun _ _ _ h => h
abbrev s__law_any_yard : Stmt := topS 35
abbrev N__law_any_yard : List Str := ["_law_box_here", "_law_amount", "_law_size", "_law_callings_here", "_law_spots", "_law_who"]
theorem sc__law_any_yard : FnScope N__law_any_yard ["_law_box_here", "_law_amount"] (defScope s__law_any_yard) := ⟨rfl, rfl, rfl, by decide +kernel, rfl, by decide +kernel, by decide +kernel⟩
noncomputable def m__law_any_yard : MS := (mSeq (mPar2 2 3 (mSub (mLst (mCons (mC (.int 0)) (mCons (mC (.int 1)) (mCons (mC (.int 2)) (mCons (mC (.int 3)) (mCons (mC (.int 5)) (mCons (mC (.int 12)) (mCons (mC (.int 60)) mNil)))))))) (mCall [0] fm__law_take (mCons (mVar 0) (mCons (mC (.int 7)) mNil)))) (mCall [0] fm__law_callings (mCons (mVar 0) (mCons (mVar 1) mNil)))) (mSeq (mSet 4 (mLc (iE (mVar 3)) [5] (gN 5) mYes (mTup (mCons (mVar 5) (mCons (mCall [0] fm__law_take (mCons (mVar 0) (mCons (mC (.int 2)) mNil))) (mCons (mCall [] fm__law_round (mCons (mVar 2) (mCons (mOp2 subD (mCall [0] fm__law_take (mCons (mVar 0) (mCons (mC (.int 60)) mNil))) (mC (.int 20))) mNil))) mNil)))))) (mRet (mTup (mCons (mVar 2) (mCons (mOp1 tupleD (mOp1 sortedD (mVar 4))) (mCons (mOp1 tupleD (mCall [0] fm__law_links (mCons (mVar 0) (mCons (mVar 2) (mCons (mVar 3) (mCons (mC (.int 8)) mNil)))))) mNil)))))))
noncomputable def fm__law_any_yard : FM := runF 2 6 [0] m__law_any_yard
theorem body__law_any_yard {P : Program} {w : World} {K : PySem.W.Frag} {mg : Str → Option Value} {base : Heap} (hB : BiOk mg) (D__law_take : Def P w K mg base "_law_take" s__law_take 1 ["_law_box_here", "_law_amount"] fm__law_take) (D__law_callings : Def P w K mg base "_law_callings" s__law_callings 2 ["_law_box_here", "_law_amount"] fm__law_callings) (D__law_round : Def P w K mg base "_law_round" s__law_round 1 ["_law_size", "_law_amount"] fm__law_round) (D__law_links : Def P w K mg base "_law_links" s__law_links 2 ["_law_box_here", "_law_size", "_law_callings_here", "_law_often"] fm__law_links) (f : Addr) (cdv : Value) (A : Around) (outer : List PySem.Env) (s : Shared) (H : Hp) (E : XK) (hr : Room 2 (A.deeper (envOfC "_law_any_yard" (defScope s__law_any_yard) s.heap.objs.size f cdv))) (hg0 : A.guards = some []) :
    DSs (cxN P w K mg base N__law_any_yard "_law_any_yard" s__law_any_yard f cdv A outer s H E) [0] (defBody s__law_any_yard) m__law_any_yard := by
  have hgd : (cxN P w K mg base N__law_any_yard "_law_any_yard" s__law_any_yard f cdv A outer s H E).A.guards = some [] := hg0
  have hb_tuple := hB "tuple" (by decide)
  have hb_sorted := hB "sorted" (by decide)
  obtain ⟨hu70, hu65, hu64, hu1⟩ : (cxN P w K mg base N__law_any_yard "_law_any_yard" s__law_any_yard f cdv A outer s H E).A.units + 70 < cLine ∧ (cxN P w K mg base N__law_any_yard "_law_any_yard" s__law_any_yard f cdv A outer s H E).A.units + 65 < cLine ∧ (cxN P w K mg base N__law_any_yard "_law_any_yard" s__law_any_yard f cdv A outer s H E).A.units + 64 < cLine ∧ (cxN P w K mg base N__law_any_yard "_law_any_yard" s__law_any_yard f cdv A outer s H E).A.units + 1 < cLine := units_of hr
  exact (dss_cons (by first | exact ds_par (i := 2) (j := 3) rfl sc__law_any_yard.nd (de_sub hu1 (de_lst (da_cons de_int (da_cons de_int (da_cons de_int (da_cons de_int (da_cons de_int (da_cons de_int (da_cons de_int da_nil))))))) (len_cons (len_cons (len_cons (len_cons (len_cons (len_cons (len_cons len_nil)))))))) (de_callD (B := [0]) D__law_take (hr.mono (by decide)) hgd rfl (da_cons (dv 0) (da_cons de_int da_nil)) (len_cons (len_cons len_nil)))) (de_callD (B := [0]) D__law_callings (hr.mono (by decide)) hgd rfl (da_cons (dv 0) (da_cons (dv 1) da_nil)) (len_cons (len_cons len_nil))) rfl rfl (by rfl) | exact ds_parT (i := 2) (j := 3) rfl sc__law_any_yard.nd (de_sub hu1 (de_lst (da_cons de_int (da_cons de_int (da_cons de_int (da_cons de_int (da_cons de_int (da_cons de_int (da_cons de_int da_nil))))))) (len_cons (len_cons (len_cons (len_cons (len_cons (len_cons (len_cons len_nil)))))))) (de_callD (B := [0]) D__law_take (hr.mono (by decide)) hgd rfl (da_cons (dv 0) (da_cons de_int da_nil)) (len_cons (len_cons len_nil)))) (de_callD (B := [0]) D__law_callings (hr.mono (by decide)) hgd rfl (da_cons (dv 0) (da_cons (dv 1) da_nil)) (len_cons (len_cons len_nil))))
    (dss_cons (by first | exact ds_setLc (i := 4) rfl sc__law_any_yard.nd (blkOk_by (own := [("_law_who", 5)]) (N := N__law_any_yard) (sc := defScope s__law_any_yard) (by first | decide +kernel | rfl)) (vs := [5]) rfl (sw_true rfl rfl rfl (by decide +kernel)) (di_e (dv 3)) (fun _ _ => (dg_name (i := 5) sc__law_any_yard.nd (hB := not_onlyB (by decide)))) (fun _ => dts_nil) (fun _ => (de_tup (da_cons (dv 5) (da_cons (de_callD (B := [0]) D__law_take (hr.mono (by decide)) hgd rfl (da_cons (dv 0) (da_cons de_int da_nil)) (len_cons (len_cons len_nil))) (da_cons (de_callD (B := []) D__law_round (hr.mono (by decide)) hgd rfl (da_cons (dv 2) (da_cons (de_op op_sub b2_sub (de_callD (B := [0]) D__law_take (hr.mono (by decide)) hgd rfl (da_cons (dv 0) (da_cons de_int da_nil)) (len_cons (len_cons len_nil))) de_int) da_nil)) (len_cons (len_cons len_nil))) da_nil))) (len_cons (len_cons (len_cons len_nil))))) | exact ds_set (i := 4) sc__law_any_yard.nd (de_lc rfl sc__law_any_yard.nd (blkOk_by (own := [("_law_who", 5)]) (N := N__law_any_yard) (sc := defScope s__law_any_yard) (by first | decide +kernel | rfl)) (vs := [5]) rfl (di_e (dv 3)) (fun _ _ => (dg_name (i := 5) sc__law_any_yard.nd (hB := not_onlyB (by decide)))) (fun _ => dts_nil) (fun _ => (de_tup (da_cons (dv 5) (da_cons (de_callD (B := [0]) D__law_take (hr.mono (by decide)) hgd rfl (da_cons (dv 0) (da_cons de_int da_nil)) (len_cons (len_cons len_nil))) (da_cons (de_callD (B := []) D__law_round (hr.mono (by decide)) hgd rfl (da_cons (dv 2) (da_cons (de_op op_sub b2_sub (de_callD (B := [0]) D__law_take (hr.mono (by decide)) hgd rfl (da_cons (dv 0) (da_cons de_int da_nil)) (len_cons (len_cons len_nil))) de_int) da_nil)) (len_cons (len_cons len_nil))) da_nil))) (len_cons (len_cons (len_cons len_nil)))))))
    (dss_one (ds_ret (de_tup (da_cons (dv 2) (da_cons (de_tupC rfl hb_tuple (de_sorted hu70 rfl hb_sorted (dv 4))) (da_cons (de_tupC rfl hb_tuple (de_callD (B := [0]) D__law_links (hr.mono (by decide)) hgd rfl (da_cons (dv 0) (da_cons (dv 2) (da_cons (dv 3) (da_cons de_int da_nil)))) (len_cons (len_cons (len_cons (len_cons len_nil)))))) da_nil))) (len_cons (len_cons (len_cons len_nil))))))))
theorem D__law_any_yard {P : Program} {w : World} {K : PySem.W.Frag} {mg : Str → Option Value} {base : Heap} (R : Raw K mg "_law_any_yard" s__law_any_yard ["_law_box_here", "_law_amount"]) (hB : BiOk mg) (D__law_take : Def P w K mg base "_law_take" s__law_take 1 ["_law_box_here", "_law_amount"] fm__law_take) (D__law_callings : Def P w K mg base "_law_callings" s__law_callings 2 ["_law_box_here", "_law_amount"] fm__law_callings) (D__law_round : Def P w K mg base "_law_round" s__law_round 1 ["_law_size", "_law_amount"] fm__law_round) (D__law_links : Def P w K mg base "_law_links" s__law_links 2 ["_law_box_here", "_law_size", "_law_callings_here", "_law_often"] fm__law_links) : Def P w K mg base "_law_any_yard" s__law_any_yard 3 ["_law_box_here", "_law_amount"] fm__law_any_yard := def_of R sc__law_any_yard (body__law_any_yard hB D__law_take D__law_callings D__law_round D__law_links) fun _ _ _ h => h
abbrev s__law_after : Stmt := topS 36
abbrev N__law_after : List Str := ["_law_yard", "_law_who", "_law_size", "_law_spots", "_law_links_here", "_law_close", "_law_found", "_law_whom", "_law_face", "_law_count", "_law_link"]
theorem sc__law_after : FnScope N__law_after ["_law_yard", "_law_who"] (defScope s__law_after) := ⟨rfl, rfl, rfl, by decide +kernel, rfl, by decide +kernel, by decide +kernel⟩
noncomputable def m__law_after : MS := (mSeq (mAsg (mVar 0) (gT 3 (gsCons (gN 2) (gsCons (gN 3) (gsCons (gN 4) gsNil))))) (mSeq (mPar2 5 6 (mOp1 dictD (mCall [] fm__law_beside (mCons (mVar 4) (mCons (mVar 1) mNil)))) (mLst mNil)) (mSeq (mFor (iE (mVar 3)) (gT 3 (gsCons (gN 7) (gsCons (gN 8) (gsCons (gN 9) gsNil)))) (mSeq (mIfS (mB (mIn false (mVar 7) (mVar 5))) (mPar2 8 9 (mOp2 subD (mC (.int 1)) (mVar 8)) (mCall [] fm__law_round (mCons (mVar 2) (mCons (mOp2 subD (mSub (mVar 5) (mVar 7)) (mVar 9)) mNil)))) mSkip) (mSet 6 (mOp2 addD (mVar 6) (mOp2 mulD (mLst (mCons (mTup (mCons (mVar 7) (mCons (mVar 8) (mCons (mVar 9) mNil)))) mNil)) (mOp1 intD (mOp2 neD (mVar 7) (mVar 1)))))))) (mRet (mTup (mCons (mVar 2) (mCons (mOp1 tupleD (mVar 6)) (mCons (mOp1 tupleD (mLc (iE (mVar 4)) [10] (gN 10) (mB (mIn true (mVar 1) (mSl (mVar 10) oNone (oSome (mC (.int 2)))))) (mVar 10))) mNil))))))))
noncomputable def fm__law_after : FM := runF 2 11 [] m__law_after
theorem body__law_after {P : Program} {w : World} {K : PySem.W.Frag} {mg : Str → Option Value} {base : Heap} (hB : BiOk mg) (D__law_beside : Def P w K mg base "_law_beside" s__law_beside 1 ["_law_links_here", "_law_who"] fm__law_beside) (D__law_round : Def P w K mg base "_law_round" s__law_round 1 ["_law_size", "_law_amount"] fm__law_round) (f : Addr) (cdv : Value) (A : Around) (outer : List PySem.Env) (s : Shared) (H : Hp) (E : XK) (hr : Room 1 (A.deeper (envOfC "_law_after" (defScope s__law_after) s.heap.objs.size f cdv))) (hg0 : A.guards = some []) :
    DSs (cxN P w K mg base N__law_after "_law_after" s__law_after f cdv A outer s H E) [] (defBody s__law_after) m__law_after := by
  have hgd : (cxN P w K mg base N__law_after "_law_after" s__law_after f cdv A outer s H E).A.guards = some [] := hg0
  have hb_dict := hB "dict" (by decide)
  have hb_int := hB "int" (by decide)
  have hb_tuple := hB "tuple" (by decide)
  obtain ⟨hu70, hu65, hu64, hu1⟩ : (cxN P w K mg base N__law_after "_law_after" s__law_after f cdv A outer s H E).A.units + 70 < cLine ∧ (cxN P w K mg base N__law_after "_law_after" s__law_after f cdv A outer s H E).A.units + 65 < cLine ∧ (cxN P w K mg base N__law_after "_law_after" s__law_after f cdv A outer s H E).A.units + 64 < cLine ∧ (cxN P w K mg base N__law_after "_law_after" s__law_after f cdv A outer s H E).A.units + 1 < cLine := units_of hr
  exact (dss_cons (ds_asg (dv 0) (dg_tup rfl (dgs_cons (dg_name (i := 2) sc__law_after.nd) (dgs_cons (dg_name (i := 3) sc__law_after.nd) (dgs_cons (dg_name (i := 4) sc__law_after.nd) dgs_nil)))))
    (dss_cons (by first | exact ds_par (i := 5) (j := 6) rfl sc__law_after.nd (de_dictC rfl rfl hb_dict (de_callD (B := []) D__law_beside (hr.mono (by decide)) hgd rfl (da_cons (dv 4) (da_cons (dv 1) da_nil)) (len_cons (len_cons len_nil)))) (de_lst da_nil len_nil) rfl rfl (by rfl) | exact ds_parT (i := 5) (j := 6) rfl sc__law_after.nd (de_dictC rfl rfl hb_dict (de_callD (B := []) D__law_beside (hr.mono (by decide)) hgd rfl (da_cons (dv 4) (da_cons (dv 1) da_nil)) (len_cons (len_cons len_nil)))) (de_lst da_nil len_nil))
    (dss_cons (ds_for rfl PassesOwn.never (di_e (dv 3)) (dg_tup rfl (dgs_cons (dg_name (i := 7) sc__law_after.nd) (dgs_cons (dg_name (i := 8) sc__law_after.nd) (dgs_cons (dg_name (i := 9) sc__law_after.nd) dgs_nil)))) (dss_cons (ds_if (dt_in hu65 (dv 7) (dv 5)) (dss_one (by first | exact ds_par (i := 8) (j := 9) rfl sc__law_after.nd (de_op op_sub b2_sub de_int (dv 8)) (de_callD (B := []) D__law_round (hr.mono (by decide)) hgd rfl (da_cons (dv 2) (da_cons (de_op op_sub b2_sub (de_sub hu1 (dv 5) (dv 7)) (dv 9)) da_nil)) (len_cons (len_cons len_nil))) rfl rfl (by rfl) | exact ds_parT (i := 8) (j := 9) rfl sc__law_after.nd (de_op op_sub b2_sub de_int (dv 8)) (de_callD (B := []) D__law_round (hr.mono (by decide)) hgd rfl (da_cons (dv 2) (da_cons (de_op op_sub b2_sub (de_sub hu1 (dv 5) (dv 7)) (dv 9)) da_nil)) (len_cons (len_cons len_nil))))) dss_nil)
    (dss_one (ds_set (i := 6) sc__law_after.nd (de_op op_addD b2_add (dv 6) (de_op op_mulD b2_mul (de_lst (da_cons (de_tup (da_cons (dv 7) (da_cons (dv 8) (da_cons (dv 9) da_nil))) (len_cons (len_cons (len_cons len_nil)))) da_nil) (len_cons len_nil)) (de_intC rfl hb_int (de_cmp (op_neD hu64) b2_ne (dv 7) (dv 1)))))))))
    (dss_one (ds_ret (de_tup (da_cons (dv 2) (da_cons (de_tupC rfl hb_tuple (dv 6)) (da_cons (de_tupC rfl hb_tuple (de_lc rfl sc__law_after.nd (blkOk_by (own := [("_law_link", 10)]) (N := N__law_after) (sc := defScope s__law_after) (by first | decide +kernel | rfl)) (vs := [10]) rfl (di_e (dv 4)) (fun _ _ => (dg_name (i := 10) sc__law_after.nd (hB := not_onlyB (by decide)))) (fun _ => (dts_one (dt_notIn hu65 (dv 1) (de_sl (dv 10) do_none (do_some de_int))))) (fun _ => (dv 10)))) da_nil))) (len_cons (len_cons (len_cons len_nil)))))))))
theorem D__law_after {P : Program} {w : World} {K : PySem.W.Frag} {mg : Str → Option Value} {base : Heap} (R : Raw K mg "_law_after" s__law_after ["_law_yard", "_law_who"]) (hB : BiOk mg) (D__law_beside : Def P w K mg base "_law_beside" s__law_beside 1 ["_law_links_here", "_law_who"] fm__law_beside) (D__law_round : Def P w K mg base "_law_round" s__law_round 1 ["_law_size", "_law_amount"] fm__law_round) : Def P w K mg base "_law_after" s__law_after 2 ["_law_yard", "_law_who"] fm__law_after := def_of R sc__law_after (body__law_after hB D__law_beside D__law_round) fun _ _ _ h => h
abbrev s__law_free : Stmt := topS 37
abbrev N__law_free : List Str := ["_law_yard", "_law_who", "_law_face", "_law_count"]
theorem sc__law_free : FnScope N__law_free ["_law_yard"] (defScope s__law_free) := ⟨rfl, rfl, rfl, by decide +kernel, rfl, by decide +kernel, by decide +kernel⟩
noncomputable def m__law_free : MS := (mRet (mLc (iE (mSub (mVar 0) (mC (.int 1)))) [1, 2, 3] (gT 3 (gsCons (gN 1) (gsCons (gN 2) (gsCons (gN 3) gsNil)))) (mAnd (mB (mOp2 eqD (mVar 2) (mC (.int 1)))) (mB (mOp2 eqD (mVar 3) (mC (.int 0))))) (mVar 1)))
noncomputable def fm__law_free : FM := runF 1 4 [] m__law_free
theorem body__law_free {P : Program} {w : World} {K : PySem.W.Frag} {mg : Str → Option Value} {base : Heap} (hB : BiOk mg)  (f : Addr) (cdv : Value) (A : Around) (outer : List PySem.Env) (s : Shared) (H : Hp) (E : XK) (hr : Room 0 (A.deeper (envOfC "_law_free" (defScope s__law_free) s.heap.objs.size f cdv))) (hg0 : A.guards = some []) :
    DSs (cxN P w K mg base N__law_free "_law_free" s__law_free f cdv A outer s H E) [] (defBody s__law_free) m__law_free := by
  have hgd : (cxN P w K mg base N__law_free "_law_free" s__law_free f cdv A outer s H E).A.guards = some [] := hg0
  obtain ⟨hu70, hu65, hu64, hu1⟩ : (cxN P w K mg base N__law_free "_law_free" s__law_free f cdv A outer s H E).A.units + 70 < cLine ∧ (cxN P w K mg base N__law_free "_law_free" s__law_free f cdv A outer s H E).A.units + 65 < cLine ∧ (cxN P w K mg base N__law_free "_law_free" s__law_free f cdv A outer s H E).A.units + 64 < cLine ∧ (cxN P w K mg base N__law_free "_law_free" s__law_free f cdv A outer s H E).A.units + 1 < cLine := units_of hr
  exact (dss_one (ds_ret (de_lc rfl sc__law_free.nd (blkOk_by (own := [("_law_who", 1), ("_law_face", 2), ("_law_count", 3)]) (N := N__law_free) (sc := defScope s__law_free) (by first | decide +kernel | rfl)) (vs := [1, 2, 3]) rfl (di_e (de_sub hu1 (dv 0) de_int)) (fun _ _ => (dg_tup rfl (dgs_cons (dg_name (i := 1) sc__law_free.nd (hB := not_onlyB (by decide))) (dgs_cons (dg_name (i := 2) sc__law_free.nd (hB := not_onlyB (by decide))) (dgs_cons (dg_name (i := 3) sc__law_free.nd (hB := not_onlyB (by decide))) dgs_nil))))) (fun _ => (dts_one (dt_w (dw_and (dt_cmp (op_eqD hu64) b2_eq (dv 2) de_int) (dw_and1 (dt_cmp (op_eqD hu64) b2_eq (dv 3) de_int)))))) (fun _ => (dv 1)))))
theorem D__law_free {P : Program} {w : World} {K : PySem.W.Frag} {mg : Str → Option Value} {base : Heap} (R : Raw K mg "_law_free" s__law_free ["_law_yard"]) (hB : BiOk mg)  : Def P w K mg base "_law_free" s__law_free 1 ["_law_yard"] fm__law_free := def_of R sc__law_free (body__law_free hB ) fun _ _ _ h => h
abbrev s__law_ways : Stmt := topS 38
abbrev N__law_ways : List Str := ["_law_yard", "_law_found", "_law_left", "_law_path", "_law_here", "_law_who"]
theorem sc__law_ways : FnScope N__law_ways ["_law_yard"] (defScope s__law_ways) := ⟨rfl, rfl, rfl, by decide +kernel, rfl, by decide +kernel, by decide +kernel⟩
noncomputable def m__law_ways : MS := (mSeq (mPar2 1 2 (mLst mNil) (mLst (mCons (mTup (mCons (mTup mNil) (mCons (mVar 0) mNil))) mNil))) (mSeq (mWhile (mB (mOp2 neD (mVar 2) (mLst mNil))) (mSeq (mAsg (mMeth fPop (mVar 2) mNil) (gT 2 (gsCons (gN 3) (gsCons (gN 4) gsNil)))) (mSeq (mIfS (mB (mOp2 eqD (mSub (mVar 4) (mC (.int 1))) (mTup mNil))) (mDrop (mMeth fAppend (mVar 1) (mCons (mVar 3) mNil))) mSkip) (mDrop (mMeth fExtend (mVar 2) (mCons (mLc (iE (mCall [] fm__law_free (mCons (mVar 4) mNil))) [5] (gN 5) mYes (mTup (mCons (mOp2 addD (mVar 3) (mTup (mCons (mVar 5) mNil))) (mCons (mCall [] fm__law_after (mCons (mVar 4) (mCons (mVar 5) mNil))) mNil)))) mNil)))))) (mRet (mOp1 sortedD (mVar 1)))))
noncomputable def fm__law_ways : FM := runF 1 6 [] m__law_ways
theorem body__law_ways {P : Program} {w : World} {K : PySem.W.Frag} {mg : Str → Option Value} {base : Heap} (hB : BiOk mg) (D__law_free : Def P w K mg base "_law_free" s__law_free 1 ["_law_yard"] fm__law_free) (D__law_after : Def P w K mg base "_law_after" s__law_after 2 ["_law_yard", "_law_who"] fm__law_after) (f : Addr) (cdv : Value) (A : Around) (outer : List PySem.Env) (s : Shared) (H : Hp) (E : XK) (hr : Room 2 (A.deeper (envOfC "_law_ways" (defScope s__law_ways) s.heap.objs.size f cdv))) (hg0 : A.guards = some []) :
    DSs (cxN P w K mg base N__law_ways "_law_ways" s__law_ways f cdv A outer s H E) [] (defBody s__law_ways) m__law_ways := by
  have hgd : (cxN P w K mg base N__law_ways "_law_ways" s__law_ways f cdv A outer s H E).A.guards = some [] := hg0
  have hb_sorted := hB "sorted" (by decide)
  obtain ⟨hu70, hu65, hu64, hu1⟩ : (cxN P w K mg base N__law_ways "_law_ways" s__law_ways f cdv A outer s H E).A.units + 70 < cLine ∧ (cxN P w K mg base N__law_ways "_law_ways" s__law_ways f cdv A outer s H E).A.units + 65 < cLine ∧ (cxN P w K mg base N__law_ways "_law_ways" s__law_ways f cdv A outer s H E).A.units + 64 < cLine ∧ (cxN P w K mg base N__law_ways "_law_ways" s__law_ways f cdv A outer s H E).A.units + 1 < cLine := units_of hr
  exact (dss_cons (by first | exact ds_par (i := 1) (j := 2) rfl sc__law_ways.nd (de_lst da_nil len_nil) (de_lst (da_cons (de_tup (da_cons (de_tup da_nil len_nil) (da_cons (dv 0) da_nil)) (len_cons (len_cons len_nil))) da_nil) (len_cons len_nil)) rfl rfl (by rfl) | exact ds_parT (i := 1) (j := 2) rfl sc__law_ways.nd (de_lst da_nil len_nil) (de_lst (da_cons (de_tup (da_cons (de_tup da_nil len_nil) (da_cons (dv 0) da_nil)) (len_cons (len_cons len_nil))) da_nil) (len_cons len_nil)))
    (dss_cons (ds_while PassesOwn.never (dt_cmp (op_neD hu64) b2_ne (dv 2) (de_lst da_nil len_nil)) (dss_cons (ds_asg (de_pop (dv 2)) (dg_tup rfl (dgs_cons (dg_name (i := 3) sc__law_ways.nd) (dgs_cons (dg_name (i := 4) sc__law_ways.nd) dgs_nil))))
    (dss_cons (ds_if (dt_cmp (op_eqD hu64) b2_eq (de_sub hu1 (dv 4) de_int) (de_tup da_nil len_nil)) (dss_one (ds_expr (de_append (dv 1) (dv 3)))) dss_nil)
    (dss_one (ds_expr (de_extend (dv 2) (de_lc rfl sc__law_ways.nd (blkOk_by (own := [("_law_who", 5)]) (N := N__law_ways) (sc := defScope s__law_ways) (by first | decide +kernel | rfl)) (vs := [5]) rfl (di_e (de_callD (B := []) D__law_free (hr.mono (by decide)) hgd rfl (da_cons (dv 4) da_nil) (len_cons len_nil))) (fun _ _ => (dg_name (i := 5) sc__law_ways.nd (hB := not_onlyB (by decide)))) (fun _ => dts_nil) (fun _ => (de_tup (da_cons (de_op op_addD b2_add (dv 3) (de_tup (da_cons (dv 5) da_nil) (len_cons len_nil))) (da_cons (de_callD (B := []) D__law_after (hr.mono (by decide)) hgd rfl (da_cons (dv 4) (da_cons (dv 5) da_nil)) (len_cons (len_cons len_nil))) da_nil)) (len_cons (len_cons len_nil)))))))))))
    (dss_one (ds_ret (de_sorted hu70 rfl hb_sorted (dv 1))))))
theorem D__law_ways {P : Program} {w : World} {K : PySem.W.Frag} {mg : Str → Option Value} {base : Heap} (R : Raw K mg "_law_ways" s__law_ways ["_law_yard"]) (hB : BiOk mg) (D__law_free : Def P w K mg base "_law_free" s__law_free 1 ["_law_yard"] fm__law_free) (D__law_after : Def P w K mg base "_law_after" s__law_after 2 ["_law_yard", "_law_who"] fm__law_after) : Def P w K mg base "_law_ways" s__law_ways 3 ["_law_yard"] fm__law_ways := def_of R sc__law_ways (body__law_ways hB D__law_free D__law_after) fun _ _ _ h => h
abbrev s__law_rows_right : Stmt := topS 39
abbrev N__law_rows_right : List Str := ["_law_yard", "_law_path", "_law_faces", "_law_at", "_law_who", "_law_ahead", "_law_left", "_law_severed", "_law_lights", "_law_own", "_law_face", "_law_count", "_law_whom", "_law_glass", "_law_link", "_law_here"]
theorem sc__law_rows_right : FnScope N__law_rows_right ["_law_yard", "_law_path"] (defScope s__law_rows_right) := ⟨rfl, rfl, rfl, by decide +kernel, rfl, by decide +kernel, by decide +kernel⟩
noncomputable def m__law_rows_right : MS := (mSeq (mSet 2 (mOp1 dictD (mLc (iE (mSub (mVar 0) (mC (.int 1)))) [4, 10, 11] (gT 3 (gsCons (gN 4) (gsCons (gN 10) (gsCons (gN 11) gsNil)))) mYes (mTup (mCons (mVar 4) (mCons (mVar 10) mNil)))))) (mSeq (mFor (iEnA (mVar 1)) (gT 2 (gsCons (gN 3) (gsCons (gN 4) gsNil))) (mSeq (mSet 5 (mOp1 lenD (mLc (iE (mCall [] fm__law_beside (mCons (mSub (mVar 0) (mC (.int 2))) (mCons (mVar 4) mNil)))) [12, 13] (gT 2 (gsCons (gN 12) (gsCons (gN 13) gsNil))) (mB (mIn false (mVar 12) (mSl (mVar 1) oNone (oSome (mVar 3))))) (mVar 12)))) (mIfS (mB (mOp2 neD (mOp2 modD (mOp2 addD (mSub (mVar 2) (mVar 4)) (mVar 5)) (mC (.int 2))) (mC (.int 1)))) (mRet (mC (.bool false))) mSkip))) (mSeq (mSet 6 (mCall [] fm_behind (mCons (mVar 0) (mCons (mOp1 listD (mVar 1)) mNil)))) (mSeq (mSet 7 (mOp1 lenD (mLc (iE (mSub (mVar 0) (mC (.int 2)))) [14] (gN 14) (mAnd (mB (mIn true (mVar 14) (mSub (mVar 6) (mC (.int 2))))) (mB (mOp2 neD (mIn false (mSub (mVar 14) (mC (.int 0))) (mVar 1)) (mIn false (mSub (mVar 14) (mC (.int 1))) (mVar 1))))) (mVar 14)))) (mSeq (mSet 8 (mLc (iE (mTup (mCons (mVar 0) (mCons (mVar 6) mNil)))) [15] (gN 15) mYes (mOp1 sumD (mLc (iE (mSub (mVar 15) (mC (.int 1)))) [4, 10, 11] (gT 3 (gsCons (gN 4) (gsCons (gN 10) (gsCons (gN 11) gsNil)))) mYes (mVar 10))))) (mSeq (mSet 9 (mOp1 sumD (mLc (iE (mVar 1)) [4] (gN 4) mYes (mSub (mVar 2) (mVar 4))))) (mRet (mOp2 eqD (mOp2 modD (mOp2 subD (mOp2 addD (mOp2 subD (mSub (mVar 8) (mC (.int 0))) (mVar 9)) (mVar 7)) (mSub (mVar 8) (mC (.int 1)))) (mC (.int 2))) (mC (.int 0))))))))))
noncomputable def fm__law_rows_right : FM := runF 2 16 [] m__law_rows_right
theorem body__law_rows_right {P : Program} {w : World} {K : PySem.W.Frag} {mg : Str → Option Value} {base : Heap} (hB : BiOk mg) (D__law_beside : Def P w K mg base "_law_beside" s__law_beside 1 ["_law_links_here", "_law_who"] fm__law_beside) (D_behind : Def P w K mg base "behind" s_behind 6 ["hall", "row"] fm_behind) (f : Addr) (cdv : Value) (A : Around) (outer : List PySem.Env) (s : Shared) (H : Hp) (E : XK) (hr : Room 6 (A.deeper (envOfC "_law_rows_right" (defScope s__law_rows_right) s.heap.objs.size f cdv))) (hg0 : A.guards = some []) :
    DSs (cxN P w K mg base N__law_rows_right "_law_rows_right" s__law_rows_right f cdv A outer s H E) [] (defBody s__law_rows_right) m__law_rows_right := by
  have hgd : (cxN P w K mg base N__law_rows_right "_law_rows_right" s__law_rows_right f cdv A outer s H E).A.guards = some [] := hg0
  have hb_dict := hB "dict" (by decide)
  have hb_enumerate := hB "enumerate" (by decide)
  have hb_len := hB "len" (by decide)
  have hb_list := hB "list" (by decide)
  have hb_sum := hB "sum" (by decide)
  obtain ⟨hu70, hu65, hu64, hu1⟩ : (cxN P w K mg base N__law_rows_right "_law_rows_right" s__law_rows_right f cdv A outer s H E).A.units + 70 < cLine ∧ (cxN P w K mg base N__law_rows_right "_law_rows_right" s__law_rows_right f cdv A outer s H E).A.units + 65 < cLine ∧ (cxN P w K mg base N__law_rows_right "_law_rows_right" s__law_rows_right f cdv A outer s H E).A.units + 64 < cLine ∧ (cxN P w K mg base N__law_rows_right "_law_rows_right" s__law_rows_right f cdv A outer s H E).A.units + 1 < cLine := units_of hr
  exact (dss_cons (ds_set (i := 2) sc__law_rows_right.nd (de_dictC rfl rfl hb_dict (de_lc rfl sc__law_rows_right.nd (blkOk_by (own := [("_law_who", 4), ("_law_face", 10), ("_law_count", 11)]) (N := N__law_rows_right) (sc := defScope s__law_rows_right) (by first | decide +kernel | rfl)) (vs := [4, 10, 11]) rfl (di_e (de_sub hu1 (dv 0) de_int)) (fun _ _ => (dg_tup rfl (dgs_cons (dg_name (i := 4) sc__law_rows_right.nd (hB := not_onlyB (by decide))) (dgs_cons (dg_name (i := 10) sc__law_rows_right.nd (hB := not_onlyB (by decide))) (dgs_cons (dg_name (i := 11) sc__law_rows_right.nd (hB := not_onlyB (by decide))) dgs_nil))))) (fun _ => dts_nil) (fun _ => (de_tup (da_cons (dv 4) (da_cons (dv 10) da_nil)) (len_cons (len_cons len_nil)))))))
    (dss_cons (ds_for rfl PassesOwn.never (di_enumA rfl hb_enumerate (dv 1)) (dg_tup rfl (dgs_cons (dg_name (i := 3) sc__law_rows_right.nd) (dgs_cons (dg_name (i := 4) sc__law_rows_right.nd) dgs_nil))) (dss_cons (ds_set (i := 5) sc__law_rows_right.nd (de_len rfl hb_len (de_lc rfl sc__law_rows_right.nd (blkOk_by (own := [("_law_whom", 12), ("_law_glass", 13)]) (N := N__law_rows_right) (sc := defScope s__law_rows_right) (by first | decide +kernel | rfl)) (vs := [12, 13]) rfl (di_e (de_callD (B := []) D__law_beside (hr.mono (by decide)) hgd rfl (da_cons (de_sub hu1 (dv 0) de_int) (da_cons (dv 4) da_nil)) (len_cons (len_cons len_nil)))) (fun _ _ => (dg_tup rfl (dgs_cons (dg_name (i := 12) sc__law_rows_right.nd (hB := not_onlyB (by decide))) (dgs_cons (dg_name (i := 13) sc__law_rows_right.nd (hB := not_onlyB (by decide))) dgs_nil)))) (fun _ => (dts_one (dt_in hu65 (dv 12) (de_sl (dv 1) do_none (do_some (dv 3)))))) (fun _ => (dv 12)))))
    (dss_one (ds_if (dt_cmp (op_neD hu64) b2_ne (de_op op_modN b2_mod (de_op op_addD b2_add (de_sub hu1 (dv 2) (dv 4)) (dv 5)) de_int) de_int) (dss_one (ds_ret de_bl)) dss_nil))))
    (dss_cons (ds_set (i := 6) sc__law_rows_right.nd (de_callD (B := []) D_behind (hr.mono (by decide)) hgd rfl (da_cons (dv 0) (da_cons (de_listC rfl hb_list (dv 1)) da_nil)) (len_cons (len_cons len_nil))))
    (dss_cons (ds_set (i := 7) sc__law_rows_right.nd (de_len rfl hb_len (de_lc rfl sc__law_rows_right.nd (blkOk_by (own := [("_law_link", 14)]) (N := N__law_rows_right) (sc := defScope s__law_rows_right) (by first | decide +kernel | rfl)) (vs := [14]) rfl (di_e (de_sub hu1 (dv 0) de_int)) (fun _ _ => (dg_name (i := 14) sc__law_rows_right.nd (hB := not_onlyB (by decide)))) (fun _ => (dts_one (dt_w (dw_and (dt_notIn hu65 (dv 14) (de_sub hu1 (dv 6) de_int)) (dw_and1 (dt_cmp (op_neD hu64) b2_ne (de_in hu65 (de_sub hu1 (dv 14) de_int) (dv 1)) (de_in hu65 (de_sub hu1 (dv 14) de_int) (dv 1)))))))) (fun _ => (dv 14)))))
    (dss_cons (by first | exact ds_setLc (i := 8) rfl sc__law_rows_right.nd (blkOk_by (own := [("_law_here", 15)]) (N := N__law_rows_right) (sc := defScope s__law_rows_right) (by first | decide +kernel | rfl)) (vs := [15]) rfl (sw_true rfl rfl rfl (by decide +kernel)) (di_e (de_tup (da_cons (dv 0) (da_cons (dv 6) da_nil)) (len_cons (len_cons len_nil)))) (fun _ _ => (dg_name (i := 15) sc__law_rows_right.nd (hB := not_onlyB (by decide)))) (fun _ => dts_nil) (fun _ => (de_sum rfl rfl hb_sum (de_lc rfl sc__law_rows_right.nd (blkOk_by (own := [("_law_who", 4), ("_law_face", 10), ("_law_count", 11)]) (by first | decide +kernel | rfl)) (vs := [4, 10, 11]) rfl (di_e (de_sub hu1 (dv 15) de_int)) (fun _ _ => (dg_tup rfl (dgs_cons (dg_name (i := 4) sc__law_rows_right.nd (hB := not_onlyB (by decide))) (dgs_cons (dg_name (i := 10) sc__law_rows_right.nd (hB := not_onlyB (by decide))) (dgs_cons (dg_name (i := 11) sc__law_rows_right.nd (hB := not_onlyB (by decide))) dgs_nil))))) (fun _ => dts_nil) (fun _ => (dv 10))))) | exact ds_set (i := 8) sc__law_rows_right.nd (de_lc rfl sc__law_rows_right.nd (blkOk_by (own := [("_law_here", 15)]) (N := N__law_rows_right) (sc := defScope s__law_rows_right) (by first | decide +kernel | rfl)) (vs := [15]) rfl (di_e (de_tup (da_cons (dv 0) (da_cons (dv 6) da_nil)) (len_cons (len_cons len_nil)))) (fun _ _ => (dg_name (i := 15) sc__law_rows_right.nd (hB := not_onlyB (by decide)))) (fun _ => dts_nil) (fun _ => (de_sum rfl rfl hb_sum (de_lc rfl sc__law_rows_right.nd (blkOk_by (own := [("_law_who", 4), ("_law_face", 10), ("_law_count", 11)]) (by first | decide +kernel | rfl)) (vs := [4, 10, 11]) rfl (di_e (de_sub hu1 (dv 15) de_int)) (fun _ _ => (dg_tup rfl (dgs_cons (dg_name (i := 4) sc__law_rows_right.nd (hB := not_onlyB (by decide))) (dgs_cons (dg_name (i := 10) sc__law_rows_right.nd (hB := not_onlyB (by decide))) (dgs_cons (dg_name (i := 11) sc__law_rows_right.nd (hB := not_onlyB (by decide))) dgs_nil))))) (fun _ => dts_nil) (fun _ => (dv 10)))))))
    (dss_cons (ds_set (i := 9) sc__law_rows_right.nd (de_sum rfl rfl hb_sum (de_lc rfl sc__law_rows_right.nd (blkOk_by (own := [("_law_who", 4)]) (N := N__law_rows_right) (sc := defScope s__law_rows_right) (by first | decide +kernel | rfl)) (vs := [4]) rfl (di_e (dv 1)) (fun _ _ => (dg_name (i := 4) sc__law_rows_right.nd (hB := not_onlyB (by decide)))) (fun _ => dts_nil) (fun _ => (de_sub hu1 (dv 2) (dv 4))))))
    (dss_one (ds_ret (de_cmp (op_eqD hu64) b2_eq (de_op op_modN b2_mod (de_op op_sub b2_sub (de_op op_addD b2_add (de_op op_sub b2_sub (de_sub hu1 (dv 8) de_int) (dv 9)) (dv 7)) (de_sub hu1 (dv 8) de_int)) de_int) de_int)))))))))
theorem D__law_rows_right {P : Program} {w : World} {K : PySem.W.Frag} {mg : Str → Option Value} {base : Heap} (R : Raw K mg "_law_rows_right" s__law_rows_right ["_law_yard", "_law_path"]) (hB : BiOk mg) (D__law_beside : Def P w K mg base "_law_beside" s__law_beside 1 ["_law_links_here", "_law_who"] fm__law_beside) (D_behind : Def P w K mg base "behind" s_behind 6 ["hall", "row"] fm_behind) : Def P w K mg base "_law_rows_right" s__law_rows_right 7 ["_law_yard", "_law_path"] fm__law_rows_right := def_of R sc__law_rows_right (body__law_rows_right hB D__law_beside D_behind) fun _ _ _ h => h
abbrev s__law_small_right : Stmt := topS 40
abbrev N__law_small_right : List Str := ["_law_box_here", "_law_yard", "_law_paths", "_law_odd", "_law_path", "_law_lights", "_law_heap", "_law_who", "_law_face", "_law_count"]
theorem sc__law_small_right : FnScope N__law_small_right ["_law_box_here", "_law_yard"] (defScope s__law_small_right) := ⟨rfl, rfl, rfl, by decide +kernel, rfl, by decide +kernel, by decide +kernel⟩
noncomputable def m__law_small_right : MS := (mSeq (mPar2 2 3 (mCall [] fm__law_ways (mCons (mVar 1) mNil)) (mLc (iE (mCall [] fm_pieces (mCons (mVar 1) mNil))) [6] (gN 6) mYes (mCall [] fm_is_odd (mCons (mVar 1) (mCons (mVar 6) mNil))))) (mSeq (mIfS (mAnd (mB (mIn false (mC (.bool false)) (mVar 3))) (mB (mOp2 neD (mVar 2) (mLst mNil)))) (mRet (mC (.bool false))) mSkip) (mSeq (mFor (iE (mOp2 addD (mSl (mVar 2) oNone (oSome (mC (.int 6)))) (mSl (mVar 2) (oSome (mOp1 negD (mC (.int 1)))) oNone))) (gN 4) (mIfS (mOr (mB (mOp2 isnD (mCall [] fm_is_way (mCons (mVar 1) (mCons (mOp1 listD (mVar 4)) mNil))) (mC (.bool true)))) (mOr (mNot (mTru (mCall [] fm__law_rows_right (mCons (mVar 1) (mCons (mVar 4) mNil))))) (mB (mIn false (mC (.bool false)) (mVar 3))))) (mRet (mC (.bool false))) mSkip)) (mSeq (mSet 5 (mLc (iE (mCall [] fm_pieces (mCons (mVar 1) mNil))) [6] (gN 6) mYes (mOp2 eqD (mOp2 modD (mOp1 sumD (mLc (iE (mSub (mVar 1) (mC (.int 1)))) [7, 8, 9] (gT 3 (gsCons (gN 7) (gsCons (gN 8) (gsCons (gN 9) gsNil)))) (mB (mIn false (mVar 7) (mVar 6))) (mVar 8))) (mC (.int 2))) (mC (.int 1))))) (mRet (mOp2 eqD (mVar 3) (mVar 5)))))))
noncomputable def fm__law_small_right : FM := runF 2 10 [0] m__law_small_right
theorem body__law_small_right {P : Program} {w : World} {K : PySem.W.Frag} {mg : Str → Option Value} {base : Heap} (hB : BiOk mg) (D__law_ways : Def P w K mg base "_law_ways" s__law_ways 3 ["_law_yard"] fm__law_ways) (D_pieces : Def P w K mg base "pieces" s_pieces 3 ["hall"] fm_pieces) (D_is_odd : Def P w K mg base "is_odd" s_is_odd 2 ["hall", "names"] fm_is_odd) (D_is_way : Def P w K mg base "is_way" s_is_way 6 ["hall", "thing"] fm_is_way) (D__law_rows_right : Def P w K mg base "_law_rows_right" s__law_rows_right 7 ["_law_yard", "_law_path"] fm__law_rows_right) (f : Addr) (cdv : Value) (A : Around) (outer : List PySem.Env) (s : Shared) (H : Hp) (E : XK) (hr : Room 7 (A.deeper (envOfC "_law_small_right" (defScope s__law_small_right) s.heap.objs.size f cdv))) (hg0 : A.guards = some []) :
    DSs (cxN P w K mg base N__law_small_right "_law_small_right" s__law_small_right f cdv A outer s H E) [0] (defBody s__law_small_right) m__law_small_right := by
  have hgd : (cxN P w K mg base N__law_small_right "_law_small_right" s__law_small_right f cdv A outer s H E).A.guards = some [] := hg0
  have hb_list := hB "list" (by decide)
  have hb_sum := hB "sum" (by decide)
  obtain ⟨hu70, hu65, hu64, hu1⟩ : (cxN P w K mg base N__law_small_right "_law_small_right" s__law_small_right f cdv A outer s H E).A.units + 70 < cLine ∧ (cxN P w K mg base N__law_small_right "_law_small_right" s__law_small_right f cdv A outer s H E).A.units + 65 < cLine ∧ (cxN P w K mg base N__law_small_right "_law_small_right" s__law_small_right f cdv A outer s H E).A.units + 64 < cLine ∧ (cxN P w K mg base N__law_small_right "_law_small_right" s__law_small_right f cdv A outer s H E).A.units + 1 < cLine := units_of hr
  exact (dss_cons (by first | exact ds_par (i := 2) (j := 3) rfl sc__law_small_right.nd (de_callD (B := []) D__law_ways (hr.mono (by decide)) hgd rfl (da_cons (dv 1) da_nil) (len_cons len_nil)) (de_lc rfl sc__law_small_right.nd (blkOk_by (own := [("_law_heap", 6)]) (N := N__law_small_right) (sc := defScope s__law_small_right) (by first | decide +kernel | rfl)) (vs := [6]) rfl (di_e (de_callD (B := []) D_pieces (hr.mono (by decide)) hgd rfl (da_cons (dv 1) da_nil) (len_cons len_nil))) (fun _ _ => (dg_name (i := 6) sc__law_small_right.nd (hB := not_onlyB (by decide)))) (fun _ => dts_nil) (fun _ => (de_callD (B := []) D_is_odd (hr.mono (by decide)) hgd rfl (da_cons (dv 1) (da_cons (dv 6) da_nil)) (len_cons (len_cons len_nil))))) rfl rfl (by rfl) | exact ds_parT (i := 2) (j := 3) rfl sc__law_small_right.nd (de_callD (B := []) D__law_ways (hr.mono (by decide)) hgd rfl (da_cons (dv 1) da_nil) (len_cons len_nil)) (de_lc rfl sc__law_small_right.nd (blkOk_by (own := [("_law_heap", 6)]) (N := N__law_small_right) (sc := defScope s__law_small_right) (by first | decide +kernel | rfl)) (vs := [6]) rfl (di_e (de_callD (B := []) D_pieces (hr.mono (by decide)) hgd rfl (da_cons (dv 1) da_nil) (len_cons len_nil))) (fun _ _ => (dg_name (i := 6) sc__law_small_right.nd (hB := not_onlyB (by decide)))) (fun _ => dts_nil) (fun _ => (de_callD (B := []) D_is_odd (hr.mono (by decide)) hgd rfl (da_cons (dv 1) (da_cons (dv 6) da_nil)) (len_cons (len_cons len_nil))))))
    (dss_cons (ds_if (dt_w (dw_and (dt_in hu65 de_bl (dv 3)) (dw_and1 (dt_cmp (op_neD hu64) b2_ne (dv 2) (de_lst da_nil len_nil))))) (dss_one (ds_ret de_bl)) dss_nil)
    (dss_cons (ds_for rfl PassesOwn.never (di_e (de_op op_addD b2_add (de_sl (dv 2) do_none (do_some de_int)) (de_sl (dv 2) (do_some (de_un un_neg b1_neg de_int)) do_none))) (dg_name (i := 4) sc__law_small_right.nd) (dss_one (ds_if (dt_w (dw_or (dt_cmp op_isnD b2_isn (de_callD (B := []) D_is_way (hr.mono (by decide)) hgd rfl (da_cons (dv 1) (da_cons (de_listC rfl hb_list (dv 4)) da_nil)) (len_cons (len_cons len_nil))) de_bl) (dw_or (dt_not (dt_truth (de_callD (B := []) D__law_rows_right (hr.mono (by decide)) hgd rfl (da_cons (dv 1) (da_cons (dv 4) da_nil)) (len_cons (len_cons len_nil))))) (dw_or1 (dt_in hu65 de_bl (dv 3)))))) (dss_one (ds_ret de_bl)) dss_nil)))
    (dss_cons (by first | exact ds_setLc (i := 5) rfl sc__law_small_right.nd (blkOk_by (own := [("_law_heap", 6)]) (N := N__law_small_right) (sc := defScope s__law_small_right) (by first | decide +kernel | rfl)) (vs := [6]) rfl (sw_true rfl rfl rfl (by decide +kernel)) (di_e (de_callD (B := []) D_pieces (hr.mono (by decide)) hgd rfl (da_cons (dv 1) da_nil) (len_cons len_nil))) (fun _ _ => (dg_name (i := 6) sc__law_small_right.nd (hB := not_onlyB (by decide)))) (fun _ => dts_nil) (fun _ => (de_cmp (op_eqD hu64) b2_eq (de_op op_modN b2_mod (de_sum rfl rfl hb_sum (de_lc rfl sc__law_small_right.nd (blkOk_by (own := [("_law_who", 7), ("_law_face", 8), ("_law_count", 9)]) (by first | decide +kernel | rfl)) (vs := [7, 8, 9]) rfl (di_e (de_sub hu1 (dv 1) de_int)) (fun _ _ => (dg_tup rfl (dgs_cons (dg_name (i := 7) sc__law_small_right.nd (hB := not_onlyB (by decide))) (dgs_cons (dg_name (i := 8) sc__law_small_right.nd (hB := not_onlyB (by decide))) (dgs_cons (dg_name (i := 9) sc__law_small_right.nd (hB := not_onlyB (by decide))) dgs_nil))))) (fun _ => (dts_one (dt_in hu65 (dv 7) (dv 6)))) (fun _ => (dv 8)))) de_int) de_int)) | exact ds_set (i := 5) sc__law_small_right.nd (de_lc rfl sc__law_small_right.nd (blkOk_by (own := [("_law_heap", 6)]) (N := N__law_small_right) (sc := defScope s__law_small_right) (by first | decide +kernel | rfl)) (vs := [6]) rfl (di_e (de_callD (B := []) D_pieces (hr.mono (by decide)) hgd rfl (da_cons (dv 1) da_nil) (len_cons len_nil))) (fun _ _ => (dg_name (i := 6) sc__law_small_right.nd (hB := not_onlyB (by decide)))) (fun _ => dts_nil) (fun _ => (de_cmp (op_eqD hu64) b2_eq (de_op op_modN b2_mod (de_sum rfl rfl hb_sum (de_lc rfl sc__law_small_right.nd (blkOk_by (own := [("_law_who", 7), ("_law_face", 8), ("_law_count", 9)]) (by first | decide +kernel | rfl)) (vs := [7, 8, 9]) rfl (di_e (de_sub hu1 (dv 1) de_int)) (fun _ _ => (dg_tup rfl (dgs_cons (dg_name (i := 7) sc__law_small_right.nd (hB := not_onlyB (by decide))) (dgs_cons (dg_name (i := 8) sc__law_small_right.nd (hB := not_onlyB (by decide))) (dgs_cons (dg_name (i := 9) sc__law_small_right.nd (hB := not_onlyB (by decide))) dgs_nil))))) (fun _ => (dts_one (dt_in hu65 (dv 7) (dv 6)))) (fun _ => (dv 8)))) de_int) de_int))))
    (dss_one (ds_ret (de_cmp (op_eqD hu64) b2_eq (dv 3) (dv 5))))))))
theorem D__law_small_right {P : Program} {w : World} {K : PySem.W.Frag} {mg : Str → Option Value} {base : Heap} (R : Raw K mg "_law_small_right" s__law_small_right ["_law_box_here", "_law_yard"]) (hB : BiOk mg) (D__law_ways : Def P w K mg base "_law_ways" s__law_ways 3 ["_law_yard"] fm__law_ways) (D_pieces : Def P w K mg base "pieces" s_pieces 3 ["hall"] fm_pieces) (D_is_odd : Def P w K mg base "is_odd" s_is_odd 2 ["hall", "names"] fm_is_odd) (D_is_way : Def P w K mg base "is_way" s_is_way 6 ["hall", "thing"] fm_is_way) (D__law_rows_right : Def P w K mg base "_law_rows_right" s__law_rows_right 7 ["_law_yard", "_law_path"] fm__law_rows_right) : Def P w K mg base "_law_small_right" s__law_small_right 8 ["_law_box_here", "_law_yard"] fm__law_small_right := def_of R sc__law_small_right (body__law_small_right hB D__law_ways D_pieces D_is_odd D_is_way D__law_rows_right) fun _ _ _ h => h
abbrev s__law_great_right : Stmt := topS 41
abbrev N__law_great_right : List Str := ["_law_box_here", "_law_yard", "_law_path", "_law_here", "_law_some"]
theorem sc__law_great_right : FnScope N__law_great_right ["_law_box_here", "_law_yard"] (defScope s__law_great_right) := ⟨rfl, rfl, rfl, by decide +kernel, rfl, by decide +kernel, by decide +kernel⟩
noncomputable def m__law_great_right : MS := (mSeq (mPar2 2 3 (mLst mNil) (mVar 1)) (mSeq (mWhile (mB (mOp2 neD (mCall [] fm_may_go (mCons (mVar 3) mNil)) (mLst mNil))) (mSeq (mSet 4 (mCall [] fm_may_go (mCons (mVar 3) mNil))) (mSeq (mDrop (mMeth fAppend (mVar 2) (mCons (mSub (mVar 4) (mCall [0] fm__law_take (mCons (mVar 0) (mCons (mOp1 lenD (mVar 4)) mNil)))) mNil))) (mSet 3 (mCall [] fm_behind (mCons (mVar 3) (mCons (mSl (mVar 2) (oSome (mOp1 negD (mC (.int 1)))) oNone) mNil))))))) (mRet (mAndV (mCall [] fm__law_rows_right (mCons (mVar 1) (mCons (mOp1 tupleD (mVar 2)) mNil))) (mCall [] fm__law_rows_right (mCons (mVar 1) (mCons (mOp1 tupleD (mSl (mVar 2) oNone (oSome (mOp2 fdivD (mOp1 lenD (mVar 2)) (mC (.int 2)))))) mNil)))))))
noncomputable def fm__law_great_right : FM := runF 2 5 [0] m__law_great_right
theorem body__law_great_right {P : Program} {w : World} {K : PySem.W.Frag} {mg : Str → Option Value} {base : Heap} (hB : BiOk mg) (D_may_go : Def P w K mg base "may_go" s_may_go 5 ["hall"] fm_may_go) (D__law_take : Def P w K mg base "_law_take" s__law_take 1 ["_law_box_here", "_law_amount"] fm__law_take) (D_behind : Def P w K mg base "behind" s_behind 6 ["hall", "row"] fm_behind) (D__law_rows_right : Def P w K mg base "_law_rows_right" s__law_rows_right 7 ["_law_yard", "_law_path"] fm__law_rows_right) (f : Addr) (cdv : Value) (A : Around) (outer : List PySem.Env) (s : Shared) (H : Hp) (E : XK) (hr : Room 7 (A.deeper (envOfC "_law_great_right" (defScope s__law_great_right) s.heap.objs.size f cdv))) (hg0 : A.guards = some []) :
    DSs (cxN P w K mg base N__law_great_right "_law_great_right" s__law_great_right f cdv A outer s H E) [0] (defBody s__law_great_right) m__law_great_right := by
  have hgd : (cxN P w K mg base N__law_great_right "_law_great_right" s__law_great_right f cdv A outer s H E).A.guards = some [] := hg0
  have hb_len := hB "len" (by decide)
  have hb_tuple := hB "tuple" (by decide)
  obtain ⟨hu70, hu65, hu64, hu1⟩ : (cxN P w K mg base N__law_great_right "_law_great_right" s__law_great_right f cdv A outer s H E).A.units + 70 < cLine ∧ (cxN P w K mg base N__law_great_right "_law_great_right" s__law_great_right f cdv A outer s H E).A.units + 65 < cLine ∧ (cxN P w K mg base N__law_great_right "_law_great_right" s__law_great_right f cdv A outer s H E).A.units + 64 < cLine ∧ (cxN P w K mg base N__law_great_right "_law_great_right" s__law_great_right f cdv A outer s H E).A.units + 1 < cLine := units_of hr
  exact (dss_cons (by first | exact ds_par (i := 2) (j := 3) rfl sc__law_great_right.nd (de_lst da_nil len_nil) (dv 1) rfl rfl (by rfl) | exact ds_parT (i := 2) (j := 3) rfl sc__law_great_right.nd (de_lst da_nil len_nil) (dv 1))
    (dss_cons (ds_while PassesOwn.never (dt_cmp (op_neD hu64) b2_ne (de_callD (B := []) D_may_go (hr.mono (by decide)) hgd rfl (da_cons (dv 3) da_nil) (len_cons len_nil)) (de_lst da_nil len_nil)) (dss_cons (ds_set (i := 4) sc__law_great_right.nd (de_callD (B := []) D_may_go (hr.mono (by decide)) hgd rfl (da_cons (dv 3) da_nil) (len_cons len_nil)))
    (dss_cons (ds_expr (de_append (dv 2) (de_sub hu1 (dv 4) (de_callD (B := [0]) D__law_take (hr.mono (by decide)) hgd rfl (da_cons (dv 0) (da_cons (de_len rfl hb_len (dv 4)) da_nil)) (len_cons (len_cons len_nil))))))
    (dss_one (ds_set (i := 3) sc__law_great_right.nd (de_callD (B := []) D_behind (hr.mono (by decide)) hgd rfl (da_cons (dv 3) (da_cons (de_sl (dv 2) (do_some (de_un un_neg b1_neg de_int)) do_none) da_nil)) (len_cons (len_cons len_nil))))))))
    (dss_one (ds_ret (de_and (de_callD (B := []) D__law_rows_right (hr.mono (by decide)) hgd rfl (da_cons (dv 1) (da_cons (de_tupC rfl hb_tuple (dv 2)) da_nil)) (len_cons (len_cons len_nil))) (de_one (de_callD (B := []) D__law_rows_right (hr.mono (by decide)) hgd rfl (da_cons (dv 1) (da_cons (de_tupC rfl hb_tuple (de_sl (dv 2) do_none (do_some (de_op op_fdivN b2_fdiv (de_len rfl hb_len (dv 2)) de_int)))) da_nil)) (len_cons (len_cons len_nil)))))))))
theorem D__law_great_right {P : Program} {w : World} {K : PySem.W.Frag} {mg : Str → Option Value} {base : Heap} (R : Raw K mg "_law_great_right" s__law_great_right ["_law_box_here", "_law_yard"]) (hB : BiOk mg) (D_may_go : Def P w K mg base "may_go" s_may_go 5 ["hall"] fm_may_go) (D__law_take : Def P w K mg base "_law_take" s__law_take 1 ["_law_box_here", "_law_amount"] fm__law_take) (D_behind : Def P w K mg base "behind" s_behind 6 ["hall", "row"] fm_behind) (D__law_rows_right : Def P w K mg base "_law_rows_right" s__law_rows_right 7 ["_law_yard", "_law_path"] fm__law_rows_right) : Def P w K mg base "_law_great_right" s__law_great_right 8 ["_law_box_here", "_law_yard"] fm__law_great_right := def_of R sc__law_great_right (body__law_great_right hB D_may_go D__law_take D_behind D__law_rows_right) fun _ _ _ h => h
abbrev s__law_right : Stmt := topS 42
abbrev N__law_right : List Str := ["_law_box_here", "_law_turn", "_law_amount", "_law_yard"]
theorem sc__law_right : FnScope N__law_right ["_law_box_here"] (defScope s__law_right) := ⟨rfl, rfl, rfl, by decide +kernel, rfl, by decide +kernel, by decide +kernel⟩
noncomputable def m__law_right : MS := (mSeq (mFor (iR1 (mCons (mC (.int 3)) mNil)) (gN 1) (mSeq (mSet 2 (mOp2 addD (mC (.int 1)) (mCall [0] fm__law_take (mCons (mVar 0) (mCons (mC (.int 6)) mNil))))) (mSeq (mSet 3 (mIf (mB (mOp2 gtD (mVar 1) (mC (.int 0)))) (mCall [0] fm__law_homely (mCons (mVar 0) (mCons (mVar 2) mNil))) (mCall [0] fm__law_any_yard (mCons (mVar 0) (mCons (mVar 2) mNil))))) (mIfS (mNot (mTru (mCall [0] fm__law_small_right (mCons (mVar 0) (mCons (mVar 3) mNil))))) (mRet (mC (.bool false))) mSkip)))) (mSeq (mIfS (mB (mOp2 eqD (mCall [0] fm__law_take (mCons (mVar 0) (mCons (mC (.int 2)) mNil))) (mC (.int 0)))) (mRet (mCall [0] fm__law_great_right (mCons (mVar 0) (mCons (mCall [0] fm__law_homely (mCons (mVar 0) (mCons (mC (.int 24)) mNil))) mNil)))) mSkip) (mRet (mCall [0] fm__law_great_right (mCons (mVar 0) (mCons (mCall [0] fm__law_any_yard (mCons (mVar 0) (mCons (mC (.int 24)) mNil))) mNil))))))
noncomputable def fm__law_right : FM := runF 1 4 [0] m__law_right
theorem body__law_right {P : Program} {w : World} {K : PySem.W.Frag} {mg : Str → Option Value} {base : Heap} (hB : BiOk mg) (D__law_take : Def P w K mg base "_law_take" s__law_take 1 ["_law_box_here", "_law_amount"] fm__law_take) (D__law_homely : Def P w K mg base "_law_homely" s__law_homely 3 ["_law_box_here", "_law_amount"] fm__law_homely) (D__law_any_yard : Def P w K mg base "_law_any_yard" s__law_any_yard 3 ["_law_box_here", "_law_amount"] fm__law_any_yard) (D__law_small_right : Def P w K mg base "_law_small_right" s__law_small_right 8 ["_law_box_here", "_law_yard"] fm__law_small_right) (D__law_great_right : Def P w K mg base "_law_great_right" s__law_great_right 8 ["_law_box_here", "_law_yard"] fm__law_great_right) (f : Addr) (cdv : Value) (A : Around) (outer : List PySem.Env) (s : Shared) (H : Hp) (E : XK) (hr : Room 8 (A.deeper (envOfC "_law_right" (defScope s__law_right) s.heap.objs.size f cdv))) (hg0 : A.guards = some []) :
    DSs (cxN P w K mg base N__law_right "_law_right" s__law_right f cdv A outer s H E) [0] (defBody s__law_right) m__law_right := by
  have hgd : (cxN P w K mg base N__law_right "_law_right" s__law_right f cdv A outer s H E).A.guards = some [] := hg0
  have hb_range := hB "range" (by decide)
  obtain ⟨hu70, hu65, hu64, hu1⟩ : (cxN P w K mg base N__law_right "_law_right" s__law_right f cdv A outer s H E).A.units + 70 < cLine ∧ (cxN P w K mg base N__law_right "_law_right" s__law_right f cdv A outer s H E).A.units + 65 < cLine ∧ (cxN P w K mg base N__law_right "_law_right" s__law_right f cdv A outer s H E).A.units + 64 < cLine ∧ (cxN P w K mg base N__law_right "_law_right" s__law_right f cdv A outer s H E).A.units + 1 < cLine := units_of hr
  exact (dss_cons (ds_for rfl PassesOwn.never (di_r1 rfl hb_range (da_cons de_int da_nil)) (dg_name (i := 1) sc__law_right.nd) (dss_cons (ds_set (i := 2) sc__law_right.nd (de_op op_addD b2_add de_int (de_callD (B := [0]) D__law_take (hr.mono (by decide)) hgd rfl (da_cons (dv 0) (da_cons de_int da_nil)) (len_cons (len_cons len_nil)))))
    (dss_cons (ds_set (i := 3) sc__law_right.nd (de_if (dt_cmp op_gt b2_gt (dv 1) de_int) (de_callD (B := [0]) D__law_homely (hr.mono (by decide)) hgd rfl (da_cons (dv 0) (da_cons (dv 2) da_nil)) (len_cons (len_cons len_nil))) (de_callD (B := [0]) D__law_any_yard (hr.mono (by decide)) hgd rfl (da_cons (dv 0) (da_cons (dv 2) da_nil)) (len_cons (len_cons len_nil)))))
    (dss_one (ds_if (dt_not (dt_truth (de_callD (B := [0]) D__law_small_right (hr.mono (by decide)) hgd rfl (da_cons (dv 0) (da_cons (dv 3) da_nil)) (len_cons (len_cons len_nil))))) (dss_one (ds_ret de_bl)) dss_nil)))))
    (dss_cons (ds_if (dt_cmp (op_eqD hu64) b2_eq (de_callD (B := [0]) D__law_take (hr.mono (by decide)) hgd rfl (da_cons (dv 0) (da_cons de_int da_nil)) (len_cons (len_cons len_nil))) de_int) (dss_one (ds_ret (de_callD (B := [0]) D__law_great_right (hr.mono (by decide)) hgd rfl (da_cons (dv 0) (da_cons (de_callD (B := [0]) D__law_homely (hr.mono (by decide)) hgd rfl (da_cons (dv 0) (da_cons de_int da_nil)) (len_cons (len_cons len_nil))) da_nil)) (len_cons (len_cons len_nil))))) dss_nil)
    (dss_one (ds_ret (de_callD (B := [0]) D__law_great_right (hr.mono (by decide)) hgd rfl (da_cons (dv 0) (da_cons (de_callD (B := [0]) D__law_any_yard (hr.mono (by decide)) hgd rfl (da_cons (dv 0) (da_cons de_int da_nil)) (len_cons (len_cons len_nil))) da_nil)) (len_cons (len_cons len_nil)))))))
theorem D__law_right {P : Program} {w : World} {K : PySem.W.Frag} {mg : Str → Option Value} {base : Heap} (R : Raw K mg "_law_right" s__law_right ["_law_box_here"]) (hB : BiOk mg) (D__law_take : Def P w K mg base "_law_take" s__law_take 1 ["_law_box_here", "_law_amount"] fm__law_take) (D__law_homely : Def P w K mg base "_law_homely" s__law_homely 3 ["_law_box_here", "_law_amount"] fm__law_homely) (D__law_any_yard : Def P w K mg base "_law_any_yard" s__law_any_yard 3 ["_law_box_here", "_law_amount"] fm__law_any_yard) (D__law_small_right : Def P w K mg base "_law_small_right" s__law_small_right 8 ["_law_box_here", "_law_yard"] fm__law_small_right) (D__law_great_right : Def P w K mg base "_law_great_right" s__law_great_right 8 ["_law_box_here", "_law_yard"] fm__law_great_right) : Def P w K mg base "_law_right" s__law_right 9 ["_law_box_here"] fm__law_right := def_of R sc__law_right (body__law_right hB D__law_take D__law_homely D__law_any_yard D__law_small_right D__law_great_right) fun _ _ _ h => h
abbrev s_law : Stmt := topS 43
abbrev N_law : List Str := ["_law_script", "_law_cells_here", "_law_k"]
theorem sc_law : FnScope N_law ["_law_script"] (defScope s_law) := ⟨rfl, rfl, rfl, by decide +kernel, rfl, by decide +kernel, by decide +kernel⟩
noncomputable def m_law : MS := (mSeq (mSet 1 (mCall [] fm__law_cells (mCons (mVar 0) (mCons (mC (.int 3)) mNil)))) (mRet (mOp1 allD (mLc (iR1 (mCons (mOp1 lenD (mVar 1)) mNil)) [2] (gN 2) mYes (mCall1 fm__law_right (mCall [] fm__law_box (mCons (mVar 1) (mCons (mVar 2) mNil))))))))
noncomputable def fm_law : FM := runF 1 3 [] m_law
theorem body_law {P : Program} {w : World} {K : PySem.W.Frag} {mg : Str → Option Value} {base : Heap} (hB : BiOk mg) (D__law_cells : Def P w K mg base "_law_cells" s__law_cells 1 ["_law_script", "_law_utmost"] fm__law_cells) (D__law_box : Def P w K mg base "_law_box" s__law_box 1 ["_law_cells_here", "_law_k"] fm__law_box) (D__law_right : Def P w K mg base "_law_right" s__law_right 9 ["_law_box_here"] fm__law_right) (f : Addr) (cdv : Value) (A : Around) (outer : List PySem.Env) (s : Shared) (H : Hp) (E : XK) (hr : Room 9 (A.deeper (envOfC "law" (defScope s_law) s.heap.objs.size f cdv))) (hg0 : A.guards = some []) :
    DSs (cxN P w K mg base N_law "law" s_law f cdv A outer s H E) [] (defBody s_law) m_law := by
  have hgd : (cxN P w K mg base N_law "law" s_law f cdv A outer s H E).A.guards = some [] := hg0
  have hb_all := hB "all" (by decide)
  have hb_len := hB "len" (by decide)
  have hb_range := hB "range" (by decide)
  obtain ⟨hu70, hu65, hu64, hu1⟩ : (cxN P w K mg base N_law "law" s_law f cdv A outer s H E).A.units + 70 < cLine ∧ (cxN P w K mg base N_law "law" s_law f cdv A outer s H E).A.units + 65 < cLine ∧ (cxN P w K mg base N_law "law" s_law f cdv A outer s H E).A.units + 64 < cLine ∧ (cxN P w K mg base N_law "law" s_law f cdv A outer s H E).A.units + 1 < cLine := units_of hr
  exact (dss_cons (ds_set (i := 1) sc_law.nd (de_callD (B := []) D__law_cells (hr.mono (by decide)) hgd rfl (da_cons (dv 0) (da_cons de_int da_nil)) (len_cons (len_cons len_nil))))
    (dss_one (ds_ret (de_all rfl rfl hb_all (de_lc rfl sc_law.nd (blkOk_by (own := [("_law_k", 2)]) (N := N_law) (sc := defScope s_law) (by first | decide +kernel | rfl)) (vs := [2]) rfl (di_r1 rfl hb_range (da_cons (de_len rfl hb_len (dv 1)) da_nil)) (fun _ _ => (dg_name (i := 2) sc_law.nd (hB := not_onlyB (by decide)))) (fun _ => dts_nil) (fun _ => (de_call1 D__law_right (hr.mono (by decide)) hgd rfl (de_callD (B := []) D__law_box (hr.mono (by decide)) hgd rfl (da_cons (dv 1) (da_cons (dv 2) da_nil)) (len_cons (len_cons len_nil))))))))))
theorem D_law {P : Program} {w : World} {K : PySem.W.Frag} {mg : Str → Option Value} {base : Heap} (R : Raw K mg "law" s_law ["_law_script"]) (hB : BiOk mg) (D__law_cells : Def P w K mg base "_law_cells" s__law_cells 1 ["_law_script", "_law_utmost"] fm__law_cells) (D__law_box : Def P w K mg base "_law_box" s__law_box 1 ["_law_cells_here", "_law_k"] fm__law_box) (D__law_right : Def P w K mg base "_law_right" s__law_right 9 ["_law_box_here"] fm__law_right) : Def P w K mg base "law" s_law 10 ["_law_script"] fm_law := def_of R sc_law (body_law hB D__law_cells D__law_box D__law_right) fun _ _ _ h => h
end Kx

set_option Elab.async false
set_option linter.all false
set_option maxRecDepth 100000
set_option autoImplicit false
namespace Kx
open PySem PySem.Spec PyProof.Rows L2 Mw
-- part a
/-! ### halls as data -/
abbrev Pl := Str × Int × Int
abbrev Ti := Str × Str × Int
def plD (p : Pl) : PyData := .tuple [.str p.1, .int p.2.1, .int p.2.2]
def tiD (t : Ti) : PyData := .tuple [.str t.1, .str t.2.1, .int t.2.2]
def hallD (w : Int) (ps : List Pl) (ts : List Ti) : PyData := .tuple [.int w, .tuple (ps.map plD), .tuple (ts.map tiD)]
def cnt (w n : Int) : Int := if w = 0 then n else n.fmod w
theorem counted_spec (w n : Int) : fm_counted [.dat (.int w), .dat (.int n)] = some (.dat (.int (cnt w n)), [.dat (.int w), .dat (.int n)]) := by
  unfold fm_counted m_counted cnt
  by_cases h : w = 0 <;> simp [runF, okArgs, em, mSeq, mIfS, mB, mOp2, mOp1, mPure, mCons, mVar, mC, mNil, frz1, looks, lookS, f1, f2, mSkip, mRet, mRetN, mDrop, gtD, geD, ltD, leD, isD, isnD, addD, subD, mulD, modD, fdivD, powD, negD, fOr, i2, i2c, mSub, finF, outR, outA, mSet, mSetI, toD, esc, escAll, setItemAt, dctAt, setAt, ixD, atI, ixN, setR, mTru, truS, truD, mAnd, mOr, mNot, mAndV, mOrV, mNotV, mIf, mTup, mLst, mAsg, gN, gT, gsCons, gsNil, mChain, mCall, escB, argsOf, slotsOf, putBack, iE, itemsD, mPar2, wipeE, restE, noOwn, mYes, lenD, absD, Mw.intD, listD, tupleD, mSl, oNone, oSome, slD, mMeth, lstAt, fAppend, mSetT, setTAt, mGetT, dttAt, mD0, mD0T, mPar3, noSlot, setN, mIn, isiD, tyD, isTy, eqD_int, neD_int, eqD_bool, neD_bool, eqD_ii, Mw.keyOf, mLc, mFor, mNeverS, revD, h, cModB]
theorem round_spec (w n : Int) : fm__law_round [.dat (.int w), .dat (.int n)] = some (.dat (.int (cnt w n)), [.dat (.int w), .dat (.int n)]) := by
  unfold fm__law_round m__law_round cnt
  by_cases h : w = 0 <;> simp [runF, okArgs, em, mSeq, mIfS, mB, mOp2, mOp1, mPure, mCons, mVar, mC, mNil, frz1, looks, lookS, f1, f2, mSkip, mRet, mRetN, mDrop, gtD, geD, ltD, leD, isD, isnD, addD, subD, mulD, modD, fdivD, powD, negD, fOr, i2, i2c, mSub, finF, outR, outA, mSet, mSetI, toD, esc, escAll, setItemAt, dctAt, setAt, ixD, atI, ixN, setR, mTru, truS, truD, mAnd, mOr, mNot, mAndV, mOrV, mNotV, mIf, mTup, mLst, mAsg, gN, gT, gsCons, gsNil, mChain, mCall, escB, argsOf, slotsOf, putBack, iE, itemsD, mPar2, wipeE, restE, noOwn, mYes, lenD, absD, Mw.intD, listD, tupleD, mSl, oNone, oSome, slD, mMeth, lstAt, fAppend, mSetT, setTAt, mGetT, dttAt, mD0, mD0T, mPar3, noSlot, setN, mIn, isiD, tyD, isTy, eqD_int, neD_int, eqD_bool, neD_bool, eqD_ii, Mw.keyOf, mLc, mFor, mNeverS, revD, h, cModB]
theorem is_number_int (n : Int) : fm_is_number [.dat (.int n)] = some (.dat (.bool true), [.dat (.int n)]) := by
  unfold fm_is_number m_is_number
  simp [runF, okArgs, em, mSeq, mIfS, mB, mOp2, mOp1, mPure, mCons, mVar, mC, mNil, frz1, looks, lookS, f1, f2, mSkip, mRet, mRetN, mDrop, gtD, geD, ltD, leD, isD, isnD, addD, subD, mulD, modD, fdivD, powD, negD, fOr, i2, i2c, mSub, finF, outR, outA, mSet, mSetI, toD, esc, escAll, setItemAt, dctAt, setAt, ixD, atI, ixN, setR, mTru, truS, truD, mAnd, mOr, mNot, mAndV, mOrV, mNotV, mIf, mTup, mLst, mAsg, gN, gT, gsCons, gsNil, mChain, mCall, escB, argsOf, slotsOf, putBack, iE, itemsD, mPar2, wipeE, restE, noOwn, mYes, lenD, absD, Mw.intD, listD, tupleD, mSl, oNone, oSome, slD, mMeth, lstAt, fAppend, mSetT, setTAt, mGetT, dttAt, mD0, mD0T, mPar3, noSlot, setN, mIn, isiD, tyD, isTy, eqD_int, neD_int, eqD_bool, neD_bool, eqD_ii, Mw.keyOf, mLc, mFor, mNeverS, revD]
theorem is_counted0 (n : Int) : fm_is_counted [.dat (.int 0), .dat (.int n)] = some (.dat (.bool true), [.dat (.int 0), .dat (.int n)]) := by
  unfold fm_is_counted m_is_counted
  simp [runF, okArgs, em, mSeq, mIfS, mB, mOp2, mOp1, mPure, mCons, mVar, mC, mNil, frz1, looks, lookS, f1, f2, mSkip, mRet, mRetN, mDrop, gtD, geD, ltD, leD, isD, isnD, addD, subD, mulD, modD, fdivD, powD, negD, fOr, i2, i2c, mSub, finF, outR, outA, mSet, mSetI, toD, esc, escAll, setItemAt, dctAt, setAt, ixD, atI, ixN, setR, mTru, truS, truD, mAnd, mOr, mNot, mAndV, mOrV, mNotV, mIf, mTup, mLst, mAsg, gN, gT, gsCons, gsNil, mChain, mCall, escB, argsOf, slotsOf, putBack, iE, itemsD, mPar2, wipeE, restE, noOwn, mYes, lenD, absD, Mw.intD, listD, tupleD, mSl, oNone, oSome, slD, mMeth, lstAt, fAppend, mSetT, setTAt, mGetT, dttAt, mD0, mD0T, mPar3, noSlot, setN, mIn, isiD, tyD, isTy, eqD_int, neD_int, eqD_bool, neD_bool, eqD_ii, Mw.keyOf, mLc, mFor, mNeverS, revD, is_number_int, counted_spec, cnt]
theorem is_card0 (f n : Int) : fm_is_card [.dat (.int 0), .dat (.tuple [.int f, .int n])] = some (.dat (.bool (decide (0 ≤ f ∧ f ≤ 1))), [.dat (.int 0), .dat (.tuple [.int f, .int n])]) := by
  unfold fm_is_card m_is_card
  by_cases h : 0 ≤ f <;> by_cases h' : f ≤ 1 <;> simp [runF, okArgs, em, mSeq, mIfS, mB, mOp2, mOp1, mPure, mCons, mVar, mC, mNil, frz1, looks, lookS, f1, f2, mSkip, mRet, mRetN, mDrop, gtD, geD, ltD, leD, isD, isnD, addD, subD, mulD, modD, fdivD, powD, negD, fOr, i2, i2c, mSub, finF, outR, outA, mSet, mSetI, toD, esc, escAll, setItemAt, dctAt, setAt, ixD, atI, ixN, setR, mTru, truS, truD, mAnd, mOr, mNot, mAndV, mOrV, mNotV, mIf, mTup, mLst, mAsg, gN, gT, gsCons, gsNil, mChain, mCall, escB, argsOf, slotsOf, putBack, iE, itemsD, mPar2, wipeE, restE, noOwn, mYes, lenD, absD, Mw.intD, listD, tupleD, mSl, oNone, oSome, slD, mMeth, lstAt, fAppend, mSetT, setTAt, mGetT, dttAt, mD0, mD0T, mPar3, noSlot, setN, mIn, isiD, tyD, isTy, eqD_int, neD_int, eqD_bool, neD_bool, eqD_ii, Mw.keyOf, mLc, mFor, mNeverS, revD, is_number_int, is_counted0, h, h']
def free (f n : Int) : Bool := decide (f = 1 ∧ n = 0)
theorem is_free_spec (f n : Int) : fm_is_free [.dat (.tuple [.int f, .int n])] = some (.dat (.bool (free f n)), [.dat (.tuple [.int f, .int n])]) := by
  unfold fm_is_free m_is_free free
  by_cases h : 0 ≤ f <;> by_cases h' : f ≤ 1 <;> simp [runF, okArgs, em, mSeq, mIfS, mB, mOp2, mOp1, mPure, mCons, mVar, mC, mNil, frz1, looks, lookS, f1, f2, mSkip, mRet, mRetN, mDrop, gtD, geD, ltD, leD, isD, isnD, addD, subD, mulD, modD, fdivD, powD, negD, fOr, i2, i2c, mSub, finF, outR, outA, mSet, mSetI, toD, esc, escAll, setItemAt, dctAt, setAt, ixD, atI, ixN, setR, mTru, truS, truD, mAnd, mOr, mNot, mAndV, mOrV, mNotV, mIf, mTup, mLst, mAsg, gN, gT, gsCons, gsNil, mChain, mCall, escB, argsOf, slotsOf, putBack, iE, itemsD, mPar2, wipeE, restE, noOwn, mYes, lenD, absD, Mw.intD, listD, tupleD, mSl, oNone, oSome, slD, mMeth, lstAt, fAppend, mSetT, setTAt, mGetT, dttAt, mD0, mD0T, mPar3, noSlot, setN, mIn, isiD, tyD, isTy, eqD_int, neD_int, eqD_bool, neD_bool, eqD_ii, Mw.keyOf, mLc, mFor, mNeverS, revD, is_card0, h, h'] <;> omega
theorem mirrored_spec (w f n g : Int) : fm_mirrored [.dat (.int w), .dat (.tuple [.int f, .int n]), .dat (.int g)] = some (.dat (.tuple [.int (1 - f), .int (cnt w (g - n))]), [.dat (.int w), .dat (.tuple [.int f, .int n]), .dat (.int g)]) := by
  unfold fm_mirrored m_mirrored
  simp [runF, okArgs, em, mSeq, mIfS, mB, mOp2, mOp1, mPure, mCons, mVar, mC, mNil, frz1, looks, lookS, f1, f2, mSkip, mRet, mRetN, mDrop, gtD, geD, ltD, leD, isD, isnD, addD, subD, mulD, modD, fdivD, powD, negD, fOr, i2, i2c, mSub, finF, outR, outA, mSet, mSetI, toD, esc, escAll, setItemAt, dctAt, setAt, ixD, atI, ixN, setR, mTru, truS, truD, mAnd, mOr, mNot, mAndV, mOrV, mNotV, mIf, mTup, mLst, mAsg, gN, gT, gsCons, gsNil, mChain, mCall, escB, argsOf, slotsOf, putBack, iE, itemsD, mPar2, wipeE, restE, noOwn, mYes, lenD, absD, Mw.intD, listD, tupleD, mSl, oNone, oSome, slD, mMeth, lstAt, fAppend, mSetT, setTAt, mGetT, dttAt, mD0, mD0T, mPar3, noSlot, setN, mIn, isiD, tyD, isTy, eqD_int, neD_int, eqD_bool, neD_bool, eqD_ii, Mw.keyOf, mLc, mFor, mNeverS, revD, counted_spec]
-- part b
/-! ### card_of -/
def cardOf (ps : List Pl) (x : Str) : Option (Int × Int) := (ps.find? fun p => decide (p.1 = x)).map (·.2)
def cardD : Option (Int × Int) → PyData
  | some (f, n) => .tuple [.int f, .int n]
  | none => .none
theorem card_loop (hd : PyData) (x : Str) (hx : TxOk x) : ∀ (ps : List Pl), (∀ p ∈ ps, TxOk p.1) → ∀ (e2 e3 e4 : Option DV), ∃ a b c, loopS (gT 3 (gsCons (gN 2) (gsCons (gN 3) (gsCons (gN 4) gsNil)))) (mIfS (mB (mOp2 eqD (mVar 2) (mVar 1))) (mRet (mTup (mCons (mVar 3) (mCons (mVar 4) mNil)))) mSkip) (ps.map plD) [some (.dat hd), some (.dat (.str x)), e2, e3, e4] =
    some ((match cardOf ps x with | some (f, n) => .ret (.dat (.tuple [.int f, .int n])) | none => .next), [some (.dat hd), some (.dat (.str x)), a, b, c])
  | [], _, e2, e3, e4 => ⟨e2, e3, e4, by simp [loopS, cardOf]⟩
  | p :: ps, h, e2, e3, e4 => by
    have hp : TxOk p.1 := h p List.mem_cons_self
    by_cases e : p.1 = x
    · refine ⟨some (.dat (.str p.1)), some (.dat (.int p.2.1)), some (.dat (.int p.2.2)), ?_⟩
      simp [loopS, plD, cardOf, runF, okArgs, em, mSeq, mIfS, mB, mOp2, mOp1, mPure, mCons, mVar, mC, mNil, frz1, looks, lookS, f1, f2, mSkip, mRet, mRetN, mDrop, gtD, geD, ltD, leD, isD, isnD, addD, subD, mulD, modD, fdivD, powD, negD, fOr, i2, i2c, mSub, finF, outR, outA, mSet, mSetI, toD, esc, escAll, setItemAt, dctAt, setAt, ixD, atI, ixN, setR, mTru, truS, truD, mAnd, mOr, mNot, mAndV, mOrV, mNotV, mIf, mTup, mLst, mAsg, gN, gT, gsCons, gsNil, mChain, mCall, escB, argsOf, slotsOf, putBack, iE, itemsD, mPar2, wipeE, restE, noOwn, mYes, lenD, absD, Mw.intD, listD, tupleD, mSl, oNone, oSome, slD, mMeth, lstAt, fAppend, mSetT, setTAt, mGetT, dttAt, mD0, mD0T, mPar3, noSlot, setN, mIn, isiD, tyD, isTy, eqD_int, neD_int, eqD_bool, neD_bool, eqD_ii, Mw.keyOf, mLc, mFor, mNeverS, revD, eqD_str hp hx, e, eqD_str hx hx]
    · obtain ⟨a, b, c, q⟩ := card_loop hd x hx ps (fun y hy => h y (List.mem_cons_of_mem _ hy)) (some (.dat (.str p.1))) (some (.dat (.int p.2.1))) (some (.dat (.int p.2.2)))
      have e' : cardOf (p :: ps) x = cardOf ps x := by simp [cardOf, e]
      refine ⟨a, b, c, ?_⟩
      rw [e', ← q]
      simp [loopS, plD, runF, okArgs, em, mSeq, mIfS, mB, mOp2, mOp1, mPure, mCons, mVar, mC, mNil, frz1, looks, lookS, f1, f2, mSkip, mRet, mRetN, mDrop, gtD, geD, ltD, leD, isD, isnD, addD, subD, mulD, modD, fdivD, powD, negD, fOr, i2, i2c, mSub, finF, outR, outA, mSet, mSetI, toD, esc, escAll, setItemAt, dctAt, setAt, ixD, atI, ixN, setR, mTru, truS, truD, mAnd, mOr, mNot, mAndV, mOrV, mNotV, mIf, mTup, mLst, mAsg, gN, gT, gsCons, gsNil, mChain, mCall, escB, argsOf, slotsOf, putBack, iE, itemsD, mPar2, wipeE, restE, noOwn, mYes, lenD, absD, Mw.intD, listD, tupleD, mSl, oNone, oSome, slD, mMeth, lstAt, fAppend, mSetT, setTAt, mGetT, dttAt, mD0, mD0T, mPar3, noSlot, setN, mIn, isiD, tyD, isTy, eqD_int, neD_int, eqD_bool, neD_bool, eqD_ii, Mw.keyOf, mLc, mFor, mNeverS, revD, eqD_str hp hx, e]
theorem card_of_spec (w : Int) (ps : List Pl) (ts : List Ti) (x : Str) (h : ∀ p ∈ ps, TxOk p.1) (hx : TxOk x) : fm_card_of [.dat (hallD w ps ts), .dat (.str x)] = some (.dat (cardD (cardOf ps x)), [.dat (hallD w ps ts), .dat (.str x)]) := by
  obtain ⟨a, b, c, q⟩ := card_loop (hallD w ps ts) x hx ps h none none none
  unfold fm_card_of m_card_of
  have e1 : iE (mSub (mVar 0) (mC (.int 1))) [some (.dat (hallD w ps ts)), some (.dat (.str x)), none, none, none] = some (ps.map plD, [some (.dat (hallD w ps ts)), some (.dat (.str x)), none, none, none]) := by
    simp [runF, okArgs, em, mSeq, mIfS, mB, mOp2, mOp1, mPure, mCons, mVar, mC, mNil, frz1, looks, lookS, f1, f2, mSkip, mRet, mRetN, mDrop, gtD, geD, ltD, leD, isD, isnD, addD, subD, mulD, modD, fdivD, powD, negD, fOr, i2, i2c, mSub, finF, outR, outA, mSet, mSetI, toD, esc, escAll, setItemAt, dctAt, setAt, ixD, atI, ixN, setR, mTru, truS, truD, mAnd, mOr, mNot, mAndV, mOrV, mNotV, mIf, mTup, mLst, mAsg, gN, gT, gsCons, gsNil, mChain, mCall, escB, argsOf, slotsOf, putBack, iE, itemsD, mPar2, wipeE, restE, noOwn, mYes, lenD, absD, Mw.intD, listD, tupleD, mSl, oNone, oSome, slD, mMeth, lstAt, fAppend, mSetT, setTAt, mGetT, dttAt, mD0, mD0T, mPar3, noSlot, setN, mIn, isiD, tyD, isTy, eqD_int, neD_int, eqD_bool, neD_bool, eqD_ii, Mw.keyOf, mLc, mFor, mNeverS, revD, hallD]
  simp only [runF, okArgs, mSeq, mFor]
  simp only [Mw.em, List.map_cons, List.map_nil, List.length_cons, List.length_nil, List.replicate, List.cons_append, List.nil_append, List.append]
  simp [e1, q]
  cases cardOf ps x with
  | none => simp [runF, okArgs, em, mSeq, mIfS, mB, mOp2, mOp1, mPure, mCons, mVar, mC, mNil, frz1, looks, lookS, f1, f2, mSkip, mRet, mRetN, mDrop, gtD, geD, ltD, leD, isD, isnD, addD, subD, mulD, modD, fdivD, powD, negD, fOr, i2, i2c, mSub, finF, outR, outA, mSet, mSetI, toD, esc, escAll, setItemAt, dctAt, setAt, ixD, atI, ixN, setR, mTru, truS, truD, mAnd, mOr, mNot, mAndV, mOrV, mNotV, mIf, mTup, mLst, mAsg, gN, gT, gsCons, gsNil, mChain, mCall, escB, argsOf, slotsOf, putBack, iE, itemsD, mPar2, wipeE, restE, noOwn, mYes, lenD, absD, Mw.intD, listD, tupleD, mSl, oNone, oSome, slD, mMeth, lstAt, fAppend, mSetT, setTAt, mGetT, dttAt, mD0, mD0T, mPar3, noSlot, setN, mIn, isiD, tyD, isTy, eqD_int, neD_int, eqD_bool, neD_bool, eqD_ii, Mw.keyOf, mLc, mFor, mNeverS, revD, cardD]
  | some fn => simp [runF, okArgs, em, mSeq, mIfS, mB, mOp2, mOp1, mPure, mCons, mVar, mC, mNil, frz1, looks, lookS, f1, f2, mSkip, mRet, mRetN, mDrop, gtD, geD, ltD, leD, isD, isnD, addD, subD, mulD, modD, fdivD, powD, negD, fOr, i2, i2c, mSub, finF, outR, outA, mSet, mSetI, toD, esc, escAll, setItemAt, dctAt, setAt, ixD, atI, ixN, setR, mTru, truS, truD, mAnd, mOr, mNot, mAndV, mOrV, mNotV, mIf, mTup, mLst, mAsg, gN, gT, gsCons, gsNil, mChain, mCall, escB, argsOf, slotsOf, putBack, iE, itemsD, mPar2, wipeE, restE, noOwn, mYes, lenD, absD, Mw.intD, listD, tupleD, mSl, oNone, oSome, slD, mMeth, lstAt, fAppend, mSetT, setTAt, mGetT, dttAt, mD0, mD0T, mPar3, noSlot, setN, mIn, isiD, tyD, isTy, eqD_int, neD_int, eqD_bool, neD_bool, eqD_ii, Mw.keyOf, mLc, mFor, mNeverS, revD, cardD]
/-! ### may_go -/
theorem may_go_spec (w : Int) (ps : List Pl) (ts : List Ti) (hz : ps.length < 1000000) : fm_may_go [.dat (hallD w ps ts)] = some (.new (.lst (((ps.filter fun p => free p.2.1 p.2.2).map (·.1)).map PyData.str)), [.dat (hallD w ps ts)]) := by
  have e1 : iE (mSub (mVar 0) (mC (.int 1))) [some (.dat (hallD w ps ts)), none, none, none] = some (ps.map plD, [some (.dat (hallD w ps ts)), none, none, none]) := by
    simp [runF, okArgs, em, mSeq, mIfS, mB, mOp2, mOp1, mPure, mCons, mVar, mC, mNil, frz1, looks, lookS, f1, f2, mSkip, mRet, mRetN, mDrop, gtD, geD, ltD, leD, isD, isnD, addD, subD, mulD, modD, fdivD, powD, negD, fOr, i2, i2c, mSub, finF, outR, outA, mSet, mSetI, toD, esc, escAll, setItemAt, dctAt, setAt, ixD, atI, ixN, setR, mTru, truS, truD, mAnd, mOr, mNot, mAndV, mOrV, mNotV, mIf, mTup, mLst, mAsg, gN, gT, gsCons, gsNil, mChain, mCall, escB, argsOf, slotsOf, putBack, iE, itemsD, mPar2, wipeE, restE, noOwn, mYes, lenD, absD, Mw.intD, listD, tupleD, mSl, oNone, oSome, slD, mMeth, lstAt, fAppend, mSetT, setTAt, mGetT, dttAt, mD0, mD0T, mPar3, noSlot, setN, mIn, isiD, tyD, isTy, eqD_int, neD_int, eqD_bool, neD_bool, eqD_ii, Mw.keyOf, mLc, mFor, mNeverS, revD, hallD]
  have lp : loopC [1, 2, 3] (gT 3 (gsCons (gN 1) (gsCons (gN 2) (gsCons (gN 3) gsNil)))) (mTru (mCall [] fm_is_free (mCons (mTup (mCons (mVar 2) (mCons (mVar 3) mNil))) mNil))) (mVar 1) (ps.map plD) [] [some (.dat (hallD w ps ts)), none, none, none]
      = some (((ps.filter fun p => free p.2.1 p.2.2).map (·.1)).map PyData.str, [some (.dat (hallD w ps ts)), none, none, none]) := by
    have := loopC_map (vs := [1, 2, 3]) (g := gT 3 (gsCons (gN 1) (gsCons (gN 2) (gsCons (gN 3) gsNil)))) (t := mTru (mCall [] fm_is_free (mCons (mTup (mCons (mVar 2) (mCons (mVar 3) mNil))) mNil))) (me := mVar 1) plD (fun p => free p.2.1 p.2.2) (fun p => PyData.str p.1) [some (.dat (hallD w ps ts)), none, none, none] ps [] (by
      intro p hp
      have ht : mTru (mCall [] fm_is_free (mCons (mTup (mCons (mVar 2) (mCons (mVar 3) mNil))) mNil)) [some (.dat (hallD w ps ts)), some (.dat (.str p.1)), some (.dat (.int p.2.1)), some (.dat (.int p.2.2))] = some (free p.2.1 p.2.2, [some (.dat (hallD w ps ts)), some (.dat (.str p.1)), some (.dat (.int p.2.1)), some (.dat (.int p.2.2))]) := by
        simp [runF, okArgs, em, mSeq, mIfS, mB, mOp2, mOp1, mPure, mCons, mVar, mC, mNil, frz1, looks, lookS, f1, f2, mSkip, mRet, mRetN, mDrop, gtD, geD, ltD, leD, isD, isnD, addD, subD, mulD, modD, fdivD, powD, negD, fOr, i2, i2c, mSub, finF, outR, outA, mSet, mSetI, toD, esc, escAll, setItemAt, dctAt, setAt, ixD, atI, ixN, setR, mTru, truS, truD, mAnd, mOr, mNot, mAndV, mOrV, mNotV, mIf, mTup, mLst, mAsg, gN, gT, gsCons, gsNil, mChain, mCall, escB, argsOf, slotsOf, putBack, iE, itemsD, mPar2, wipeE, restE, noOwn, mYes, lenD, absD, Mw.intD, listD, tupleD, mSl, oNone, oSome, slD, mMeth, lstAt, fAppend, mSetT, setTAt, mGetT, dttAt, mD0, mD0T, mPar3, noSlot, setN, mIn, isiD, tyD, isTy, eqD_int, neD_int, eqD_bool, neD_bool, eqD_ii, Mw.keyOf, mLc, mFor, mNeverS, revD, is_free_spec]
      refine ⟨_, rfl, ?_⟩
      cases hf : free p.2.1 p.2.2 with
      | true =>
        rw [hf] at ht
        exact .inl ⟨rfl, _, .dat (.str p.1), _, _, ht, rfl, rfl, rfl⟩
      | false =>
        rw [hf] at ht
        exact .inr ⟨rfl, _, ht, rfl⟩)
    rw [this]
    simp
  unfold fm_may_go m_may_go
  simp only [runF, okArgs]
  simp only [Mw.em, List.map_cons, List.map_nil, List.length_cons, List.length_nil, List.replicate, List.cons_append, List.nil_append, List.append]
  rw [mRet, mLc_ev e1 (few (by simpa using hz)) rfl lp]
  simp [runF, okArgs, em, mSeq, mIfS, mB, mOp2, mOp1, mPure, mCons, mVar, mC, mNil, frz1, looks, lookS, f1, f2, mSkip, mRet, mRetN, mDrop, gtD, geD, ltD, leD, isD, isnD, addD, subD, mulD, modD, fdivD, powD, negD, fOr, i2, i2c, mSub, finF, outR, outA, mSet, mSetI, toD, esc, escAll, setItemAt, dctAt, setAt, ixD, atI, ixN, setR, mTru, truS, truD, mAnd, mOr, mNot, mAndV, mOrV, mNotV, mIf, mTup, mLst, mAsg, gN, gT, gsCons, gsNil, mChain, mCall, escB, argsOf, slotsOf, putBack, iE, itemsD, mPar2, wipeE, restE, noOwn, mYes, lenD, absD, Mw.intD, listD, tupleD, mSl, oNone, oSome, slD, mMeth, lstAt, fAppend, mSetT, setTAt, mGetT, dttAt, mD0, mD0T, mPar3, noSlot, setN, mIn, isiD, tyD, isTy, eqD_int, neD_int, eqD_bool, neD_bool, eqD_ii, Mw.keyOf, mLc, mFor, mNeverS, revD]
-- part c
/-! ### dicts of texts -/
theorem valP_put_same (kvs : List (Key × Pd)) (k : Key) (d : Pd) : valP (putP kvs k d) k = some d := by
  unfold putP
  split
  · next h =>
    unfold valP
    induction kvs with
    | nil => simp at h
    | cons p r ih =>
      by_cases e : p.1 = k
      · simp [e]
      · simp only [List.any_cons, decide_eq_false e, Bool.false_or] at h
        simp only [List.map_cons, if_neg e, List.find?_cons, decide_eq_false e]
        exact ih h
  · next h =>
    unfold valP
    have : kvs.find? (fun kv => decide (kv.1 = k)) = none := by
      rw [List.find?_eq_none]
      intro x hx z
      exact h (List.any_eq_true.mpr ⟨x, hx, z⟩)
    simp [List.find?_append, this]
theorem valP_put_ne (kvs : List (Key × Pd)) (k k' : Key) (d : Pd) (h : k' ≠ k) : valP (putP kvs k' d) k = valP kvs k := by
  unfold putP
  split
  · unfold valP
    induction kvs with
    | nil => rfl
    | cons p r ih =>
      by_cases e : p.1 = k'
      · have e2 : ¬ p.1 = k := fun z => h (e.symm.trans z)
        simp only [List.map_cons, if_pos e, List.find?_cons, decide_eq_false e2]
        by_cases hr : (r.any fun kv => decide (kv.1 = k')) = true
        · exact ih hr
        · have : r.map (fun kv => if kv.1 = k' then (kv.1, d) else kv) = r := by
            rw [List.map_congr_left (g := id)]
            · simp
            · intro x hx
              rw [if_neg fun z => hr (List.any_eq_true.mpr ⟨x, hx, by simp [z]⟩)]
              rfl
          rw [this]
      · simp only [List.map_cons, if_neg e, List.find?_cons]
        by_cases e2 : p.1 = k
        · simp [e2]
        · simp only [decide_eq_false e2]
          by_cases hr : (r.any fun kv => decide (kv.1 = k')) = true
          · exact ih hr
          · have : r.map (fun kv => if kv.1 = k' then (kv.1, d) else kv) = r := by
              rw [List.map_congr_left (g := id)]
              · simp
              · intro x hx
                rw [if_neg fun z => hr (List.any_eq_true.mpr ⟨x, hx, by simp [z]⟩)]
                rfl
            rw [this]
  · unfold valP
    rw [List.find?_append]
    simp [h]
theorem putP_len (kvs : List (Key × Pd)) (k : Key) (d : Pd) : (putP kvs k d).length ≤ kvs.length + 1 := by
  unfold putP
  split <;> simp
/-! ### mirrors_at -/
def mirStep (x : Str) (acc : List (Key × Pd)) (t : Ti) : List (Key × Pd) :=
  if t.1 = x then putP acc (.inr t.2.1) (.int t.2.2) else if t.2.1 = x then putP acc (.inr t.1) (.int t.2.2) else acc
theorem mirStep_len (x : Str) (acc : List (Key × Pd)) (t : Ti) : (mirStep x acc t).length ≤ acc.length + 1 := by
  unfold mirStep
  split
  · exact putP_len ..
  · split
    · exact putP_len ..
    · omega
theorem mir_loop (hd : PyData) (x : Str) (hx : TxOk x) : ∀ (ts : List Ti), (∀ t ∈ ts, TxOk t.1 ∧ TxOk t.2.1) → ∀ (acc : List (Key × Pd)) (e3 e4 e5 : Option DV), acc.length + ts.length < 1000000 → ∃ a b c, loopS (gT 3 (gsCons (gN 3) (gsCons (gN 4) (gsCons (gN 5) gsNil)))) (mIfS (mB (mOp2 eqD (mVar 3) (mVar 1))) (mSetI (mVar 5) (mVar 2) (mVar 4)) (mIfS (mB (mOp2 eqD (mVar 4) (mVar 1))) (mSetI (mVar 5) (mVar 2) (mVar 3)) mSkip)) (ts.map tiD) [some (.dat hd), some (.dat (.str x)), some (.obj (.dct acc)), e3, e4, e5] =
    some (.next, [some (.dat hd), some (.dat (.str x)), some (.obj (.dct (ts.foldl (mirStep x) acc))), a, b, c])
  | [], _, acc, e3, e4, e5, _ => ⟨e3, e4, e5, by simp [loopS]⟩
  | t :: ts, h, acc, e3, e4, e5, hz => by
    obtain ⟨h1, h2⟩ := h t List.mem_cons_self
    have hl := mirStep_len x acc t
    rw [List.length_cons] at hz
    obtain ⟨a, b, c, q⟩ := mir_loop hd x hx ts (fun y hy => h y (List.mem_cons_of_mem _ hy)) (mirStep x acc t) (some (.dat (.str t.1))) (some (.dat (.str t.2.1))) (some (.dat (.int t.2.2))) (by omega)
    refine ⟨a, b, c, ?_⟩
    rw [List.foldl_cons, ← q]
    have sz : acc.length < sizeLine := few (by omega)
    unfold mirStep
    by_cases e1 : t.1 = x
    · simp [loopS, tiD, runF, okArgs, em, mSeq, mIfS, mB, mOp2, mOp1, mPure, mCons, mVar, mC, mNil, frz1, looks, lookS, f1, f2, mSkip, mRet, mRetN, mDrop, gtD, geD, ltD, leD, isD, isnD, addD, subD, mulD, modD, fdivD, powD, negD, fOr, i2, i2c, mSub, finF, outR, outA, mSet, mSetI, toD, esc, escAll, setItemAt, dctAt, setAt, ixD, atI, ixN, setR, mTru, truS, truD, mAnd, mOr, mNot, mAndV, mOrV, mNotV, mIf, mTup, mLst, mAsg, gN, gT, gsCons, gsNil, mChain, mCall, escB, argsOf, slotsOf, putBack, iE, itemsD, mPar2, wipeE, restE, noOwn, mYes, lenD, absD, Mw.intD, listD, tupleD, mSl, oNone, oSome, slD, mMeth, lstAt, fAppend, mSetT, setTAt, mGetT, dttAt, mD0, mD0T, mPar3, noSlot, setN, mIn, isiD, tyD, isTy, eqD_int, neD_int, eqD_bool, neD_bool, eqD_ii, Mw.keyOf, mLc, mFor, mNeverS, revD, eqD_str h1 hx, e1, eqD_str hx hx, sz]
    · by_cases e2 : t.2.1 = x
      · simp [loopS, tiD, runF, okArgs, em, mSeq, mIfS, mB, mOp2, mOp1, mPure, mCons, mVar, mC, mNil, frz1, looks, lookS, f1, f2, mSkip, mRet, mRetN, mDrop, gtD, geD, ltD, leD, isD, isnD, addD, subD, mulD, modD, fdivD, powD, negD, fOr, i2, i2c, mSub, finF, outR, outA, mSet, mSetI, toD, esc, escAll, setItemAt, dctAt, setAt, ixD, atI, ixN, setR, mTru, truS, truD, mAnd, mOr, mNot, mAndV, mOrV, mNotV, mIf, mTup, mLst, mAsg, gN, gT, gsCons, gsNil, mChain, mCall, escB, argsOf, slotsOf, putBack, iE, itemsD, mPar2, wipeE, restE, noOwn, mYes, lenD, absD, Mw.intD, listD, tupleD, mSl, oNone, oSome, slD, mMeth, lstAt, fAppend, mSetT, setTAt, mGetT, dttAt, mD0, mD0T, mPar3, noSlot, setN, mIn, isiD, tyD, isTy, eqD_int, neD_int, eqD_bool, neD_bool, eqD_ii, Mw.keyOf, mLc, mFor, mNeverS, revD, eqD_str h1 hx, e1, eqD_str h2 hx, e2, eqD_str hx hx, sz]
      · simp [loopS, tiD, runF, okArgs, em, mSeq, mIfS, mB, mOp2, mOp1, mPure, mCons, mVar, mC, mNil, frz1, looks, lookS, f1, f2, mSkip, mRet, mRetN, mDrop, gtD, geD, ltD, leD, isD, isnD, addD, subD, mulD, modD, fdivD, powD, negD, fOr, i2, i2c, mSub, finF, outR, outA, mSet, mSetI, toD, esc, escAll, setItemAt, dctAt, setAt, ixD, atI, ixN, setR, mTru, truS, truD, mAnd, mOr, mNot, mAndV, mOrV, mNotV, mIf, mTup, mLst, mAsg, gN, gT, gsCons, gsNil, mChain, mCall, escB, argsOf, slotsOf, putBack, iE, itemsD, mPar2, wipeE, restE, noOwn, mYes, lenD, absD, Mw.intD, listD, tupleD, mSl, oNone, oSome, slD, mMeth, lstAt, fAppend, mSetT, setTAt, mGetT, dttAt, mD0, mD0T, mPar3, noSlot, setN, mIn, isiD, tyD, isTy, eqD_int, neD_int, eqD_bool, neD_bool, eqD_ii, Mw.keyOf, mLc, mFor, mNeverS, revD, eqD_str h1 hx, e1, eqD_str h2 hx, e2]
def mirs (ts : List Ti) (x : Str) : List (Key × Pd) := ts.foldl (mirStep x) []
theorem mirrors_at_spec (ts : List Ti) (x : Str) (h : ∀ t ∈ ts, TxOk t.1 ∧ TxOk t.2.1) (hx : TxOk x) (hz : ts.length < 1000000) : fm_mirrors_at [.dat (.tuple (ts.map tiD)), .dat (.str x)] = some (.new (.dct (mirs ts x)), [.dat (.tuple (ts.map tiD)), .dat (.str x)]) := by
  obtain ⟨a, b, c, q⟩ := mir_loop (.tuple (ts.map tiD)) x hx ts h [] none none none (by simpa using hz)
  unfold fm_mirrors_at m_mirrors_at mirs
  simp only [runF, okArgs]
  simp only [Mw.em, List.map_cons, List.map_nil, List.length_cons, List.length_nil, List.replicate, List.cons_append, List.nil_append, List.append]
  have e1 : iE (mVar 0) [some (.dat (.tuple (ts.map tiD))), some (.dat (.str x)), some (.obj (.dct [])), none, none, none] = some (ts.map tiD, [some (.dat (.tuple (ts.map tiD))), some (.dat (.str x)), some (.obj (.dct [])), none, none, none]) := by
    simp [runF, okArgs, em, mSeq, mIfS, mB, mOp2, mOp1, mPure, mCons, mVar, mC, mNil, frz1, looks, lookS, f1, f2, mSkip, mRet, mRetN, mDrop, gtD, geD, ltD, leD, isD, isnD, addD, subD, mulD, modD, fdivD, powD, negD, fOr, i2, i2c, mSub, finF, outR, outA, mSet, mSetI, toD, esc, escAll, setItemAt, dctAt, setAt, ixD, atI, ixN, setR, mTru, truS, truD, mAnd, mOr, mNot, mAndV, mOrV, mNotV, mIf, mTup, mLst, mAsg, gN, gT, gsCons, gsNil, mChain, mCall, escB, argsOf, slotsOf, putBack, iE, itemsD, mPar2, wipeE, restE, noOwn, mYes, lenD, absD, Mw.intD, listD, tupleD, mSl, oNone, oSome, slD, mMeth, lstAt, fAppend, mSetT, setTAt, mGetT, dttAt, mD0, mD0T, mPar3, noSlot, setN, mIn, isiD, tyD, isTy, eqD_int, neD_int, eqD_bool, neD_bool, eqD_ii, Mw.keyOf, mLc, mFor, mNeverS, revD]
  have e0 : mSet 2 mD0 [some (.dat (.tuple (ts.map tiD))), some (.dat (.str x)), none, none, none, none] = some (.next, [some (.dat (.tuple (ts.map tiD))), some (.dat (.str x)), some (.obj (.dct [])), none, none, none]) := by
    simp [runF, okArgs, em, mSeq, mIfS, mB, mOp2, mOp1, mPure, mCons, mVar, mC, mNil, frz1, looks, lookS, f1, f2, mSkip, mRet, mRetN, mDrop, gtD, geD, ltD, leD, isD, isnD, addD, subD, mulD, modD, fdivD, powD, negD, fOr, i2, i2c, mSub, finF, outR, outA, mSet, mSetI, toD, esc, escAll, setItemAt, dctAt, setAt, ixD, atI, ixN, setR, mTru, truS, truD, mAnd, mOr, mNot, mAndV, mOrV, mNotV, mIf, mTup, mLst, mAsg, gN, gT, gsCons, gsNil, mChain, mCall, escB, argsOf, slotsOf, putBack, iE, itemsD, mPar2, wipeE, restE, noOwn, mYes, lenD, absD, Mw.intD, listD, tupleD, mSl, oNone, oSome, slD, mMeth, lstAt, fAppend, mSetT, setTAt, mGetT, dttAt, mD0, mD0T, mPar3, noSlot, setN, mIn, isiD, tyD, isTy, eqD_int, neD_int, eqD_bool, neD_bool, eqD_ii, Mw.keyOf, mLc, mFor, mNeverS, revD]
  simp [mSeq, e0, mFor, e1, q]
  simp [runF, okArgs, em, mSeq, mIfS, mB, mOp2, mOp1, mPure, mCons, mVar, mC, mNil, frz1, looks, lookS, f1, f2, mSkip, mRet, mRetN, mDrop, gtD, geD, ltD, leD, isD, isnD, addD, subD, mulD, modD, fdivD, powD, negD, fOr, i2, i2c, mSub, finF, outR, outA, mSet, mSetI, toD, esc, escAll, setItemAt, dctAt, setAt, ixD, atI, ixN, setR, mTru, truS, truD, mAnd, mOr, mNot, mAndV, mOrV, mNotV, mIf, mTup, mLst, mAsg, gN, gT, gsCons, gsNil, mChain, mCall, escB, argsOf, slotsOf, putBack, iE, itemsD, mPar2, wipeE, restE, noOwn, mYes, lenD, absD, Mw.intD, listD, tupleD, mSl, oNone, oSome, slD, mMeth, lstAt, fAppend, mSetT, setTAt, mGetT, dttAt, mD0, mD0T, mPar3, noSlot, setN, mIn, isiD, tyD, isTy, eqD_int, neD_int, eqD_bool, neD_bool, eqD_ii, Mw.keyOf, mLc, mFor, mNeverS, revD]
/-- the mirror of the tie of x and y -/
def between (x y : Str) (t : Ti) : Bool := decide ((t.1 = x ∧ t.2.1 = y) ∨ (t.1 = y ∧ t.2.1 = x))
def adj (ts : List Ti) (x y : Str) : Option Int := (ts.find? (between x y)).map (·.2.2)
def Apart (s t : Ti) : Prop := ¬ ((s.1 = t.1 ∧ s.2.1 = t.2.1) ∨ (s.1 = t.2.1 ∧ s.2.1 = t.1))
theorem mirs_val (x y : Str) : ∀ (ts : List Ti), ts.Pairwise Apart → (∀ t ∈ ts, t.1 ≠ t.2.1) → ∀ acc, valP (ts.foldl (mirStep x) acc) (.inr y) = match adj ts x y with | some g => some (.int g) | none => valP acc (.inr y)
  | [], _, _, acc => rfl
  | t :: ts, hp, hn, acc => by
    have ht := hn t List.mem_cons_self
    rw [List.foldl_cons, mirs_val x y ts hp.of_cons (fun z hz => hn z (List.mem_cons_of_mem _ hz))]
    by_cases e : between x y t = true
    · have e1 : adj (t :: ts) x y = some t.2.2 := by simp [adj, List.find?_cons, e]
      have e2 : adj ts x y = none := by
        unfold adj
        rw [Option.map_eq_none_iff, List.find?_eq_none]
        intro s hs z
        have ap := List.rel_of_pairwise_cons hp hs
        unfold between at e z
        simp only [decide_eq_true_eq] at e z
        apply ap
        rcases e with ⟨e1, e2⟩ | ⟨e1, e2⟩ <;> rcases z with ⟨z1, z2⟩ | ⟨z1, z2⟩ <;> rw [e1, e2, z1, z2] <;> simp
      rw [e1, e2]
      unfold between at e
      simp only [decide_eq_true_eq] at e
      unfold mirStep
      rcases e with ⟨e1, e2⟩ | ⟨e1, e2⟩
      · rw [if_pos e1, e2]
        exact valP_put_same ..
      · have : ¬ t.1 = x := fun z => ht (z.trans e2.symm)
        rw [if_neg this, if_pos e2, e1]
        exact valP_put_same ..
    · have e1 : adj (t :: ts) x y = adj ts x y := by
        simp only [adj, List.find?_cons, Bool.eq_false_iff.mpr e]
      rw [e1]
      cases adj ts x y with
      | some g => rfl
      | none =>
        unfold between at e
        simp only [decide_eq_true_eq] at e
        dsimp only
        unfold mirStep
        by_cases h1 : t.1 = x
        · rw [if_pos h1]
          exact valP_put_ne _ _ _ _ fun z => e (.inl ⟨h1, Sum.inr.inj z⟩)
        · rw [if_neg h1]
          by_cases h2 : t.2.1 = x
          · rw [if_pos h2]
            exact valP_put_ne _ _ _ _ fun z => e (.inr ⟨Sum.inr.inj z, h2⟩)
          · rw [if_neg h2]
/-! ### turned_by -/
def turnP (w : Int) (m : Str → Option Int) (p : Pl) : Pl := match m p.1 with
  | some g => (p.1, 1 - p.2.1, cnt w (g - p.2.2))
  | none => p
theorem turned_by_spec (w : Int) (p : Pl) (kvs : List (Key × Pd)) (m : Str → Option Int) (h : valP kvs (.inr p.1) = (m p.1).map PyData.int) : fm_turned_by [.dat (.int w), .dat (plD p), .obj (.dct kvs)] = some (.dat (plD (turnP w m p)), [.dat (.int w), .dat (plD p), .obj (.dct kvs)]) := by
  unfold fm_turned_by m_turned_by turnP
  cases e : m p.1 with
  | none =>
    rw [e] at h
    simp [runF, okArgs, em, mSeq, mIfS, mB, mOp2, mOp1, mPure, mCons, mVar, mC, mNil, frz1, looks, lookS, f1, f2, mSkip, mRet, mRetN, mDrop, gtD, geD, ltD, leD, isD, isnD, addD, subD, mulD, modD, fdivD, powD, negD, fOr, i2, i2c, mSub, finF, outR, outA, mSet, mSetI, toD, esc, escAll, setItemAt, dctAt, setAt, ixD, atI, ixN, setR, mTru, truS, truD, mAnd, mOr, mNot, mAndV, mOrV, mNotV, mIf, mTup, mLst, mAsg, gN, gT, gsCons, gsNil, mChain, mCall, escB, argsOf, slotsOf, putBack, iE, itemsD, mPar2, wipeE, restE, noOwn, mYes, lenD, absD, Mw.intD, listD, tupleD, mSl, oNone, oSome, slD, mMeth, lstAt, fAppend, mSetT, setTAt, mGetT, dttAt, mD0, mD0T, mPar3, noSlot, setN, mIn, isiD, tyD, isTy, eqD_int, neD_int, eqD_bool, neD_bool, eqD_ii, Mw.keyOf, mLc, mFor, mNeverS, revD, plD, h]
  | some g =>
    rw [e] at h
    simp [runF, okArgs, em, mSeq, mIfS, mB, mOp2, mOp1, mPure, mCons, mVar, mC, mNil, frz1, looks, lookS, f1, f2, mSkip, mRet, mRetN, mDrop, gtD, geD, ltD, leD, isD, isnD, addD, subD, mulD, modD, fdivD, powD, negD, fOr, i2, i2c, mSub, finF, outR, outA, mSet, mSetI, toD, esc, escAll, setItemAt, dctAt, setAt, ixD, atI, ixN, setR, mTru, truS, truD, mAnd, mOr, mNot, mAndV, mOrV, mNotV, mIf, mTup, mLst, mAsg, gN, gT, gsCons, gsNil, mChain, mCall, escB, argsOf, slotsOf, putBack, iE, itemsD, mPar2, wipeE, restE, noOwn, mYes, lenD, absD, Mw.intD, listD, tupleD, mSl, oNone, oSome, slD, mMeth, lstAt, fAppend, mSetT, setTAt, mGetT, dttAt, mD0, mD0T, mPar3, noSlot, setN, mIn, isiD, tyD, isTy, eqD_int, neD_int, eqD_bool, neD_bool, eqD_ii, Mw.keyOf, mLc, mFor, mNeverS, revD, plD, h, mirrored_spec]
-- part d
theorem cut2 (a b c : PyData) : Mw.cutD [a, b, c] none (some 2) = [a, b] := rfl
theorem shaped_str {x : Str} (h : TxOk x) : SeqAt.shaped (.str x) = true := by simp [SeqAt.shaped, h, PyData.depth]
theorem shaped_ss {a b : Str} (ha : TxOk a) (hb : TxOk b) : SeqAt.shaped (.tuple [.str a, .str b]) = true := by
  have ha' : PyData.canLay0 (.str a) = true := ha
  have hb' : PyData.canLay0 (.str b) = true := hb
  simp [SeqAt.shaped, PyData.canLay0, PyData.canLayAll0, PyData.depth, PyData.depthAll] at *
  exact ⟨ha', hb'⟩
theorem notIn_ss {x a b : Str} (hx : TxOk x) (ha : TxOk a) (hb : TxOk b) : inD true (.str x) (.tuple [.str a, .str b]) = some (.dat (.bool (decide (a ≠ x ∧ b ≠ x)))) := by
  unfold inD
  simp only [shaped_str hx, shaped_ss ha hb, Bool.and_self, if_true]
  by_cases h1 : a = x <;> by_cases h2 : b = x <;> simp [PyData.eqv, h1, h2]
/-- a hall as it must be -/
structure WF (ps : List Pl) (ts : List Ti) : Prop where
  nd : (ps.map (·.1)).Nodup
  tx : ∀ p ∈ ps, TxOk p.1
  tt : ∀ t ∈ ts, TxOk t.1 ∧ TxOk t.2.1
  ne : ∀ t ∈ ts, t.1 ≠ t.2.1
  ap : ts.Pairwise Apart
  zp : ps.length < 1000
  zt : ts.length < 1000
def leftP (w : Int) (ps : List Pl) (ts : List Ti) (x : Str) : List Pl := (ps.filter fun p => decide (p.1 ≠ x)).map (turnP w (adj ts x))
def leftT (ts : List Ti) (x : Str) : List Ti := ts.filter fun t => decide (t.1 ≠ x ∧ t.2.1 ≠ x)
theorem turnP_fst (w : Int) (m : Str → Option Int) (p : Pl) : (turnP w m p).1 = p.1 := by
  unfold turnP
  split <;> rfl
theorem WF.gone {ps : List Pl} {ts : List Ti} (h : WF ps ts) (w : Int) (x : Str) : WF (leftP w ps ts x) (leftT ts x) := by
  have e : (leftP w ps ts x).map (·.1) = (ps.filter fun p => decide (p.1 ≠ x)).map (·.1) := by
    unfold leftP
    rw [List.map_map]
    exact List.map_congr_left fun p _ => turnP_fst w _ p
  refine ⟨?_, fun p hp => ?_, fun t ht => h.tt t (List.mem_filter.mp ht).1, fun t ht => h.ne t (List.mem_filter.mp ht).1, h.ap.filter _, ?_, ?_⟩
  · rw [e]
    exact List.Nodup.sublist (List.Sublist.map _ List.filter_sublist) h.nd
  · obtain ⟨q, hq, rfl⟩ := List.mem_map.mp hp
    rw [turnP_fst]
    exact h.tx q (List.mem_filter.mp hq).1
  · unfold leftP
    rw [List.length_map]
    exact Nat.lt_of_le_of_lt (List.length_filter_le _ _) h.zp
  · exact Nat.lt_of_le_of_lt (List.length_filter_le _ _) h.zt
theorem gone_spec (w : Int) (ps : List Pl) (ts : List Ti) (x : Str) (h : WF ps ts) (hx : TxOk x) (hf : cardOf ps x = some (1, 0)) :
    fm_gone [.dat (hallD w ps ts), .dat (.str x)] = some (.dat (hallD w (leftP w ps ts x) (leftT ts x)), [.dat (hallD w ps ts), .dat (.str x)]) := by
  have hc := card_of_spec w ps ts x h.tx hx
  rw [hf] at hc
  have hfr := is_free_spec 1 0
  have hm := mirrors_at_spec ts x h.tt hx (Nat.lt_of_lt_of_le h.zt (by decide))
  have hv : ∀ p : Pl, valP (mirs ts x) (.inr p.1) = (adj ts x p.1).map PyData.int := fun p => by
    unfold mirs
    rw [mirs_val x p.1 ts h.ap h.ne]
    cases adj ts x p.1 <;> rfl
  generalize hH : hallD w ps ts = HD at *
  have hH' : HD = .tuple [.int w, .tuple (ps.map plD), .tuple (ts.map tiD)] := hH.symm
  have s1 : mIfS (mNot (mTru (mCall [] fm_is_free (mCons (mCall [] fm_card_of (mCons (mVar 0) (mCons (mVar 1) mNil))) mNil)))) mNeverS mSkip [some (.dat HD), some (.dat (.str x)), none, none, none, none, none, none, none] = some (.next, [some (.dat HD), some (.dat (.str x)), none, none, none, none, none, none, none]) := by
    simp [runF, okArgs, em, mSeq, mIfS, mB, mOp2, mOp1, mPure, mCons, mVar, mC, mNil, frz1, looks, lookS, f1, f2, mSkip, mRet, mRetN, mDrop, gtD, geD, ltD, leD, isD, isnD, addD, subD, mulD, modD, fdivD, powD, negD, fOr, i2, i2c, mSub, finF, outR, outA, mSet, mSetI, toD, esc, escAll, setItemAt, dctAt, setAt, ixD, atI, ixN, setR, mTru, truS, truD, mAnd, mOr, mNot, mAndV, mOrV, mNotV, mIf, mTup, mLst, mAsg, gN, gT, gsCons, gsNil, mChain, mCall, escB, argsOf, slotsOf, putBack, iE, itemsD, mPar2, wipeE, restE, noOwn, mYes, lenD, absD, Mw.intD, listD, tupleD, mSl, oNone, oSome, slD, mMeth, lstAt, fAppend, mSetT, setTAt, mGetT, dttAt, mD0, mD0T, mPar3, noSlot, setN, mIn, isiD, tyD, isTy, eqD_int, neD_int, eqD_bool, neD_bool, eqD_ii, Mw.keyOf, mLc, mFor, mNeverS, revD, hc, cardD, is_free_spec, free]
  have s2 : mAsg (mVar 0) (gT 3 (gsCons (gN 2) (gsCons (gN 3) (gsCons (gN 4) gsNil)))) [some (.dat HD), some (.dat (.str x)), none, none, none, none, none, none, none] = some (.next, [some (.dat HD), some (.dat (.str x)), some (.dat (.int w)), some (.dat (.tuple (ps.map plD))), some (.dat (.tuple (ts.map tiD))), none, none, none, none]) := by
    simp [runF, okArgs, em, mSeq, mIfS, mB, mOp2, mOp1, mPure, mCons, mVar, mC, mNil, frz1, looks, lookS, f1, f2, mSkip, mRet, mRetN, mDrop, gtD, geD, ltD, leD, isD, isnD, addD, subD, mulD, modD, fdivD, powD, negD, fOr, i2, i2c, mSub, finF, outR, outA, mSet, mSetI, toD, esc, escAll, setItemAt, dctAt, setAt, ixD, atI, ixN, setR, mTru, truS, truD, mAnd, mOr, mNot, mAndV, mOrV, mNotV, mIf, mTup, mLst, mAsg, gN, gT, gsCons, gsNil, mChain, mCall, escB, argsOf, slotsOf, putBack, iE, itemsD, mPar2, wipeE, restE, noOwn, mYes, lenD, absD, Mw.intD, listD, tupleD, mSl, oNone, oSome, slD, mMeth, lstAt, fAppend, mSetT, setTAt, mGetT, dttAt, mD0, mD0T, mPar3, noSlot, setN, mIn, isiD, tyD, isTy, eqD_int, neD_int, eqD_bool, neD_bool, eqD_ii, Mw.keyOf, mLc, mFor, mNeverS, revD, hH']
  have s3 : mSet 5 (mCall [] fm_mirrors_at (mCons (mVar 4) (mCons (mVar 1) mNil))) [some (.dat HD), some (.dat (.str x)), some (.dat (.int w)), some (.dat (.tuple (ps.map plD))), some (.dat (.tuple (ts.map tiD))), none, none, none, none]
      = some (.next, [some (.dat HD), some (.dat (.str x)), some (.dat (.int w)), some (.dat (.tuple (ps.map plD))), some (.dat (.tuple (ts.map tiD))), some (.obj (.dct (mirs ts x))), none, none, none]) := by
    simp [runF, okArgs, em, mSeq, mIfS, mB, mOp2, mOp1, mPure, mCons, mVar, mC, mNil, frz1, looks, lookS, f1, f2, mSkip, mRet, mRetN, mDrop, gtD, geD, ltD, leD, isD, isnD, addD, subD, mulD, modD, fdivD, powD, negD, fOr, i2, i2c, mSub, finF, outR, outA, mSet, mSetI, toD, esc, escAll, setItemAt, dctAt, setAt, ixD, atI, ixN, setR, mTru, truS, truD, mAnd, mOr, mNot, mAndV, mOrV, mNotV, mIf, mTup, mLst, mAsg, gN, gT, gsCons, gsNil, mChain, mCall, escB, argsOf, slotsOf, putBack, iE, itemsD, mPar2, wipeE, restE, noOwn, mYes, lenD, absD, Mw.intD, listD, tupleD, mSl, oNone, oSome, slD, mMeth, lstAt, fAppend, mSetT, setTAt, mGetT, dttAt, mD0, mD0T, mPar3, noSlot, setN, mIn, isiD, tyD, isTy, eqD_int, neD_int, eqD_bool, neD_bool, eqD_ii, Mw.keyOf, mLc, mFor, mNeverS, revD, hm]
  have l1 : ∀ PD TD : PyData, loopC [7] (gN 7) (mB (mOp2 neD (mSub (mVar 7) (mC (.int 0))) (mVar 1))) (mCall [2] fm_turned_by (mCons (mVar 2) (mCons (mVar 7) (mCons (mVar 5) mNil)))) (ps.map plD) []
      [some (.dat HD), some (.dat (.str x)), some (.dat (.int w)), some (.dat PD), some (.dat TD), some (.obj (.dct (mirs ts x))), none, none, none]
      = some ((leftP w ps ts x).map plD, [some (.dat HD), some (.dat (.str x)), some (.dat (.int w)), some (.dat PD), some (.dat TD), some (.obj (.dct (mirs ts x))), none, none, none]) := by
    intro PD TD
    have := loopC_map (vs := [7]) (g := gN 7) (t := mB (mOp2 neD (mSub (mVar 7) (mC (.int 0))) (mVar 1))) (me := mCall [2] fm_turned_by (mCons (mVar 2) (mCons (mVar 7) (mCons (mVar 5) mNil)))) plD (fun p => decide (p.1 ≠ x)) (fun p => plD (turnP w (adj ts x) p)) [some (.dat HD), some (.dat (.str x)), some (.dat (.int w)), some (.dat PD), some (.dat TD), some (.obj (.dct (mirs ts x))), none, none, none] ps [] (by
      intro p hp
      have ht : mB (mOp2 neD (mSub (mVar 7) (mC (.int 0))) (mVar 1)) [some (.dat HD), some (.dat (.str x)), some (.dat (.int w)), some (.dat PD), some (.dat TD), some (.obj (.dct (mirs ts x))), none, some (.dat (plD p)), none] = some (decide (p.1 ≠ x), [some (.dat HD), some (.dat (.str x)), some (.dat (.int w)), some (.dat PD), some (.dat TD), some (.obj (.dct (mirs ts x))), none, some (.dat (plD p)), none]) := by
        simp [runF, okArgs, em, mSeq, mIfS, mB, mOp2, mOp1, mPure, mCons, mVar, mC, mNil, frz1, looks, lookS, f1, f2, mSkip, mRet, mRetN, mDrop, gtD, geD, ltD, leD, isD, isnD, addD, subD, mulD, modD, fdivD, powD, negD, fOr, i2, i2c, mSub, finF, outR, outA, mSet, mSetI, toD, esc, escAll, setItemAt, dctAt, setAt, ixD, atI, ixN, setR, mTru, truS, truD, mAnd, mOr, mNot, mAndV, mOrV, mNotV, mIf, mTup, mLst, mAsg, gN, gT, gsCons, gsNil, mChain, mCall, escB, argsOf, slotsOf, putBack, iE, itemsD, mPar2, wipeE, restE, noOwn, mYes, lenD, absD, Mw.intD, listD, tupleD, mSl, oNone, oSome, slD, mMeth, lstAt, fAppend, mSetT, setTAt, mGetT, dttAt, mD0, mD0T, mPar3, noSlot, setN, mIn, isiD, tyD, isTy, eqD_int, neD_int, eqD_bool, neD_bool, eqD_ii, Mw.keyOf, mLc, mFor, mNeverS, revD, plD, neD_str (h.tx p hp) hx]
      have he : mCall [2] fm_turned_by (mCons (mVar 2) (mCons (mVar 7) (mCons (mVar 5) mNil))) [some (.dat HD), some (.dat (.str x)), some (.dat (.int w)), some (.dat PD), some (.dat TD), some (.obj (.dct (mirs ts x))), none, some (.dat (plD p)), none] = some (.dat (plD (turnP w (adj ts x) p)), [some (.dat HD), some (.dat (.str x)), some (.dat (.int w)), some (.dat PD), some (.dat TD), some (.obj (.dct (mirs ts x))), none, some (.dat (plD p)), none]) := by
        simp [runF, okArgs, em, mSeq, mIfS, mB, mOp2, mOp1, mPure, mCons, mVar, mC, mNil, frz1, looks, lookS, f1, f2, mSkip, mRet, mRetN, mDrop, gtD, geD, ltD, leD, isD, isnD, addD, subD, mulD, modD, fdivD, powD, negD, fOr, i2, i2c, mSub, finF, outR, outA, mSet, mSetI, toD, esc, escAll, setItemAt, dctAt, setAt, ixD, atI, ixN, setR, mTru, truS, truD, mAnd, mOr, mNot, mAndV, mOrV, mNotV, mIf, mTup, mLst, mAsg, gN, gT, gsCons, gsNil, mChain, mCall, escB, argsOf, slotsOf, putBack, iE, itemsD, mPar2, wipeE, restE, noOwn, mYes, lenD, absD, Mw.intD, listD, tupleD, mSl, oNone, oSome, slD, mMeth, lstAt, fAppend, mSetT, setTAt, mGetT, dttAt, mD0, mD0T, mPar3, noSlot, setN, mIn, isiD, tyD, isTy, eqD_int, neD_int, eqD_bool, neD_bool, eqD_ii, Mw.keyOf, mLc, mFor, mNeverS, revD, turned_by_spec w p _ _ (hv p)]
      refine ⟨_, rfl, ?_⟩
      cases hd : decide (p.1 ≠ x) with
      | true =>
        rw [hd] at ht
        exact .inl ⟨rfl, _, _, _, _, ht, he, rfl, rfl⟩
      | false =>
        rw [hd] at ht
        exact .inr ⟨rfl, _, ht, rfl⟩)
    rw [this]
    simp [leftP]
  have l2 : ∀ (PD TD : PyData) (o6 : Option DV), loopC [8] (gN 8) (mB (mIn true (mVar 1) (mSl (mVar 8) oNone (oSome (mC (.int 2)))))) (mVar 8) (ts.map tiD) []
      [some (.dat HD), some (.dat (.str x)), some (.dat (.int w)), some (.dat PD), some (.dat TD), some (.obj (.dct (mirs ts x))), o6, none, none]
      = some ((leftT ts x).map tiD, [some (.dat HD), some (.dat (.str x)), some (.dat (.int w)), some (.dat PD), some (.dat TD), some (.obj (.dct (mirs ts x))), o6, none, none]) := by
    intro PD TD o6
    have := loopC_map (vs := [8]) (g := gN 8) (t := mB (mIn true (mVar 1) (mSl (mVar 8) oNone (oSome (mC (.int 2)))))) (me := mVar 8) tiD (fun t => decide (t.1 ≠ x ∧ t.2.1 ≠ x)) tiD [some (.dat HD), some (.dat (.str x)), some (.dat (.int w)), some (.dat PD), some (.dat TD), some (.obj (.dct (mirs ts x))), o6, none, none] ts [] (by
      intro t htm
      have ht : mB (mIn true (mVar 1) (mSl (mVar 8) oNone (oSome (mC (.int 2))))) [some (.dat HD), some (.dat (.str x)), some (.dat (.int w)), some (.dat PD), some (.dat TD), some (.obj (.dct (mirs ts x))), o6, none, some (.dat (tiD t))] = some (decide (t.1 ≠ x ∧ t.2.1 ≠ x), [some (.dat HD), some (.dat (.str x)), some (.dat (.int w)), some (.dat PD), some (.dat TD), some (.obj (.dct (mirs ts x))), o6, none, some (.dat (tiD t))]) := by
        simp [runF, okArgs, em, mSeq, mIfS, mB, mOp2, mOp1, mPure, mCons, mVar, mC, mNil, frz1, looks, lookS, f1, f2, mSkip, mRet, mRetN, mDrop, gtD, geD, ltD, leD, isD, isnD, addD, subD, mulD, modD, fdivD, powD, negD, fOr, i2, i2c, mSub, finF, outR, outA, mSet, mSetI, toD, esc, escAll, setItemAt, dctAt, setAt, ixD, atI, ixN, setR, mTru, truS, truD, mAnd, mOr, mNot, mAndV, mOrV, mNotV, mIf, mTup, mLst, mAsg, gN, gT, gsCons, gsNil, mChain, mCall, escB, argsOf, slotsOf, putBack, iE, itemsD, mPar2, wipeE, restE, noOwn, mYes, lenD, absD, Mw.intD, listD, tupleD, mSl, oNone, oSome, slD, mMeth, lstAt, fAppend, mSetT, setTAt, mGetT, dttAt, mD0, mD0T, mPar3, noSlot, setN, mIn, isiD, tyD, isTy, eqD_int, neD_int, eqD_bool, neD_bool, eqD_ii, Mw.keyOf, mLc, mFor, mNeverS, revD, tiD, cut2, notIn_ss hx (h.tt t htm).1 (h.tt t htm).2]
      refine ⟨_, rfl, ?_⟩
      cases hd : decide (t.1 ≠ x ∧ t.2.1 ≠ x) with
      | true =>
        rw [hd] at ht
        exact .inl ⟨rfl, _, _, _, _, ht, rfl, rfl, rfl⟩
      | false =>
        rw [hd] at ht
        exact .inr ⟨rfl, _, ht, rfl⟩)
    rw [this]
    simp [leftT]
  have zp : (ps.map plD).length < sizeLine := few (by rw [List.length_map]; exact Nat.lt_trans h.zp (by decide))
  have zt : (ts.map tiD).length < sizeLine := few (by rw [List.length_map]; exact Nat.lt_trans h.zt (by decide))
  unfold fm_gone m_gone
  simp only [runF, okArgs]
  simp only [Mw.em, List.map_cons, List.map_nil, List.length_cons, List.length_nil, List.replicate, List.cons_append, List.nil_append, List.append]
  have s4 : mSet 6 (mLc (iE (mVar 3)) [7] (gN 7) (mB (mOp2 neD (mSub (mVar 7) (mC (.int 0))) (mVar 1))) (mCall [2] fm_turned_by (mCons (mVar 2) (mCons (mVar 7) (mCons (mVar 5) mNil))))) [some (.dat HD), some (.dat (.str x)), some (.dat (.int w)), some (.dat (.tuple (ps.map plD))), some (.dat (.tuple (ts.map tiD))), some (.obj (.dct (mirs ts x))), none, none, none]
      = some (.next, [some (.dat HD), some (.dat (.str x)), some (.dat (.int w)), some (.dat (.tuple (ps.map plD))), some (.dat (.tuple (ts.map tiD))), some (.obj (.dct (mirs ts x))), some (.obj (.lst ((leftP w ps ts x).map plD))), none, none]) := by
    unfold mSet
    rw [mLc_ev (ρ1 := [some (.dat HD), some (.dat (.str x)), some (.dat (.int w)), some (.dat (.tuple (ps.map plD))), some (.dat (.tuple (ts.map tiD))), some (.obj (.dct (mirs ts x))), none, none, none]) (by simp [runF, okArgs, em, mSeq, mIfS, mB, mOp2, mOp1, mPure, mCons, mVar, mC, mNil, frz1, looks, lookS, f1, f2, mSkip, mRet, mRetN, mDrop, gtD, geD, ltD, leD, isD, isnD, addD, subD, mulD, modD, fdivD, powD, negD, fOr, i2, i2c, mSub, finF, outR, outA, mSet, mSetI, toD, esc, escAll, setItemAt, dctAt, setAt, ixD, atI, ixN, setR, mTru, truS, truD, mAnd, mOr, mNot, mAndV, mOrV, mNotV, mIf, mTup, mLst, mAsg, gN, gT, gsCons, gsNil, mChain, mCall, escB, argsOf, slotsOf, putBack, iE, itemsD, mPar2, wipeE, restE, noOwn, mYes, lenD, absD, Mw.intD, listD, tupleD, mSl, oNone, oSome, slD, mMeth, lstAt, fAppend, mSetT, setTAt, mGetT, dttAt, mD0, mD0T, mPar3, noSlot, setN, mIn, isiD, tyD, isTy, eqD_int, neD_int, eqD_bool, neD_bool, eqD_ii, Mw.keyOf, mLc, mFor, mNeverS, revD]) zp rfl (l1 _ _)]
    simp [setR, restE]
  have s5 : mRet (mTup (mCons (mVar 2) (mCons (mOp1 tupleD (mVar 6)) (mCons (mOp1 tupleD (mLc (iE (mVar 4)) [8] (gN 8) (mB (mIn true (mVar 1) (mSl (mVar 8) oNone (oSome (mC (.int 2)))))) (mVar 8))) mNil)))) [some (.dat HD), some (.dat (.str x)), some (.dat (.int w)), some (.dat (.tuple (ps.map plD))), some (.dat (.tuple (ts.map tiD))), some (.obj (.dct (mirs ts x))), some (.obj (.lst ((leftP w ps ts x).map plD))), none, none]
      = some (.ret (.dat (hallD w (leftP w ps ts x) (leftT ts x))), [some (.dat HD), some (.dat (.str x)), some (.dat (.int w)), some (.dat (.tuple (ps.map plD))), some (.dat (.tuple (ts.map tiD))), some (.obj (.dct (mirs ts x))), some (.obj (.lst ((leftP w ps ts x).map plD))), none, none]) := by
    have lc := mLc_ev (mi := iE (mVar 4)) (vs := [8]) (g := gN 8) (t := mB (mIn true (mVar 1) (mSl (mVar 8) oNone (oSome (mC (.int 2)))))) (me := mVar 8) (ρ := [some (.dat HD), some (.dat (.str x)), some (.dat (.int w)), some (.dat (.tuple (ps.map plD))), some (.dat (.tuple (ts.map tiD))), some (.obj (.dct (mirs ts x))), some (.obj (.lst ((leftP w ps ts x).map plD))), none, none]) (ρ1 := [some (.dat HD), some (.dat (.str x)), some (.dat (.int w)), some (.dat (.tuple (ps.map plD))), some (.dat (.tuple (ts.map tiD))), some (.obj (.dct (mirs ts x))), some (.obj (.lst ((leftP w ps ts x).map plD))), none, none]) (by simp [runF, okArgs, em, mSeq, mIfS, mB, mOp2, mOp1, mPure, mCons, mVar, mC, mNil, frz1, looks, lookS, f1, f2, mSkip, mRet, mRetN, mDrop, gtD, geD, ltD, leD, isD, isnD, addD, subD, mulD, modD, fdivD, powD, negD, fOr, i2, i2c, mSub, finF, outR, outA, mSet, mSetI, toD, esc, escAll, setItemAt, dctAt, setAt, ixD, atI, ixN, setR, mTru, truS, truD, mAnd, mOr, mNot, mAndV, mOrV, mNotV, mIf, mTup, mLst, mAsg, gN, gT, gsCons, gsNil, mChain, mCall, escB, argsOf, slotsOf, putBack, iE, itemsD, mPar2, wipeE, restE, noOwn, mYes, lenD, absD, Mw.intD, listD, tupleD, mSl, oNone, oSome, slD, mMeth, lstAt, fAppend, mSetT, setTAt, mGetT, dttAt, mD0, mD0T, mPar3, noSlot, setN, mIn, isiD, tyD, isTy, eqD_int, neD_int, eqD_bool, neD_bool, eqD_ii, Mw.keyOf, mLc, mFor, mNeverS, revD]) zt rfl (l2 _ _ _)
    generalize mLc (iE (mVar 4)) [8] (gN 8) (mB (mIn true (mVar 1) (mSl (mVar 8) oNone (oSome (mC (.int 2)))))) (mVar 8) = M at lc ⊢
    simp [mRet, mTup, mCons, mVar, mNil, mOp1, mPure, frz1, looks, lookS, f1, tupleD, lc, restE, escAll, esc, hallD]
  simp only [mSeq, s1, s2, s3, s4, s5]
  simp [finF, outR, outA]
-- part e
/-- a row of goings -/
inductive Run (w : Int) : List Pl → List Ti → List Str → List Pl → List Ti → Prop
  | nil {ps : List Pl} {ts : List Ti} : Run w ps ts [] ps ts
  | cons {ps ps' : List Pl} {ts ts' : List Ti} {x : Str} {r : List Str} : TxOk x → cardOf ps x = some (1, 0) → Run w (leftP w ps ts x) (leftT ts x) r ps' ts' → Run w ps ts (x :: r) ps' ts'
theorem Run.wf {w : Int} {ps ps' : List Pl} {ts ts' : List Ti} {r : List Str} (h : Run w ps ts r ps' ts') (q : WF ps ts) : WF ps' ts' := by
  induction h with
  | nil => exact q
  | cons _ _ _ ih => exact ih (q.gone w _)
theorem Run.snoc {w : Int} {ps ps' : List Pl} {ts ts' : List Ti} {r : List Str} (h : Run w ps ts r ps' ts') {x : Str} (hx : TxOk x) (hf : cardOf ps' x = some (1, 0)) : Run w ps ts (r ++ [x]) (leftP w ps' ts' x) (leftT ts' x) := by
  induction h with
  | nil => exact .cons hx hf .nil
  | cons h1 h2 _ ih => exact .cons h1 h2 (ih hf)
theorem behind_loop (w : Int) (R : Option DV) {ps ps' : List Pl} {ts ts' : List Ti} {r : List Str} (h : Run w ps ts r ps' ts') : WF ps ts → ∀ e2, ∃ a, loopS (gN 2) (mSet 0 (mCall [] fm_gone (mCons (mVar 0) (mCons (mVar 2) mNil)))) (r.map PyData.str) [some (.dat (hallD w ps ts)), R, e2] = some (.next, [some (.dat (hallD w ps' ts')), R, a]) := by
  induction h with
  | nil => exact fun _ e2 => ⟨e2, rfl⟩
  | @cons ps ps' ts ts' x r h1 h2 _ ih =>
    intro q e2
    obtain ⟨a, e⟩ := ih (q.gone w x) (some (.dat (.str x)))
    refine ⟨a, ?_⟩
    rw [List.map_cons, ← e]
    simp [loopS, runF, okArgs, em, mSeq, mIfS, mB, mOp2, mOp1, mPure, mCons, mVar, mC, mNil, frz1, looks, lookS, f1, f2, mSkip, mRet, mRetN, mDrop, gtD, geD, ltD, leD, isD, isnD, addD, subD, mulD, modD, fdivD, powD, negD, fOr, i2, i2c, mSub, finF, outR, outA, mSet, mSetI, toD, esc, escAll, setItemAt, dctAt, setAt, ixD, atI, ixN, setR, mTru, truS, truD, mAnd, mOr, mNot, mAndV, mOrV, mNotV, mIf, mTup, mLst, mAsg, gN, gT, gsCons, gsNil, mChain, mCall, escB, argsOf, slotsOf, putBack, iE, itemsD, mPar2, wipeE, restE, noOwn, mYes, lenD, absD, Mw.intD, listD, tupleD, mSl, oNone, oSome, slD, mMeth, lstAt, fAppend, mSetT, setTAt, mGetT, dttAt, mD0, mD0T, mPar3, noSlot, setN, mIn, isiD, tyD, isTy, eqD_int, neD_int, eqD_bool, neD_bool, eqD_ii, Mw.keyOf, mLc, mFor, mNeverS, revD, gone_spec w ps ts x q h1 h2]
theorem behind_spec (w : Int) {ps ps' : List Pl} {ts ts' : List Ti} {r : List Str} (h : Run w ps ts r ps' ts') (q : WF ps ts) (R : PyData) (hR : R = .list (r.map PyData.str) ∨ R = .tuple (r.map PyData.str)) : fm_behind [.dat (hallD w ps ts), .dat R] = some (.dat (hallD w ps' ts'), [.dat (hallD w ps ts), .dat R]) := by
  obtain ⟨a, e⟩ := behind_loop w (some (.dat R)) h q none
  have e1 : iE (mVar 1) [some (.dat (hallD w ps ts)), some (.dat R), none] = some (r.map PyData.str, [some (.dat (hallD w ps ts)), some (.dat R), none]) := by
    rcases hR with rfl | rfl <;> simp [runF, okArgs, em, mSeq, mIfS, mB, mOp2, mOp1, mPure, mCons, mVar, mC, mNil, frz1, looks, lookS, f1, f2, mSkip, mRet, mRetN, mDrop, gtD, geD, ltD, leD, isD, isnD, addD, subD, mulD, modD, fdivD, powD, negD, fOr, i2, i2c, mSub, finF, outR, outA, mSet, mSetI, toD, esc, escAll, setItemAt, dctAt, setAt, ixD, atI, ixN, setR, mTru, truS, truD, mAnd, mOr, mNot, mAndV, mOrV, mNotV, mIf, mTup, mLst, mAsg, gN, gT, gsCons, gsNil, mChain, mCall, escB, argsOf, slotsOf, putBack, iE, itemsD, mPar2, wipeE, restE, noOwn, mYes, lenD, absD, Mw.intD, listD, tupleD, mSl, oNone, oSome, slD, mMeth, lstAt, fAppend, mSetT, setTAt, mGetT, dttAt, mD0, mD0T, mPar3, noSlot, setN, mIn, isiD, tyD, isTy, eqD_int, neD_int, eqD_bool, neD_bool, eqD_ii, Mw.keyOf, mLc, mFor, mNeverS, revD]
  unfold fm_behind m_behind
  simp only [runF, okArgs]
  simp only [Mw.em, List.map_cons, List.map_nil, List.length_cons, List.length_nil, List.replicate, List.cons_append, List.nil_append, List.append]
  generalize hallD w ps ts = A at *
  simp [mSeq, mFor, e1, e]
  simp [runF, okArgs, em, mSeq, mIfS, mB, mOp2, mOp1, mPure, mCons, mVar, mC, mNil, frz1, looks, lookS, f1, f2, mSkip, mRet, mRetN, mDrop, gtD, geD, ltD, leD, isD, isnD, addD, subD, mulD, modD, fdivD, powD, negD, fOr, i2, i2c, mSub, finF, outR, outA, mSet, mSetI, toD, esc, escAll, setItemAt, dctAt, setAt, ixD, atI, ixN, setR, mTru, truS, truD, mAnd, mOr, mNot, mAndV, mOrV, mNotV, mIf, mTup, mLst, mAsg, gN, gT, gsCons, gsNil, mChain, mCall, escB, argsOf, slotsOf, putBack, iE, itemsD, mPar2, wipeE, restE, noOwn, mYes, lenD, absD, Mw.intD, listD, tupleD, mSl, oNone, oSome, slD, mMeth, lstAt, fAppend, mSetT, setTAt, mGetT, dttAt, mD0, mD0T, mPar3, noSlot, setN, mIn, isiD, tyD, isTy, eqD_int, neD_int, eqD_bool, neD_bool, eqD_ii, Mw.keyOf, mLc, mFor, mNeverS, revD]
/-! ### what a row leaves, at once -/
theorem cnt_cnt (w g m : Int) : cnt w (g - cnt w m) = cnt w (g - m) := by
  unfold cnt
  split
  · rfl
  · rename_i h
    rw [Int.sub_fmod, Int.fmod_fmod, ← Int.sub_fmod]
def tn (w : Int) (ts : List Ti) (p : Pl) (x : Str) : Pl := turnP w (adj ts x) p
theorem tn_fst (w : Int) (ts : List Ti) (p : Pl) (x : Str) : (tn w ts p x).1 = p.1 := turnP_fst ..
theorem tns_fst (w : Int) (ts : List Ti) : ∀ (path : List Str) (p : Pl), (path.foldl (tn w ts) p).1 = p.1
  | [], _ => rfl
  | x :: r, p => by rw [List.foldl_cons, tns_fst w ts r, tn_fst]
def psAt (w : Int) (ps : List Pl) (ts : List Ti) (path : List Str) : List Pl := (ps.filter fun p => decide (p.1 ∉ path)).map fun p => path.foldl (tn w ts) p
def tsAt (ts : List Ti) (path : List Str) : List Ti := ts.filter fun t => decide (t.1 ∉ path ∧ t.2.1 ∉ path)
theorem adj_at (ts : List Ti) (path : List Str) (x y : Str) (hx : x ∉ path) (hy : y ∉ path) : adj (tsAt ts path) x y = adj ts x y := by
  unfold adj tsAt
  rw [List.find?_filter]
  congr 2
  funext t
  unfold between
  by_cases h : (t.1 = x ∧ t.2.1 = y) ∨ (t.1 = y ∧ t.2.1 = x)
  · have : t.1 ∉ path ∧ t.2.1 ∉ path := by
      rcases h with ⟨h1, h2⟩ | ⟨h1, h2⟩ <;> rw [h1, h2]
      · exact ⟨hx, hy⟩
      · exact ⟨hy, hx⟩
    simp [h, this]
  · simp [h]
theorem leftT_at (ts : List Ti) (path : List Str) (x : Str) : leftT (tsAt ts path) x = tsAt ts (path ++ [x]) := by
  unfold leftT tsAt
  rw [List.filter_filter]
  congr 1
  funext t
  simp only [List.mem_append, List.mem_singleton, not_or]
  by_cases h1 : t.1 ∈ path <;> by_cases h2 : t.2.1 ∈ path <;> by_cases h3 : t.1 = x <;> by_cases h4 : t.2.1 = x <;> simp [h1, h2, h3, h4]
theorem leftP_at (w : Int) (ps : List Pl) (ts : List Ti) (path : List Str) (x : Str) (hx : x ∉ path) : leftP w (psAt w ps ts path) (tsAt ts path) x = psAt w ps ts (path ++ [x]) := by
  unfold leftP psAt
  rw [List.filter_map, List.filter_filter, List.map_map]
  have e : (ps.filter fun a => ((fun p => decide (p.1 ≠ x)) ∘ fun p => path.foldl (tn w ts) p) a && decide (a.1 ∉ path)) = ps.filter fun p => decide (p.1 ∉ path ++ [x]) := by
    congr 1
    funext p
    simp only [Function.comp, tns_fst, List.mem_append, List.mem_singleton, not_or]
    by_cases h1 : p.1 ∈ path <;> by_cases h2 : p.1 = x <;> simp [h1, h2]
  rw [e]
  refine List.map_congr_left fun p hp => ?_
  have hp' := (List.mem_filter.mp hp).2
  simp only [List.mem_append, List.mem_singleton, not_or, decide_eq_true_eq] at hp'
  simp only [Function.comp, List.foldl_append, List.foldl_cons, List.foldl_nil]
  have hq := tns_fst w ts path p
  generalize path.foldl (tn w ts) p = q at hq ⊢
  unfold tn turnP
  rw [hq, adj_at ts path x p.1 hx hp'.1]
theorem cardOf_mem {ps : List Pl} {x : Str} {c : Int × Int} (h : cardOf ps x = some c) : (x, c.1, c.2) ∈ ps := by
  unfold cardOf at h
  obtain ⟨p, h1, rfl⟩ := Option.map_eq_some_iff.mp h
  have h2 := List.find?_some h1
  simp only [decide_eq_true_eq] at h2
  subst h2
  exact List.mem_of_find?_eq_some h1
theorem mem_psAt {w : Int} {ps : List Pl} {ts : List Ti} {path : List Str} {q : Pl} (h : q ∈ psAt w ps ts path) : ∃ p ∈ ps, p.1 ∉ path ∧ q = path.foldl (tn w ts) p ∧ q.1 = p.1 := by
  obtain ⟨p, hp, rfl⟩ := List.mem_map.mp h
  obtain ⟨h1, h2⟩ := List.mem_filter.mp hp
  exact ⟨p, h1, by simpa using h2, rfl, tns_fst w ts path p⟩
theorem cardOf_at_notin {w : Int} {ps : List Pl} {ts : List Ti} {path : List Str} {x : Str} {c : Int × Int} (h : cardOf (psAt w ps ts path) x = some c) : x ∉ path := by
  obtain ⟨p, _, h2, _, h4⟩ := mem_psAt (cardOf_mem h)
  exact (show x = p.1 from h4) ▸ h2
/-- what stands behind a row that goes -/
theorem Run.at {w : Int} {ps0 ps' : List Pl} {ts0 ts' : List Ti} {r : List Str} : ∀ (path : List Str), Run w (psAt w ps0 ts0 path) (tsAt ts0 path) r ps' ts' → ps' = psAt w ps0 ts0 (path ++ r) ∧ ts' = tsAt ts0 (path ++ r) := by
  induction r with
  | nil =>
    intro path h
    cases h
    simp
  | cons x r ih =>
    intro path h
    cases h with
    | cons h1 h2 h3 =>
      have hx := cardOf_at_notin h2
      rw [leftP_at w ps0 ts0 path x hx, leftT_at] at h3
      have := ih (path ++ [x]) h3
      simpa using this
theorem psAt_nil (w : Int) (ps : List Pl) (ts : List Ti) : psAt w ps ts [] = ps := by simp [psAt]
theorem tsAt_nil (ts : List Ti) : tsAt ts [] = ts := by simp [tsAt]
theorem Run.now {w : Int} {ps0 ps' : List Pl} {ts0 ts' : List Ti} {r : List Str} (h : Run w ps0 ts0 r ps' ts') : ps' = psAt w ps0 ts0 r ∧ ts' = tsAt ts0 r := by
  have := Run.at (w := w) (ps0 := ps0) (ts0 := ts0) (r := r) (ps' := ps') (ts' := ts') [] (by rw [psAt_nil, tsAt_nil]; exact h)
  simpa using this
/-! ### the card behind a row, by the mirrors -/
def alt (n : Int) : List Int → Int := List.foldl (fun acc g => g - acc) n
def gls (ts : List Ti) (path : List Str) (y : Str) : List Int := path.filterMap fun x => adj ts x y
theorem tns_eq (w : Int) (ts : List Ti) : ∀ (path : List Str) (y : Str) (f n m : Int), n = cnt w m → path.foldl (tn w ts) (y, f, n) = (y, (gls ts path y).foldl (fun a _ => 1 - a) f, cnt w (alt m (gls ts path y)))
  | [], y, f, n, m, h => by simp [gls, alt, h]
  | x :: r, y, f, n, m, h => by
    rw [List.foldl_cons]
    unfold gls
    rw [List.filterMap_cons]
    cases e : adj ts x y with
    | none =>
      have : tn w ts (y, f, n) x = (y, f, n) := by simp [tn, turnP, e]
      rw [this, tns_eq w ts r y f n m h]
      rfl
    | some g =>
      have : tn w ts (y, f, n) x = (y, 1 - f, cnt w (g - n)) := by simp [tn, turnP, e]
      rw [this, tns_eq w ts r y (1 - f) (cnt w (g - n)) (g - m) (by rw [h, cnt_cnt])]
      rfl
theorem face_eq (f : Int) (h : f = 0 ∨ f = 1) : ∀ (l : List Int), l.foldl (fun a _ => 1 - a) f = (f + l.length).fmod 2 := by
  intro l
  rw [Int.fmod_eq_emod_of_nonneg _ (by decide)]
  induction l generalizing f with
  | nil => rcases h with rfl | rfl <;> simp
  | cons g r ih =>
    rw [List.foldl_cons, ih (1 - f) (by omega), List.length_cons]
    omega
-- part f
/-! ### beside -/
abbrev Pr := Str × Int
def prD (p : Pr) : PyData := .tuple [.str p.1, .int p.2]
def besideL (ts : List Ti) (x : Str) : List Pr := ((ts.filter fun t => decide (t.1 = x)).map fun t => (t.2.1, t.2.2)) ++ ((ts.filter fun t => decide (t.2.1 = x)).map fun t => (t.1, t.2.2))
theorem mem_beside {ts : List Ti} {x y : Str} {g : Int} : (y, g) ∈ besideL ts x ↔ ∃ t ∈ ts, between x y t = true ∧ t.2.2 = g := by
  unfold besideL between
  simp only [List.mem_append, List.mem_map, List.mem_filter, decide_eq_true_eq, Prod.mk.injEq]
  constructor
  · rintro (⟨t, ⟨h1, h2⟩, h3, h4⟩ | ⟨t, ⟨h1, h2⟩, h3, h4⟩)
    · exact ⟨t, h1, .inl ⟨h2, h3⟩, h4⟩
    · exact ⟨t, h1, .inr ⟨h3, h2⟩, h4⟩
  · rintro ⟨t, h1, ⟨h2, h3⟩ | ⟨h2, h3⟩, h4⟩
    · exact .inl ⟨t, ⟨h1, h2⟩, h3, h4⟩
    · exact .inr ⟨t, ⟨h1, h3⟩, h2, h4⟩
theorem alike_pr (a b : Pr) : PySem.W.alike (prD a) (prD b) = true := by simp [prD, PySem.W.alike, PySem.W.alikeAll]
theorem depth_pr (a : Pr) : (prD a).depth ≤ 62 := by simp [prD, PyData.depth, PyData.depthAll]
theorem lay_pr {a : Pr} (h : TxOk a.1) : (prD a).canLay0 = true := by
  have h' : PyData.canLay0 (.str a.1) = true := h
  simp [prD, PyData.canLay0, PyData.canLayAll0] at h' ⊢
  exact h'
theorem beside_spec (ts : List Ti) (x : Str) (h : ∀ t ∈ ts, TxOk t.1 ∧ TxOk t.2.1) (hx : TxOk x) (hz : ts.length < 1000) (R : PyData) (hR : R = .list (ts.map tiD) ∨ R = .tuple (ts.map tiD)) :
    ∃ cs : List Pr, cs.Perm (besideL ts x) ∧ fm__law_beside [.dat R, .dat (.str x)] = some (.new (.lst (cs.map prD)), [.dat R, .dat (.str x)]) := by
  have hlen : (besideL ts x).length ≤ 2 * ts.length := by
    unfold besideL
    rw [List.length_append, List.length_map, List.length_map]
    have := List.length_filter_le (fun t : Ti => decide (t.1 = x)) ts
    have := List.length_filter_le (fun t : Ti => decide (t.2.1 = x)) ts
    omega
  have htx : ∀ p ∈ besideL ts x, TxOk p.1 := by
    rintro ⟨y, g⟩ hp
    obtain ⟨t, h1, h2, h3⟩ := mem_beside.mp hp
    unfold between at h2
    simp only [decide_eq_true_eq] at h2
    rcases h2 with ⟨_, e⟩ | ⟨e, _⟩
    · exact e ▸ (h t h1).2
    · exact e ▸ (h t h1).1
  obtain ⟨cs, hp, hs⟩ := sorted_ev prD (besideL ts x) alike_pr (fun b => ⟨_, _, rfl⟩) (fun b hb => lay_pr (htx b hb)) depth_pr (Nat.le_of_lt (few (by omega)))
  refine ⟨cs, hp, ?_⟩
  have e1 : iE (mVar 0) [some (.dat R), some (.dat (.str x)), none, none, none, none] = some (ts.map tiD, [some (.dat R), some (.dat (.str x)), none, none, none, none]) := by
    rcases hR with rfl | rfl <;> simp [runF, okArgs, em, mSeq, mIfS, mB, mOp2, mOp1, mPure, mCons, mVar, mC, mNil, frz1, looks, lookS, f1, f2, mSkip, mRet, mRetN, mDrop, gtD, geD, ltD, leD, isD, isnD, addD, subD, mulD, modD, fdivD, powD, negD, fOr, i2, i2c, mSub, finF, outR, outA, mSet, mSetI, toD, esc, escAll, setItemAt, dctAt, setAt, ixD, atI, ixN, setR, mTru, truS, truD, mAnd, mOr, mNot, mAndV, mOrV, mNotV, mIf, mTup, mLst, mAsg, gN, gT, gsCons, gsNil, mChain, mCall, escB, argsOf, slotsOf, putBack, iE, itemsD, mPar2, wipeE, restE, noOwn, mYes, lenD, absD, Mw.intD, listD, tupleD, mSl, oNone, oSome, slD, mMeth, lstAt, fAppend, mSetT, setTAt, mGetT, dttAt, mD0, mD0T, mPar3, noSlot, setN, mIn, isiD, tyD, isTy, eqD_int, neD_int, eqD_bool, neD_bool, eqD_ii, Mw.keyOf, mLc, mFor, mNeverS, revD]
  have zt : (ts.map tiD).length < sizeLine := few (by rw [List.length_map]; omega)
  have l1 : loopC [3, 4, 5] (gT 3 (gsCons (gN 3) (gsCons (gN 4) (gsCons (gN 5) gsNil)))) (mB (mOp2 eqD (mVar 3) (mVar 1))) (mTup (mCons (mVar 4) (mCons (mVar 5) mNil))) (ts.map tiD) [] [some (.dat R), some (.dat (.str x)), none, none, none, none]
      = some (((ts.filter fun t => decide (t.1 = x)).map fun t => (t.2.1, t.2.2)).map prD, [some (.dat R), some (.dat (.str x)), none, none, none, none]) := by
    have := loopC_map (vs := [3, 4, 5]) (g := gT 3 (gsCons (gN 3) (gsCons (gN 4) (gsCons (gN 5) gsNil)))) (t := mB (mOp2 eqD (mVar 3) (mVar 1))) (me := mTup (mCons (mVar 4) (mCons (mVar 5) mNil))) tiD (fun t => decide (t.1 = x)) (fun t => prD (t.2.1, t.2.2)) [some (.dat R), some (.dat (.str x)), none, none, none, none] ts [] (by
      intro t htm
      have ht : mB (mOp2 eqD (mVar 3) (mVar 1)) [some (.dat R), some (.dat (.str x)), none, some (.dat (.str t.1)), some (.dat (.str t.2.1)), some (.dat (.int t.2.2))] = some (decide (t.1 = x), [some (.dat R), some (.dat (.str x)), none, some (.dat (.str t.1)), some (.dat (.str t.2.1)), some (.dat (.int t.2.2))]) := by
        simp [runF, okArgs, em, mSeq, mIfS, mB, mOp2, mOp1, mPure, mCons, mVar, mC, mNil, frz1, looks, lookS, f1, f2, mSkip, mRet, mRetN, mDrop, gtD, geD, ltD, leD, isD, isnD, addD, subD, mulD, modD, fdivD, powD, negD, fOr, i2, i2c, mSub, finF, outR, outA, mSet, mSetI, toD, esc, escAll, setItemAt, dctAt, setAt, ixD, atI, ixN, setR, mTru, truS, truD, mAnd, mOr, mNot, mAndV, mOrV, mNotV, mIf, mTup, mLst, mAsg, gN, gT, gsCons, gsNil, mChain, mCall, escB, argsOf, slotsOf, putBack, iE, itemsD, mPar2, wipeE, restE, noOwn, mYes, lenD, absD, Mw.intD, listD, tupleD, mSl, oNone, oSome, slD, mMeth, lstAt, fAppend, mSetT, setTAt, mGetT, dttAt, mD0, mD0T, mPar3, noSlot, setN, mIn, isiD, tyD, isTy, eqD_int, neD_int, eqD_bool, neD_bool, eqD_ii, Mw.keyOf, mLc, mFor, mNeverS, revD, eqD_str (h t htm).1 hx]
      refine ⟨_, rfl, ?_⟩
      cases hd : decide (t.1 = x) with
      | true =>
        rw [hd] at ht
        exact .inl ⟨rfl, _, _, _, _, ht, rfl, rfl, rfl⟩
      | false =>
        rw [hd] at ht
        exact .inr ⟨rfl, _, ht, rfl⟩)
    rw [this]
    simp
  have l2 : loopC [3, 4, 5] (gT 3 (gsCons (gN 3) (gsCons (gN 4) (gsCons (gN 5) gsNil)))) (mB (mOp2 eqD (mVar 4) (mVar 1))) (mTup (mCons (mVar 3) (mCons (mVar 5) mNil))) (ts.map tiD) [] [some (.dat R), some (.dat (.str x)), none, none, none, none]
      = some (((ts.filter fun t => decide (t.2.1 = x)).map fun t => (t.1, t.2.2)).map prD, [some (.dat R), some (.dat (.str x)), none, none, none, none]) := by
    have := loopC_map (vs := [3, 4, 5]) (g := gT 3 (gsCons (gN 3) (gsCons (gN 4) (gsCons (gN 5) gsNil)))) (t := mB (mOp2 eqD (mVar 4) (mVar 1))) (me := mTup (mCons (mVar 3) (mCons (mVar 5) mNil))) tiD (fun t => decide (t.2.1 = x)) (fun t => prD (t.1, t.2.2)) [some (.dat R), some (.dat (.str x)), none, none, none, none] ts [] (by
      intro t htm
      have ht : mB (mOp2 eqD (mVar 4) (mVar 1)) [some (.dat R), some (.dat (.str x)), none, some (.dat (.str t.1)), some (.dat (.str t.2.1)), some (.dat (.int t.2.2))] = some (decide (t.2.1 = x), [some (.dat R), some (.dat (.str x)), none, some (.dat (.str t.1)), some (.dat (.str t.2.1)), some (.dat (.int t.2.2))]) := by
        simp [runF, okArgs, em, mSeq, mIfS, mB, mOp2, mOp1, mPure, mCons, mVar, mC, mNil, frz1, looks, lookS, f1, f2, mSkip, mRet, mRetN, mDrop, gtD, geD, ltD, leD, isD, isnD, addD, subD, mulD, modD, fdivD, powD, negD, fOr, i2, i2c, mSub, finF, outR, outA, mSet, mSetI, toD, esc, escAll, setItemAt, dctAt, setAt, ixD, atI, ixN, setR, mTru, truS, truD, mAnd, mOr, mNot, mAndV, mOrV, mNotV, mIf, mTup, mLst, mAsg, gN, gT, gsCons, gsNil, mChain, mCall, escB, argsOf, slotsOf, putBack, iE, itemsD, mPar2, wipeE, restE, noOwn, mYes, lenD, absD, Mw.intD, listD, tupleD, mSl, oNone, oSome, slD, mMeth, lstAt, fAppend, mSetT, setTAt, mGetT, dttAt, mD0, mD0T, mPar3, noSlot, setN, mIn, isiD, tyD, isTy, eqD_int, neD_int, eqD_bool, neD_bool, eqD_ii, Mw.keyOf, mLc, mFor, mNeverS, revD, eqD_str (h t htm).2 hx]
      refine ⟨_, rfl, ?_⟩
      cases hd : decide (t.2.1 = x) with
      | true =>
        rw [hd] at ht
        exact .inl ⟨rfl, _, _, _, _, ht, rfl, rfl, rfl⟩
      | false =>
        rw [hd] at ht
        exact .inr ⟨rfl, _, ht, rfl⟩)
    rw [this]
    simp
  have c1 := mLc_ev (ρ := [some (.dat R), some (.dat (.str x)), none, none, none, none]) e1 zt rfl l1
  have c2 := mLc_ev (ρ := [some (.dat R), some (.dat (.str x)), none, none, none, none]) e1 zt rfl l2
  have sz : (((ts.filter fun t => decide (t.1 = x)).map fun t => (t.2.1, t.2.2)).map prD).length + (((ts.filter fun t => decide (t.2.1 = x)).map fun t => (t.1, t.2.2)).map prD).length ≤ sizeLine := by
    have z := Nat.le_of_lt (few (show (besideL ts x).length < 1000000 by omega))
    unfold besideL at z
    simpa using z
  have hs' : sortedD (.list ((((ts.filter fun t => decide (t.1 = x)).map fun t => (t.2.1, t.2.2)).map prD) ++ (((ts.filter fun t => decide (t.2.1 = x)).map fun t => (t.1, t.2.2)).map prD))) = some (.new (.lst (cs.map prD))) := by
    rw [← hs]
    unfold besideL
    rw [List.map_append]
  unfold fm__law_beside m__law_beside
  simp only [runF, okArgs]
  simp only [Mw.em, List.map_cons, List.map_nil, List.length_cons, List.length_nil, List.replicate, List.cons_append, List.nil_append, List.append]
  generalize (((ts.filter fun t => decide (t.1 = x)).map fun t => (t.2.1, t.2.2)).map prD) = A at *
  generalize (((ts.filter fun t => decide (t.2.1 = x)).map fun t => (t.1, t.2.2)).map prD) = B at *
  generalize mLc (iE (mVar 0)) [3, 4, 5] (gT 3 (gsCons (gN 3) (gsCons (gN 4) (gsCons (gN 5) gsNil)))) (mB (mOp2 eqD (mVar 3) (mVar 1))) (mTup (mCons (mVar 4) (mCons (mVar 5) mNil))) = M at c1 ⊢
  generalize mLc (iE (mVar 0)) [3, 4, 5] (gT 3 (gsCons (gN 3) (gsCons (gN 4) (gsCons (gN 5) gsNil)))) (mB (mOp2 eqD (mVar 4) (mVar 1))) (mTup (mCons (mVar 3) (mCons (mVar 5) mNil))) = N at c2 ⊢
  simp [mSeq, mSet, mOp2, mPure, mCons, mNil, c1, c2, restE, frz1, looks, lookS, f2, addD, fOr, i2, catS, catL, sz, setR, mRet, mOp1, mVar, f1, hs', finF, outR, outA]
/-! ### dict of pairs -/
def kvD (p : Pr) : Key × Pd := (.inr p.1, .int p.2)
theorem pairsD_pr : ∀ cs : List Pr, pairsD (cs.map prD) = some (cs.map kvD)
  | [] => rfl
  | c :: cs => by
    rw [List.map_cons, List.map_cons]
    show pairsD (.tuple [.str c.1, .int c.2] :: cs.map prD) = _
    simp [pairsD, Mw.keyOf, pairsD_pr cs, kvD]
theorem merge_val (y : Str) : ∀ (cs : List Pr), (cs.map (·.1)).Nodup → ∀ acc, valP (mergeP acc (cs.map kvD)) (.inr y) = match cs.find? (fun c => decide (c.1 = y)) with | some c => some (.int c.2) | none => valP acc (.inr y)
  | [], _, acc => rfl
  | c :: cs, h, acc => by
    rw [List.map_cons, List.nodup_cons] at h
    have e : mergeP acc ((c :: cs).map kvD) = mergeP (putP acc (.inr c.1) (.int c.2)) (cs.map kvD) := rfl
    rw [e, merge_val y cs h.2]
    by_cases hc : c.1 = y
    · have : cs.find? (fun c => decide (c.1 = y)) = none := by
        rw [List.find?_eq_none]
        intro d hd z
        simp only [decide_eq_true_eq] at z
        exact h.1 (List.mem_map.mpr ⟨d, hd, z.trans hc.symm⟩)
      rw [this, List.find?_cons, decide_eq_true hc, hc]
      exact valP_put_same ..
    · rw [List.find?_cons, decide_eq_false hc]
      cases cs.find? (fun c => decide (c.1 = y)) with
      | some d => rfl
      | none => exact valP_put_ne _ _ _ _ fun z => hc (Sum.inr.inj z)
theorem between_apart {s t : Ti} {x y : Str} (h : Apart s t) (hs : between x y s = true) (ht : between x y t = true) : False := by
  unfold between at hs ht
  simp only [decide_eq_true_eq] at hs ht
  apply h
  rcases hs with ⟨e1, e2⟩ | ⟨e1, e2⟩ <;> rcases ht with ⟨z1, z2⟩ | ⟨z1, z2⟩ <;> rw [e1, e2, z1, z2] <;> simp
theorem apart_uniq {ts : List Ti} (h : ts.Pairwise Apart) {s t : Ti} (hs : s ∈ ts) (ht : t ∈ ts) {x y : Str} (e1 : between x y s = true) (e2 : between x y t = true) : s = t := by
  induction ts with
  | nil => cases hs
  | cons a r ih =>
    rw [List.pairwise_cons] at h
    rcases List.mem_cons.mp hs with rfl | hs' <;> rcases List.mem_cons.mp ht with rfl | ht'
    · rfl
    · exact (between_apart (h.1 t ht') e1 e2).elim
    · exact (between_apart (h.1 s hs') e2 e1).elim
    · exact ih h.2 hs' ht'
theorem adj_some {ts : List Ti} (h : ts.Pairwise Apart) {x y : Str} {g : Int} : adj ts x y = some g ↔ ∃ t ∈ ts, between x y t = true ∧ t.2.2 = g := by
  unfold adj
  rw [Option.map_eq_some_iff]
  constructor
  · rintro ⟨t, h1, h2⟩
    exact ⟨t, List.mem_of_find?_eq_some h1, List.find?_some h1, h2⟩
  · rintro ⟨t, h1, h2, h3⟩
    cases e : ts.find? (between x y) with
    | none => exact absurd h2 (List.find?_eq_none.mp e t h1)
    | some s => exact ⟨s, rfl, by rw [← h3, apart_uniq h (List.mem_of_find?_eq_some e) h1 (List.find?_some e) h2]⟩
theorem adj_comm (ts : List Ti) (x y : Str) : adj ts x y = adj ts y x := by
  unfold adj
  congr 2
  funext t
  unfold between
  exact decide_eq_decide.mpr Or.comm
theorem beside_nd {ts : List Ti} (ha : ts.Pairwise Apart) (hn : ∀ t ∈ ts, t.1 ≠ t.2.1) (x : Str) : ((besideL ts x).map (·.1)).Nodup := by
  unfold besideL
  rw [List.map_append, List.map_map, List.map_map, List.nodup_append]
  refine ⟨?_, ?_, ?_⟩
  · induction ts with
    | nil => simp
    | cons t r ih =>
      rw [List.pairwise_cons] at ha
      have ih' := ih ha.2 fun t ht => hn t (List.mem_cons_of_mem _ ht)
      by_cases e : t.1 = x
      · rw [List.filter_cons_of_pos (by simp [e]), List.map_cons, List.nodup_cons]
        refine ⟨fun z => ?_, ih'⟩
        obtain ⟨s, h1, h2⟩ := List.mem_map.mp z
        obtain ⟨h3, h4⟩ := List.mem_filter.mp h1
        simp only [decide_eq_true_eq] at h4
        exact ha.1 s h3 (.inl ⟨e.trans h4.symm, h2.symm⟩)
      · rw [List.filter_cons_of_neg (by simp [e])]
        exact ih'
  · induction ts with
    | nil => simp
    | cons t r ih =>
      rw [List.pairwise_cons] at ha
      have ih' := ih ha.2 fun t ht => hn t (List.mem_cons_of_mem _ ht)
      by_cases e : t.2.1 = x
      · rw [List.filter_cons_of_pos (by simp [e]), List.map_cons, List.nodup_cons]
        refine ⟨fun z => ?_, ih'⟩
        obtain ⟨s, h1, h2⟩ := List.mem_map.mp z
        obtain ⟨h3, h4⟩ := List.mem_filter.mp h1
        simp only [decide_eq_true_eq] at h4
        exact ha.1 s h3 (.inl ⟨h2.symm, e.trans h4.symm⟩)
      · rw [List.filter_cons_of_neg (by simp [e])]
        exact ih'
  · intro a h1 b h2 z
    subst z
    obtain ⟨s, h3, h4⟩ := List.mem_map.mp h1
    obtain ⟨t, h5, h6⟩ := List.mem_map.mp h2
    obtain ⟨h7, h8⟩ := List.mem_filter.mp h3
    obtain ⟨h9, h10⟩ := List.mem_filter.mp h5
    simp only [decide_eq_true_eq, Function.comp] at h4 h6 h8 h10
    have e1 : between x a s = true := by unfold between; simp [h8, h4]
    have e2 : between x a t = true := by unfold between; simp [h10, h6]
    have e := apart_uniq ha h7 h9 e1 e2
    subst e
    exact hn s h7 (h8.trans h10.symm)
theorem find_of_mem {cs : List Pr} (h : (cs.map (·.1)).Nodup) {c : Pr} (hc : c ∈ cs) : cs.find? (fun d => decide (d.1 = c.1)) = some c := by
  induction cs with
  | nil => cases hc
  | cons d r ih =>
    rw [List.map_cons, List.nodup_cons] at h
    rcases List.mem_cons.mp hc with rfl | hc'
    · simp
    · have : ¬ d.1 = c.1 := fun z => h.1 (List.mem_map.mpr ⟨c, hc', z.symm⟩)
      rw [List.find?_cons, decide_eq_false this]
      exact ih h.2 hc'
/-- the dict of the neighbours' mirrors -/
theorem glass_val {ts : List Ti} (ha : ts.Pairwise Apart) (hn : ∀ t ∈ ts, t.1 ≠ t.2.1) {x : Str} {cs : List Pr} (hp : cs.Perm (besideL ts x)) (y : Str) : valP (mergeP [] (cs.map kvD)) (.inr y) = (adj ts x y).map PyData.int := by
  have nd : (cs.map (·.1)).Nodup := (hp.map _).nodup_iff.mpr (beside_nd ha hn x)
  rw [merge_val y cs nd]
  cases e : adj ts x y with
  | some g =>
    have hm : (y, g) ∈ cs := hp.mem_iff.mpr (mem_beside.mpr ((adj_some ha).mp e))
    have := find_of_mem nd hm
    dsimp only at this
    rw [this]
    rfl
  | none =>
    have : cs.find? (fun c => decide (c.1 = y)) = none := by
      rw [List.find?_eq_none]
      intro c hc z
      simp only [decide_eq_true_eq] at z
      subst z
      have := (adj_some ha).mpr (mem_beside.mp (hp.mem_iff.mp hc))
      rw [e] at this
      cases this
    rw [this]
    rfl
-- part g
theorem fm_bd (x m : Int) (h : 0 < m) : 0 ≤ x.fmod m ∧ x.fmod m < m := ⟨Int.fmod_nonneg_of_pos x h, Int.fmod_lt_of_pos x h⟩
def sg (k : Int) : Int := 1 - 2 * k.fmod 2
theorem sg_cases (k : Int) : (sg k = 1 ∧ sg (k + 1) = -1) ∨ (sg k = -1 ∧ sg (k + 1) = 1) := by
  unfold sg
  rw [Int.fmod_eq_emod_of_nonneg _ (by decide), Int.fmod_eq_emod_of_nonneg _ (by decide)]
  omega
theorem cMul_sg (x k : Int) : cMulB x (1 - 2 * k.fmod 2) = true := by
  have := fm_bd k 2 (by decide)
  simp [cMulB]
  omega
theorem cMul_two (j : Int) : cMulB 2 j = true := by simp [cMulB]
def altR : List Int → Int
  | [] => 0
  | g :: r => g - altR r
theorem alt_eq (n : Int) : ∀ r : List Int, alt n r.reverse = n * sg r.length + altR r
  | [] => by simp [alt, altR, sg]
  | g :: r => by
    have ih := alt_eq n r
    have e : alt n (g :: r).reverse = g - alt n r.reverse := by simp [alt, List.foldl_append]
    rw [e, ih, List.length_cons]
    show _ = n * sg ((r.length : Int) + 1) + (g - altR r)
    rcases sg_cases r.length with ⟨h1, h2⟩ | ⟨h1, h2⟩ <;> rw [h1, h2] <;> omega
-- part h
/-! ### the draws -/
abbrev box (a b c : Int) : DV := .obj (.lst [.int a, .int b, .int c])
theorem cMul_fm {x m j : Int} (h : 0 < m) (h2 : m < 2 ^ 64) : cMulB (x.fmod m) j = true := by
  have := fm_bd x m h
  simp [cMulB]
  omega
theorem cMul_1 (x j : Int) : cMulB (x.fmod 2305843009213693951) j = true := cMul_fm (by decide) (by decide)
theorem cMul_2 (x j : Int) : cMulB (x.fmod 2305843009213693921) j = true := cMul_fm (by decide) (by decide)
theorem cMul_3 (j : Int) : cMulB 1442695040888963407 j = true := by simp [cMulB]
theorem cMul_4 (j : Int) : cMulB 39373 j = true := by simp [cMulB]
theorem cMul_5 (j : Int) : cMulB 15485863 j = true := by simp [cMulB]
theorem take_spec (a b c n : Int) (hn : 0 < n) (hn2 : n < 1000000) : ∃ r a' c', fm__law_take [box a b c, .dat (.int n)] = some (.dat (.int r), [box a' b c', .dat (.int n)]) ∧ 0 ≤ r ∧ r < n := by
  by_cases h : 0 < a
  · refine ⟨a.fmod n, a.fdiv n, c, ?_, fm_bd a n hn⟩
    unfold fm__law_take m__law_take
    have e1 : cModB a n = true := by simp [cModB]; omega
    have e2 : cDivB a n = true := by simp [cDivB]; omega
    simp [runF, okArgs, em, mSeq, mIfS, mB, mOp2, mOp1, mPure, mCons, mVar, mC, mNil, frz1, looks, lookS, f1, f2, mSkip, mRet, mRetN, mDrop, gtD, geD, ltD, leD, isD, isnD, addD, subD, mulD, modD, fdivD, powD, negD, fOr, i2, i2c, mSub, finF, outR, outA, mSet, mSetI, toD, esc, escAll, setItemAt, dctAt, setAt, ixD, atI, ixN, setR, mTru, truS, truD, mAnd, mOr, mNot, mAndV, mOrV, mNotV, mIf, mTup, mLst, mAsg, gN, gT, gsCons, gsNil, mChain, mCall, escB, argsOf, slotsOf, putBack, iE, itemsD, mPar2, wipeE, restE, noOwn, mYes, lenD, absD, Mw.intD, listD, tupleD, mSl, oNone, oSome, slD, mMeth, lstAt, fAppend, mSetT, setTAt, mGetT, dttAt, mD0, mD0T, mPar3, noSlot, setN, mIn, isiD, tyD, isTy, eqD_int, neD_int, eqD_bool, neD_bool, eqD_ii, Mw.keyOf, mLc, mFor, mNeverS, revD, box, h, hn, e1, e2]
  · have hn0 : n ≠ 0 := by omega
    have e : ∃ x : Int, fm__law_take [box a b c, .dat (.int n)] = some (.dat (.int (x.fmod n)), [box a b (c + 1), .dat (.int n)]) := by
      unfold fm__law_take m__law_take
      simp [runF, okArgs, em, mSeq, mIfS, mB, mOp2, mOp1, mPure, mCons, mVar, mC, mNil, frz1, looks, lookS, f1, f2, mSkip, mRet, mRetN, mDrop, gtD, geD, ltD, leD, isD, isnD, addD, subD, mulD, modD, fdivD, powD, negD, fOr, i2, i2c, mSub, finF, outR, outA, mSet, mSetI, toD, esc, escAll, setItemAt, dctAt, setAt, ixD, atI, ixN, setR, mTru, truS, truD, mAnd, mOr, mNot, mAndV, mOrV, mNotV, mIf, mTup, mLst, mAsg, gN, gT, gsCons, gsNil, mChain, mCall, escB, argsOf, slotsOf, putBack, iE, itemsD, mPar2, wipeE, restE, noOwn, mYes, lenD, absD, Mw.intD, listD, tupleD, mSl, oNone, oSome, slD, mMeth, lstAt, fAppend, mSetT, setTAt, mGetT, dttAt, mD0, mD0T, mPar3, noSlot, setN, mIn, isiD, tyD, isTy, eqD_int, neD_int, eqD_bool, neD_bool, eqD_ii, Mw.keyOf, mLc, mFor, mNeverS, revD, box, h, hn0, cModB, cDivB, cMul_1, cMul_2, cMul_3, cMul_4]
      exact ⟨_, rfl⟩
    obtain ⟨x, e⟩ := e
    exact ⟨_, _, _, e, fm_bd x n hn⟩
theorem cMul_6 (x : Int) (p : Prop) [Decidable p] : cMulB x (if p then 1 else 0) = true := by
  by_cases h : p <;> simp [cMulB, h]
theorem box_spec (l : List Int) (k : Nat) (h : k < l.length) : ∃ a b c, fm__law_box [.dat (.list (l.map .int)), .dat (.int k)] = some (.new (.lst [.int a, .int b, .int c]), [.dat (.list (l.map .int)), .dat (.int k)]) := by
  have e1 : (l.map PyData.int)[k]? = some (.int l[k]) := by simp [h]
  unfold fm__law_box m__law_box
  simp [runF, okArgs, em, mSeq, mIfS, mB, mOp2, mOp1, mPure, mCons, mVar, mC, mNil, frz1, looks, lookS, f1, f2, mSkip, mRet, mRetN, mDrop, gtD, geD, ltD, leD, isD, isnD, addD, subD, mulD, modD, fdivD, powD, negD, fOr, i2, i2c, mSub, finF, outR, outA, mSet, mSetI, toD, esc, escAll, setItemAt, dctAt, setAt, ixD, atI, ixN, setR, mTru, truS, truD, mAnd, mOr, mNot, mAndV, mOrV, mNotV, mIf, mTup, mLst, mAsg, gN, gT, gsCons, gsNil, mChain, mCall, escB, argsOf, slotsOf, putBack, iE, itemsD, mPar2, wipeE, restE, noOwn, mYes, lenD, absD, Mw.intD, listD, tupleD, mSl, oNone, oSome, slD, mMeth, lstAt, fAppend, mSetT, setTAt, mGetT, dttAt, mD0, mD0T, mPar3, noSlot, setN, mIn, isiD, tyD, isTy, eqD_int, neD_int, eqD_bool, neD_bool, eqD_ii, Mw.keyOf, mLc, mFor, mNeverS, revD, e1, h, cPowB, cModB, cMul_5, cMul_6]
abbrev scr (ns : List Int) : PyData := .dict [(.none, .list (ns.map .int))]
theorem cut_pre (ns : List Int) (u : Nat)  : Mw.cutD (ns.map PyData.int) none (some (u : Int)) = (ns.take u).map .int := by
  unfold Mw.cutD
  rw [HT.sIx_none, HT.sIx_nat, List.drop_zero, List.length_map, Nat.sub_zero, List.map_take]
  by_cases h : u ≤ ns.length
  · rw [Nat.min_eq_left h]
  · rw [Nat.min_eq_right (by omega), List.take_of_length_le (by simp), List.take_of_length_le (by simp; omega)]
theorem cut_mid (ns : List Int) (u v : Nat) : ∃ l : List Int, Mw.cutD (ns.map PyData.int) (some (u : Int)) (some (v : Int)) = l.map .int ∧ l.length ≤ v ∧ (ns.length ≤ u → l = []) := by
  refine ⟨(ns.drop (min u ns.length)).take (min v ns.length - min u ns.length), ?_, ?_, fun h => ?_⟩
  · unfold Mw.cutD
    rw [HT.sIx_nat, HT.sIx_nat, List.length_map, List.map_take, List.map_drop]
  · rw [List.length_take]
    omega
  · rw [Nat.min_eq_right h, List.drop_length, List.take_nil]
theorem enum_ints (l : List Int) : ∀ d ∈ enumD (l.map .int), ∃ (k : Nat) (c : Int), d = .tuple [.int k, .int c] ∧ k < l.length := by
  intro d hd
  unfold enumD at hd
  obtain ⟨⟨x, i⟩, h1, rfl⟩ := List.mem_map.mp hd
  obtain ⟨h2, h3⟩ := List.mem_zipIdx' h1
  simp at h2
  exact ⟨i, l[i], by simp [h3], h2⟩
/-- what stays in the loop over the rest of the script -/
theorem cells_spec (ns : List Int) (u : Nat) (hu : 0 < u) (hu2 : u < 64) : ∃ l : List Int, (l ≠ [] ∧ l.length ≤ u) ∧ fm__law_cells [.dat (scr ns), .dat (.int u)] = some (.new (.lst (l.map .int)), [.dat (scr ns), .dat (.int u)]) := by
  obtain ⟨m, e1, e2, e3⟩ := cut_mid ns u 63
  have e1' : Mw.cutD (ns.map PyData.int) (some (u : Int)) (some 63) = m.map .int := e1
  obtain ⟨l0, g1, g2⟩ : ∃ l0 : List Int, ((l0 ≠ [] ∧ l0.length ≤ u) ∧ (ns.length ≤ u ∨ l0.length = u)) ∧ mOrV (mOp1 listD (mSl (mVar 0) oNone (oSome (mVar 1)))) (mLst (mCons (mC (.int 0)) mNil)) [some (.dat (scr ns)), some (.dat (.int u)), none, none, none] = some (.new (.lst (l0.map .int)), [some (.dat (scr ns)), some (.dat (.int u)), none, none, none]) := by
    by_cases h : ns = []
    · refine ⟨[0], ⟨⟨by simp, by simp; omega⟩, .inl (by simp [h])⟩, ?_⟩
      subst h
      simp [runF, okArgs, em, mSeq, mIfS, mB, mOp2, mOp1, mPure, mCons, mVar, mC, mNil, frz1, looks, lookS, f1, f2, mSkip, mRet, mRetN, mDrop, gtD, geD, ltD, leD, isD, isnD, addD, subD, mulD, modD, fdivD, powD, negD, fOr, i2, i2c, mSub, finF, outR, outA, mSet, mSetI, toD, esc, escAll, setItemAt, dctAt, setAt, ixD, atI, ixN, setR, mTru, truS, truD, mAnd, mOr, mNot, mAndV, mOrV, mNotV, mIf, mTup, mLst, mAsg, gN, gT, gsCons, gsNil, mChain, mCall, escB, argsOf, slotsOf, putBack, iE, itemsD, mPar2, wipeE, restE, noOwn, mYes, lenD, absD, Mw.intD, listD, tupleD, mSl, oNone, oSome, slD, mMeth, lstAt, fAppend, mSetT, setTAt, mGetT, dttAt, mD0, mD0T, mPar3, noSlot, setN, mIn, isiD, tyD, isTy, eqD_int, neD_int, eqD_bool, neD_bool, eqD_ii, Mw.keyOf, mLc, mFor, mNeverS, revD, mSl, oNone, oSome, scr, slD, Mw.cutD]
    · refine ⟨ns.take u, ⟨⟨by simp [h]; omega, by simp; omega⟩, ?_⟩, ?_⟩
      · by_cases h2 : ns.length ≤ u
        · exact .inl h2
        · exact .inr (by simp; omega)
      · have e4 : ((ns.map PyData.int).take u).isEmpty = false := by
          cases ns with
          | nil => exact absurd rfl h
          | cons a r => cases u with
            | zero => omega
            | succ u => rfl
        have e5 : Mw.cutD (ns.map PyData.int) none (some (u : Int)) = (ns.map PyData.int).take u := by rw [cut_pre, List.map_take]
        simp [runF, okArgs, em, mSeq, mIfS, mB, mOp2, mOp1, mPure, mCons, mVar, mC, mNil, frz1, looks, lookS, f1, f2, mSkip, mRet, mRetN, mDrop, gtD, geD, ltD, leD, isD, isnD, addD, subD, mulD, modD, fdivD, powD, negD, fOr, i2, i2c, mSub, finF, outR, outA, mSet, mSetI, toD, esc, escAll, setItemAt, dctAt, setAt, ixD, atI, ixN, setR, mTru, truS, truD, mAnd, mOr, mNot, mAndV, mOrV, mNotV, mIf, mTup, mLst, mAsg, gN, gT, gsCons, gsNil, mChain, mCall, escB, argsOf, slotsOf, putBack, iE, itemsD, mPar2, wipeE, restE, noOwn, mYes, lenD, absD, Mw.intD, listD, tupleD, mSl, oNone, oSome, slD, mMeth, lstAt, fAppend, mSetT, setTAt, mGetT, dttAt, mD0, mD0T, mPar3, noSlot, setN, mIn, isiD, tyD, isTy, eqD_int, neD_int, eqD_bool, neD_bool, eqD_ii, Mw.keyOf, mLc, mFor, mNeverS, revD, mSl, oNone, oSome, scr, slD, e5, e4]
  have loop : ∃ l : List Int, ∃ x3 x4, (l ≠ [] ∧ l.length ≤ u) ∧ loopS (gT 2 (gsCons (gN 3) (gsCons (gN 4) gsNil))) (mSetI (mOp2 addD (mSub (mVar 2) (mOp2 modD (mVar 3) (mVar 1))) (mOp2 mulD (mVar 4) (mOp2 addD (mVar 3) (mC (.int 2))))) (mVar 2) (mOp2 modD (mVar 3) (mVar 1))) (enumD (m.map .int))
      [some (.dat (scr ns)), some (.dat (.int u)), some (.obj (.lst (l0.map .int))), none, none] = some (.next, [some (.dat (scr ns)), some (.dat (.int u)), some (.obj (.lst (l.map .int))), x3, x4]) := by
    by_cases hm : m = []
    · subst hm
      exact ⟨l0, none, none, g1.1, rfl⟩
    have hl : l0.length = u := g1.2.elim (fun z => absurd (e3 z) hm) id
    obtain ⟨ρ', r1, -, l, x3, x4, h1, rfl⟩ := loopS_all (g := gT 2 (gsCons (gN 3) (gsCons (gN 4) gsNil))) (body := mSetI (mOp2 addD (mSub (mVar 2) (mOp2 modD (mVar 3) (mVar 1))) (mOp2 mulD (mVar 4) (mOp2 addD (mVar 3) (mC (.int 2))))) (mVar 2) (mOp2 modD (mVar 3) (mVar 1)))
      (fun ds ρ => (∀ d ∈ ds, ∃ (k : Nat) (c : Int), d = .tuple [.int k, .int c] ∧ k < m.length) ∧ ∃ (l : List Int) (x3 x4 : Option DV), l.length = u ∧ ρ = [some (.dat (scr ns)), some (.dat (.int u)), some (.obj (.lst (l.map .int))), x3, x4])
      (enumD (m.map .int)) [some (.dat (scr ns)), some (.dat (.int u)), some (.obj (.lst (l0.map .int))), none, none] ⟨enum_ints m, l0, none, none, hl, rfl⟩ (by
        rintro d ds ρ ⟨hd, l, x3, x4, hl, rfl⟩
        obtain ⟨k, c, rfl, hk⟩ := hd d List.mem_cons_self
        obtain ⟨j, hj, hlt⟩ : ∃ j : Nat, (k : Int).fmod (u : Int) = (j : Int) ∧ j < l.length :=
          ⟨k % u, by rw [Int.fmod_eq_emod_of_nonneg _ (by omega)]; rfl, by rw [hl]; exact Nat.mod_lt _ hu⟩
        have at_ : (l.map PyData.int)[j]? = some (.int l[j]) := by simp [hlt]
        have cm : ∀ x : Int, cMulB x ((k : Int) + 2) = true := fun x => by simp [cMulB]; omega
        have u0 : u ≠ 0 := by omega
        refine ⟨_, _, rfl, .inl ?_, fun x hx => hd x (List.mem_cons_of_mem _ hx), l.set j (l[j] + c * (k + 2)), some (.dat (.int k)), some (.dat (.int c)), by simp [hl], rfl⟩
        simp [runF, okArgs, em, mSeq, mIfS, mB, mOp2, mOp1, mPure, mCons, mVar, mC, mNil, frz1, looks, lookS, f1, f2, mSkip, mRet, mRetN, mDrop, gtD, geD, ltD, leD, isD, isnD, addD, subD, mulD, modD, fdivD, powD, negD, fOr, i2, i2c, mSub, finF, outR, outA, mSet, mSetI, toD, esc, escAll, setItemAt, dctAt, setAt, ixD, atI, ixN, setR, mTru, truS, truD, mAnd, mOr, mNot, mAndV, mOrV, mNotV, mIf, mTup, mLst, mAsg, gN, gT, gsCons, gsNil, mChain, mCall, escB, argsOf, slotsOf, putBack, iE, itemsD, mPar2, wipeE, restE, noOwn, mYes, lenD, absD, Mw.intD, listD, tupleD, mSl, oNone, oSome, slD, mMeth, lstAt, fAppend, mSetT, setTAt, mGetT, dttAt, mD0, mD0T, mPar3, noSlot, setN, mIn, isiD, tyD, isTy, eqD_int, neD_int, eqD_bool, neD_bool, eqD_ii, Mw.keyOf, mLc, mFor, mNeverS, revD, hj, hlt, at_, cm, cModB, u0, List.map_set])
    refine ⟨l, x3, x4, ⟨fun z => ?_, by omega⟩, r1⟩
    subst z
    simp at h1
    omega
  obtain ⟨l, x3, x4, h1, h2⟩ := loop
  refine ⟨l, h1, ?_⟩
  unfold fm__law_cells m__law_cells
  simp only [mSeq, mSet, runF]
  simp [em, okArgs, g2, setR, mFor, iEnA, mSl, mVar, mC, oSome, frz1, lookS, slD, scr, e1', toD, esc]
  rw [scr] at h2
  simp [h2, mRet, finF, outR, outA, mVar]
theorem bools_true : ∀ {ds out : List PyData}, Paired (fun _ d' => d' = PyData.bool true) ds out → ∃ bs, boolsD out = some bs ∧ bs.all id = true
  | _, _, .nil => ⟨[], rfl, rfl⟩
  | _, _, .cons h t => by
    obtain ⟨bs, e1, e2⟩ := bools_true t
    subst h
    exact ⟨true :: bs, by simp [boolsD, e1], by simp [e2]⟩
theorem range_mem {n : Nat} {d : PyData} (h : d ∈ rangeD 0 n) : ∃ k : Nat, k < n ∧ d = .int k := by
  unfold rangeD at h
  obtain ⟨k, h1, rfl⟩ := List.mem_map.mp h
  exact ⟨k, List.mem_range.mp h1, by simp⟩
theorem law_step {R : FM} (right : ∀ a b c, ∃ as, R [box a b c] = some (.dat (.bool true), as)) (l : List Int) (k : Nat) (hk : k < l.length) (x : Option DV) (y : DV) (hy : y = .obj (.lst (l.map .int)) ∨ y = .dat (.list (l.map .int))) :
    mCall1 R (mCall [] fm__law_box (mCons (mVar 1) (mCons (mVar 2) mNil))) [x, some y, some (.dat (.int k))] = some (.dat (.bool true), [x, some (.dat (.list (l.map .int))), some (.dat (.int k))]) := by
  obtain ⟨a, b, c, e⟩ := box_spec l k hk
  obtain ⟨as, e'⟩ := right a b c
  have h1 : mCall [] fm__law_box (mCons (mVar 1) (mCons (mVar 2) mNil)) [x, some y, some (.dat (.int k))] = some (.new (.lst [.int a, .int b, .int c]), [x, some (.dat (.list (l.map .int))), some (.dat (.int k))]) := by
    generalize fm__law_box = fb at *
    generalize l.map PyData.int = z at *
    rcases hy with rfl | rfl
    · simp [mCall, mCons, mVar, mNil, frz1, escB, esc, argsOf, slotsOf, putBack, e]
    · simp [mCall, mCons, mVar, mNil, frz1, escB, esc, argsOf, slotsOf, putBack, e]
  unfold mCall1
  rw [h1]
  dsimp only
  rw [e']
theorem all_ev {M : ME} {ρ ρ' : En} {out : List PyData} {bs : List Bool} (h : M ρ = some (.new (.lst out), ρ')) (hb : boolsD out = some bs) (ha : bs.all id = true) : mOp1 allD M ρ = some (.dat (.bool true), ρ') := by
  unfold mOp1 mPure mCons
  rw [h]
  simp only [frz1, mNil, looks, lookS, f1, allD, hb, ha, Option.bind, Option.map]
theorem range_ev (l : List Int) (hl : l.length < 64) (x : Option DV) : iR1 (mCons (mOp1 lenD (mVar 1)) mNil) [x, some (.obj (.lst (l.map .int))), none] = some (rangeD 0 l.length, [x, some (.obj (.lst (l.map .int))), none]) := by
  have e : mCons (mOp1 lenD (mVar 1)) mNil [x, some (.obj (.lst (l.map .int))), none] = some ([.dat (.int l.length)], [x, some (.obj (.lst (l.map .int))), none]) := by
    simp [mCons, mOp1, mPure, mVar, mNil, frz1, looks, lookS, f1, lenD]
  unfold iR1
  rw [e]
  dsimp only
  rw [if_pos ⟨by omega, by omega⟩, Int.toNat_natCast]
theorem law_loop {R : FM} (right : ∀ a b c, ∃ as, R [box a b c] = some (.dat (.bool true), as)) (l : List Int) (x : Option DV) :
    ∃ out y, loopC [2] (gN 2) mYes (mCall1 R (mCall [] fm__law_box (mCons (mVar 1) (mCons (mVar 2) mNil)))) (rangeD 0 l.length) [] [x, some (.obj (.lst (l.map .int))), none] = some (out, [x, some y, none]) ∧ Paired (fun _ d' => d' = PyData.bool true) (rangeD 0 l.length) out := by
  generalize hM : mCall1 R (mCall [] fm__law_box (mCons (mVar 1) (mCons (mVar 2) mNil))) = M
  have st : ∀ (k : Nat), k < l.length → ∀ y : DV, (y = .obj (.lst (l.map .int)) ∨ y = .dat (.list (l.map .int))) → M [x, some y, some (.dat (.int k))] = some (.dat (.bool true), [x, some (.dat (.list (l.map .int))), some (.dat (.int k))]) := by
    intro k hk y hy
    rw [← hM]
    exact law_step right l k hk x y hy
  clear hM
  obtain ⟨out, ρ', e1, ⟨y, -, rfl⟩, p1⟩ := loopC_inv (vs := [2]) (g := gN 2) (t := mYes) (me := M) (R := fun _ d' => d' = PyData.bool true)
    (fun ρ => ∃ y, (y = .obj (.lst (l.map .int)) ∨ y = .dat (.list (l.map .int))) ∧ ρ = [x, some y, none]) (rangeD 0 l.length) [] [x, some (.obj (.lst (l.map .int))), none] ⟨_, .inl rfl, rfl⟩ (by
      rintro d hd ρ ⟨y, hy, rfl⟩
      obtain ⟨k, hk, rfl⟩ := range_mem hd
      exact ⟨_, _, _, _, .bool true, _, rfl, rfl, st k hk y hy, rfl, rfl, _, .inr rfl, rfl⟩)
  exact ⟨out, y, e1, p1⟩
theorem law_main {R : FM} (right : ∀ a b c, ∃ as, R [box a b c] = some (.dat (.bool true), as)) (l : List Int) (hl : l.length < 64) (x : Option DV) :
    ∃ y, mOp1 allD (mLc (iR1 (mCons (mOp1 lenD (mVar 1)) mNil)) [2] (gN 2) mYes (mCall1 R (mCall [] fm__law_box (mCons (mVar 1) (mCons (mVar 2) mNil))))) [x, some (.obj (.lst (l.map .int))), none] = some (.dat (.bool true), [x, some y, none]) := by
  obtain ⟨out, y, e1, p1⟩ := law_loop right l x
  obtain ⟨bs, e2, e3⟩ := bools_true p1
  have hr : (rangeD 0 l.length).length = l.length := by simp [rangeD]
  refine ⟨y, all_ev (mLc_ev (range_ev l hl x) (few ?_) rfl e1) e2 e3⟩
  rw [hr]
  omega
theorem call_cells {f : FM} {z : PyData} {ds : List PyData} (h3 : f [.dat z, .dat (.int 3)] = some (.new (.lst ds), [.dat z, .dat (.int 3)])) : mCall [] f (mCons (mVar 0) (mCons (mC (.int 3)) mNil)) [some (.dat z), none, none] = some (.new (.lst ds), [some (.dat z), none, none]) := by
  simp [mCall, mCons, mVar, mC, mNil, frz1, escB, esc, argsOf, slotsOf, putBack, h3]
theorem law_run {M N : ME} {z : PyData} {ds : List PyData} {y : DV} (e : N [some (.dat z), none, none] = some (.new (.lst ds), [some (.dat z), none, none])) (h4 : M [some (.dat z), some (.obj (.lst ds)), none] = some (.dat (.bool true), [some (.dat z), some y, none])) :
    ∃ as, runF 1 3 [] (mSeq (mSet 1 N) (mRet M)) [.dat z] = some (.dat (.bool true), as) := by
  simp [runF, okArgs, Mw.em, mSeq, mSet, e, setR, mRet, h4, finF, outR, outA]
theorem law_of (right : ∀ a b c, ∃ as, fm__law_right [box a b c] = some (.dat (.bool true), as)) (ns : List Int) : ∃ as, fm_law [.dat (scr ns)] = some (.dat (.bool true), as) := by
  obtain ⟨l, ⟨h1, h2⟩, h3⟩ := cells_spec ns 3 (by decide) (by decide)
  obtain ⟨y, h4⟩ := law_main right l (Nat.lt_of_le_of_lt h2 (by decide)) (some (.dat (scr ns)))
  exact law_run (call_cells h3) h4
-- part i
/-! ### draws within expressions -/
theorem take_ev {m : ME} (a b c n : Int) (rest : En) (hn : 0 < n) (hn2 : n < 1000000) (hm : m (some (box a b c) :: rest) = some (.dat (.int n), some (box a b c) :: rest)) :
    ∃ r a' c', mCall [0] fm__law_take (mCons (mVar 0) (mCons m mNil)) (some (box a b c) :: rest) = some (.dat (.int r), some (box a' b c') :: rest) ∧ 0 ≤ r ∧ r < n := by
  obtain ⟨r, a', c', e, h⟩ := take_spec a b c n hn hn2
  refine ⟨r, a', c', ?_, h⟩
  simp [mCall, mCons, mVar, mNil, frz1, hm, escB, esc, argsOf, slotsOf, e, putBack]
theorem take_c (a b c n : Int) (rest : En) (hn : 0 < n) (hn2 : n < 1000000) :
    ∃ r a' c', mCall [0] fm__law_take (mCons (mVar 0) (mCons (mC (.int n)) mNil)) (some (box a b c) :: rest) = some (.dat (.int r), some (box a' b c') :: rest) ∧ 0 ≤ r ∧ r < n :=
  take_ev a b c n rest hn hn2 rfl
theorem ret_ev {M : ME} {ρ ρ' : En} {r : Rs} (h : M ρ = some (r, ρ')) : mRet M ρ = some (.ret r, ρ') := by
  unfold mRet
  rw [h]
theorem set_new {M : ME} {ρ ρ' : En} {o : OB} {i : Nat} (h : M ρ = some (.new o, ρ')) (hi : i < ρ'.length) : mSet i M ρ = some (.next, ρ'.set i (some (.obj o))) := by
  unfold mSet
  rw [h]
  simp only [setR, if_pos hi]
theorem set_dat {M : ME} {ρ ρ' : En} {d : PyData} {i : Nat} (h : M ρ = some (.dat d, ρ')) : mSet i M ρ = some (.next, ρ'.set i (some (.dat d))) := by
  unfold mSet
  rw [h]
  rfl
/-! ### names -/
def letters : Str := "abcdefghijklmnopqrstuvwxyz"
def letter (i : Nat) : Str := ⟨#[97 + i]⟩
theorem letters_eq : letters.cps.toList = (List.range 26).map (97 + ·) := by decide +kernel
theorem letters_len : letters.length = 26 := by decide +kernel
theorem letter_at (i : Int) (h0 : 0 ≤ i) (h : i < 26) : ixD (.str letters) (.int i) = some (.dat (.str (letter i.toNat))) := by
  obtain ⟨k, rfl⟩ := Int.eq_ofNat_of_zero_le h0
  have hk : k < 26 := by omega
  have e : atI letters.cps.toList (k : Int) = some (97 + k) := by
    rw [letters_eq]
    unfold atI ixN
    simp [hk, h]
  unfold ixD
  dsimp only
  rw [if_pos (by rw [letters_len]; decide), e]
  rfl
theorem txOk_of {x : Str} (h : ∀ c ∈ x.cps.toList, c < 0x110000) : TxOk x := by
  show PyData.canLay0 (.str x) = true
  simp [PyData.canLay0, PyData.strOk]
  intro i hi
  exact h _ (by simp)
theorem txOk_all {x : Str} (h : TxOk x) : ∀ c ∈ x.cps.toList, c < 0x110000 := by
  have h' : PyData.canLay0 (.str x) = true := h
  simp [PyData.canLay0, PyData.strOk] at h'
  intro c hc
  obtain ⟨i, hi, rfl⟩ := List.getElem_of_mem hc
  simpa using h' i (by simpa using hi)
theorem cps_app (x y : Str) : (x ++ y).cps.toList = x.cps.toList ++ y.cps.toList := by
  show (x.cps ++ y.cps).toList = _
  simp
theorem txOk_app {x y : Str} (hx : TxOk x) (hy : TxOk y) : TxOk (x ++ y) := txOk_of fun c hc => by
  rw [cps_app, List.mem_append] at hc
  exact hc.elim (txOk_all hx c) (txOk_all hy c)
theorem txOk_letter {i : Nat} (h : i < 26) : TxOk (letter i) := txOk_of fun c hc => by
  simp [letter] at hc
  omega
theorem txOk_join {l : List Str} (h : ∀ x ∈ l, TxOk x) : TxOk (Txt.join "" l) := by
  rw [show Txt.join "" l = Str.join "" l from StrLaws.glued_eq_join _ _]
  induction l with
  | nil => exact txOk_of fun c hc => by simp [Str.join, Str.empty] at hc
  | cons x r ih =>
    have ih' := ih fun y hy => h y (List.mem_cons_of_mem _ hy)
    cases r with
    | nil => exact h x List.mem_cons_self
    | cons y r => exact txOk_app (txOk_app (h x List.mem_cons_self) (txOk_of fun c hc => by
        have e : (Str.ofString "").cps.toList = [] := by decide +kernel
        rw [e] at hc
        cases hc)) ih'
theorem join_len {l : List Str} (h : ∀ x ∈ l, x.length = 1) : (Txt.join "" l).length ≤ l.length := by
  rw [show Txt.join "" l = Str.join "" l from StrLaws.glued_eq_join _ _]
  have e := StrLaws.join_length_le "" l
  have e0 : (Str.ofString "").length = 0 := by decide +kernel
  rw [e0] at e
  have e1 : (l.map (·.length)).sum = l.length := by
    clear e
    induction l with
    | nil => rfl
    | cons x r ih =>
      rw [List.map_cons, List.sum_cons, ih fun y hy => h y (List.mem_cons_of_mem _ hy), h x List.mem_cons_self, List.length_cons]
      omega
  omega
theorem strsD_map : ∀ l : List Str, strsD (l.map PyData.str) = some l
  | [] => rfl
  | x :: r => by simp [strsD, strsD_map r]
def nameK (stem : Str) (s t : Int) (k : Nat) : Str := stem ++ letter ((s + t * k).fmod 26).toNat
theorem nameK_ok {stem : Str} (h : TxOk stem) (s t : Int) (k : Nat) : TxOk (nameK stem s t k) := by
  have := fm_bd (s + t * k) 26 (by decide)
  exact txOk_app h (txOk_letter (by omega))
theorem nameK_inj {stem : Str} {s t : Int} (ht : t = 1 ∨ t = 7 ∨ t = 25) {i j : Nat} (hi : i < 26) (hj : j < 26) (h : nameK stem s t i = nameK stem s t j) : i = j := by
  have e : (nameK stem s t i).cps.toList = (nameK stem s t j).cps.toList := by rw [h]
  unfold nameK at e
  rw [cps_app, cps_app] at e
  have e2 := List.append_cancel_left e
  simp only [letter, List.cons.injEq, and_true] at e2
  have b1 := fm_bd (s + t * i) 26 (by decide)
  have b2 := fm_bd (s + t * j) 26 (by decide)
  have e3 : (s + t * i).fmod 26 = (s + t * j).fmod 26 := by omega
  rw [Int.fmod_eq_emod_of_nonneg _ (by decide), Int.fmod_eq_emod_of_nonneg _ (by decide)] at e3
  rcases ht with rfl | rfl | rfl <;> omega
theorem range_len (n : Nat) : (rangeD 0 n).length = n := by simp [rangeD]
theorem sum_ones : ∀ l : List Str, (∀ x ∈ l, TxOk x ∧ x.length = 1) → (l.map (·.length)).sum = l.length
  | [], _ => rfl
  | x :: r, h => by
    rw [List.map_cons, List.sum_cons, sum_ones r fun y hy => h y (List.mem_cons_of_mem _ hy), (h x List.mem_cons_self).2, List.length_cons]
    omega
theorem join_ev (ss : List Str) (hss : ∀ x ∈ ss, TxOk x ∧ x.length = 1) (hl : ss.length ≤ 100) : joinD (.str "") (.list (ss.map PyData.str)) = some (.dat (.str (Txt.join "" ss))) := by
  have e0 : (Str.ofString "").length = 0 := by decide +kernel
  simp only [joinD, strsD_map, e0, Nat.mul_zero, Nat.add_zero]
  rw [if_pos (by rw [sum_ones ss hss]; omega)]
/-- the stem -/
theorem call_stem (L : Str) (hL : ∀ i : Int, 0 ≤ i → i < 26 → ixD (.str L) (.int i) = some (.dat (.str (letter i.toNat)))) (N S : PyData) (a1 b c1 : Int) : ∃ (stem : Str) (a3 c3 : Int), TxOk stem ∧ stem.length ≤ 7 ∧
    mSet 4 (mOp2 joinD (mC (.str "")) (mLc (iR1 (mCons (mCall [0] fm__law_take (mCons (mVar 0) (mCons (mC (.int 8)) mNil))) mNil)) [6] (gN 6) mYes (mSub (mVar 2) (mCall [0] fm__law_take (mCons (mVar 0) (mCons (mC (.int 26)) mNil)))))) [some (box a1 b c1), some (.dat N), some (.dat (.str L)), some (.dat S), none, none, none, none]
      = some (.next, [some (box a3 b c3), some (.dat N), some (.dat (.str L)), some (.dat S), some (.dat (.str stem)), none, none, none]) := by
  obtain ⟨m, a2, c2, t2, hm0, hm1⟩ := take_c a1 b c1 8 [some (.dat N), some (.dat (.str L)), some (.dat S), none, none, none, none] (by decide) (by decide)
  obtain ⟨m', rfl⟩ := Int.eq_ofNat_of_zero_le hm0
  have ir2 : iR1 (mCons (mCall [0] fm__law_take (mCons (mVar 0) (mCons (mC (.int 8)) mNil))) mNil) [some (box a1 b c1), some (.dat N), some (.dat (.str L)), some (.dat S), none, none, none, none]
      = some (rangeD 0 m', [some (box a2 b c2), some (.dat N), some (.dat (.str L)), some (.dat S), none, none, none, none]) := by
    generalize mCall [0] fm__law_take (mCons (mVar 0) (mCons (mC (.int 8)) mNil)) = M at t2
    unfold iR1 mCons
    rw [t2]
    dsimp only [frz1, mNil]
    rw [if_pos ⟨by omega, by omega⟩, Int.toNat_natCast]
  obtain ⟨out, ρ', e1, ⟨a3, c3, rfl⟩, pr⟩ := loopC_inv (vs := [6]) (g := gN 6) (t := mYes) (me := mSub (mVar 2) (mCall [0] fm__law_take (mCons (mVar 0) (mCons (mC (.int 26)) mNil)))) (R := fun _ d' => ∃ i : Nat, i < 26 ∧ d' = PyData.str (letter i))
    (fun ρ => ∃ a c, ρ = [some (box a b c), some (.dat N), some (.dat (.str L)), some (.dat S), none, none, none, none]) (rangeD 0 m') [] [some (box a2 b c2), some (.dat N), some (.dat (.str L)), some (.dat S), none, none, none, none] ⟨_, _, rfl⟩ (by
      rintro d hd ρ ⟨x, z, rfl⟩
      obtain ⟨r, x', z', tt, hr0, hr1⟩ := take_c x b z 26 [some (.dat N), some (.dat (.str L)), some (.dat S), none, none, some (.dat d), none] (by decide) (by decide)
      refine ⟨_, _, .dat (.str (letter r.toNat)), [some (box x' b z'), some (.dat N), some (.dat (.str L)), some (.dat S), none, none, some (.dat d), none], _, _, rfl, rfl, ?_, rfl, ⟨r.toNat, by omega, rfl⟩, x', z', rfl⟩
      generalize mCall [0] fm__law_take (mCons (mVar 0) (mCons (mC (.int 26)) mNil)) = M at tt
      simp [mSub, mCons, mVar, mNil, frz1, tt, dctAt, looks, lookS, hL r hr0 hr1])
  rw [List.nil_append] at e1
  obtain ⟨ss, hss, hout⟩ : ∃ ss : List Str, (∀ x ∈ ss, TxOk x ∧ x.length = 1) ∧ out = ss.map PyData.str := by
    clear e1
    generalize rangeD 0 m' = ds at pr
    induction pr with
    | nil => exact ⟨[], by simp, rfl⟩
    | cons h _ ih =>
      obtain ⟨i, hi, rfl⟩ := h
      obtain ⟨ss, h1, rfl⟩ := ih
      refine ⟨letter i :: ss, fun x hx => ?_, rfl⟩
      rcases List.mem_cons.mp hx with rfl | hx
      · exact ⟨txOk_letter hi, rfl⟩
      · exact h1 x hx
  have hlen : ss.length = m' := by
    have := pr.length
    rw [hout, List.length_map, range_len] at this
    exact this.symm
  subst hout
  have c2' := mLc_ev (ρ := [some (box a1 b c1), some (.dat N), some (.dat (.str L)), some (.dat S), none, none, none, none]) ir2 (few (by rw [range_len]; omega)) rfl e1
  have hst : TxOk (Txt.join "" ss) := txOk_join fun x hx => (hss x hx).1
  have hsl : (Txt.join "" ss).length ≤ 7 := Nat.le_trans (join_len fun x hx => (hss x hx).2) (by omega)
  have hj := join_ev ss hss (by omega)
  generalize Txt.join "" ss = stem at *
  refine ⟨stem, a3, c3, hst, hsl, ?_⟩
  generalize mLc (iR1 (mCons (mCall [0] fm__law_take (mCons (mVar 0) (mCons (mC (.int 8)) mNil))) mNil)) [6] (gN 6) mYes (mSub (mVar 2) (mCall [0] fm__law_take (mCons (mVar 0) (mCons (mC (.int 26)) mNil)))) = M at c2'
  simp [mSet, mOp2, mPure, mCons, mC, mNil, frz1, c2', restE, looks, lookS, f2, hj, setR, esc]
theorem call_step (N L S T : PyData) (a3 b c3 : Int) : ∃ (t a4 c4 : Int), (t = 1 ∨ t = 7 ∨ t = 25) ∧ mSet 5 (mSub (mLst (mCons (mC (.int 1)) (mCons (mC (.int 7)) (mCons (mC (.int 25)) mNil)))) (mCall [0] fm__law_take (mCons (mVar 0) (mCons (mC (.int 3)) mNil)))) [some (box a3 b c3), some (.dat N), some (.dat L), some (.dat S), some (.dat T), none, none, none]
      = some (.next, [some (box a4 b c4), some (.dat N), some (.dat L), some (.dat S), some (.dat T), some (.dat (.int t)), none, none]) := by
  obtain ⟨u, a4, c4, t4, hu0, hu1⟩ := take_c a3 b c3 3 [some (.dat N), some (.dat L), some (.dat S), some (.dat T), none, none, none] (by decide) (by decide)
  generalize mCall [0] fm__law_take (mCons (mVar 0) (mCons (mC (.int 3)) mNil)) = M at t4
  have hu : u = 0 ∨ u = 1 ∨ u = 2 := by omega
  rcases hu with rfl | rfl | rfl
  · exact ⟨1, a4, c4, .inl rfl, by simp [mSet, mSub, mLst, mCons, mC, mNil, frz1, escAll, esc, t4, dctAt, looks, lookS, ixD, atI, ixN, setR]⟩
  · exact ⟨7, a4, c4, .inr (.inl rfl), by simp [mSet, mSub, mLst, mCons, mC, mNil, frz1, escAll, esc, t4, dctAt, looks, lookS, ixD, atI, ixN, setR]⟩
  · exact ⟨25, a4, c4, .inr (.inr rfl), by simp [mSet, mSub, mLst, mCons, mC, mNil, frz1, escAll, esc, t4, dctAt, looks, lookS, ixD, atI, ixN, setR]⟩
theorem call_names (L : Str) (hL : ∀ i : Int, 0 ≤ i → i < 26 → ixD (.str L) (.int i) = some (.dat (.str (letter i.toNat)))) (B : DV) (n : Nat) (hn : n ≤ 26) (s t : Int) (ht : t = 1 ∨ t = 7 ∨ t = 25) (stem : Str) (hsl : stem.length ≤ 7) :
    mRet (mLc (iR1 (mCons (mVar 1) mNil)) [7] (gN 7) mYes (mOp2 addD (mVar 4) (mSub (mVar 2) (mOp2 modD (mOp2 addD (mVar 3) (mOp2 mulD (mVar 5) (mVar 7))) (mC (.int 26)))))) [some B, some (.dat (.int n)), some (.dat (.str L)), some (.dat (.int s)), some (.dat (.str stem)), some (.dat (.int t)), none, none]
      = some (.ret (.new (.lst (((List.range n).map (nameK stem s t)).map PyData.str))), [some B, some (.dat (.int n)), some (.dat (.str L)), some (.dat (.int s)), some (.dat (.str stem)), some (.dat (.int t)), none, none]) := by
  have l4 : loopC [7] (gN 7) mYes (mOp2 addD (mVar 4) (mSub (mVar 2) (mOp2 modD (mOp2 addD (mVar 3) (mOp2 mulD (mVar 5) (mVar 7))) (mC (.int 26))))) (rangeD 0 n) [] [some B, some (.dat (.int n)), some (.dat (.str L)), some (.dat (.int s)), some (.dat (.str stem)), some (.dat (.int t)), none, none]
      = some (((List.range n).map (nameK stem s t)).map PyData.str, [some B, some (.dat (.int n)), some (.dat (.str L)), some (.dat (.int s)), some (.dat (.str stem)), some (.dat (.int t)), none, none]) := by
    have := loopC_map (vs := [7]) (g := gN 7) (t := mYes) (me := mOp2 addD (mVar 4) (mSub (mVar 2) (mOp2 modD (mOp2 addD (mVar 3) (mOp2 mulD (mVar 5) (mVar 7))) (mC (.int 26))))) (fun k : Nat => PyData.int (0 + (k : Int))) (fun _ => true) (fun k => PyData.str (nameK stem s t k)) [some B, some (.dat (.int n)), some (.dat (.str L)), some (.dat (.int s)), some (.dat (.str stem)), some (.dat (.int t)), none, none] (List.range n) [] (by
      intro k hk
      have cm : cMulB t k = true := by
        rcases ht with rfl | rfl | rfl <;> simp [cMulB]
      have bd := fm_bd (s + t * k) 26 (by decide)
      have hl := hL _ bd.1 bd.2
      have hlen : (letter ((s + t * (k : Int)).fmod 26).toNat).length = 1 := rfl
      have sz : stem.length + (letter ((s + t * (k : Int)).fmod 26).toNat).length ≤ sizeLine := by
        rw [hlen]
        have := few (show stem.length + 1 < 1000000 by omega)
        omega
      refine ⟨_, rfl, .inl ⟨rfl, _, .dat (.str (nameK stem s t k)), [some B, some (.dat (.int n)), some (.dat (.str L)), some (.dat (.int s)), some (.dat (.str stem)), some (.dat (.int t)), none, some (.dat (.int (0 + (k : Int))))], _, rfl, ?_, rfl, rfl⟩⟩
      simp [mOp2, mPure, mCons, mVar, mSub, mC, mNil, frz1, looks, lookS, f2, mulD, fOr, i2c, cm, addD, i2, modD, cModB, dctAt, hl, catS, sz, nameK])
    rw [show rangeD 0 n = (List.range n).map fun k : Nat => PyData.int (0 + (k : Int)) from rfl, this, List.filter_eq_self.mpr (by simp), List.map_map]
    rfl
  have i4 : iR1 (mCons (mVar 1) mNil) [some B, some (.dat (.int n)), some (.dat (.str L)), some (.dat (.int s)), some (.dat (.str stem)), some (.dat (.int t)), none, none] = some (rangeD 0 n, [some B, some (.dat (.int n)), some (.dat (.str L)), some (.dat (.int s)), some (.dat (.str stem)), some (.dat (.int t)), none, none]) := by
    have e : mCons (mVar 1) mNil [some B, some (.dat (.int n)), some (.dat (.str L)), some (.dat (.int s)), some (.dat (.str stem)), some (.dat (.int t)), none, none] = some ([.dat (.int n)], [some B, some (.dat (.int n)), some (.dat (.str L)), some (.dat (.int s)), some (.dat (.str stem)), some (.dat (.int t)), none, none]) := by
      simp [mCons, mVar, mNil, frz1]
    unfold iR1
    rw [e]
    dsimp only
    rw [if_pos ⟨by omega, by omega⟩, Int.toNat_natCast]
  have c4' := mLc_ev i4 (few (by rw [range_len]; omega)) rfl l4
  exact ret_ev (c4'.trans rfl)
theorem call_run {m1 m2 m3 m4 : MS} {r : Rs} {d : PyData} {B B1 B2 B3 : DV} {ρ1 ρ2 ρ3 ρ4 : En} (h1 : m1 [some B, some (.dat d), none, none, none, none, none, none] = some (.next, ρ1)) (h2 : m2 ρ1 = some (.next, ρ2)) (h3 : m3 ρ2 = some (.next, ρ3)) (h4 : m4 ρ3 = some (.ret r, ρ4)) :
    mSeq m1 (mSeq m2 (mSeq m3 m4)) [some B, some (.dat d), none, none, none, none, none, none] = some (.ret r, ρ4) := by
  simp only [mSeq, h1, h2, h3, h4]
theorem callings_gen (L : Str) (hL : ∀ i : Int, 0 ≤ i → i < 26 → ixD (.str L) (.int i) = some (.dat (.str (letter i.toNat)))) (a b c : Int) (n : Nat) (hn : n ≤ 26) : ∃ (names : List Str) (a' b' c' : Int), names.length = n ∧ names.Nodup ∧ (∀ x ∈ names, TxOk x) ∧
    runF 2 8 [0] (mSeq (mPar2 2 3 (mC (.str L)) (mCall [0] fm__law_take (mCons (mVar 0) (mCons (mC (.int 26)) mNil)))) (mSeq (mSet 4 (mOp2 joinD (mC (.str "")) (mLc (iR1 (mCons (mCall [0] fm__law_take (mCons (mVar 0) (mCons (mC (.int 8)) mNil))) mNil)) [6] (gN 6) mYes (mSub (mVar 2) (mCall [0] fm__law_take (mCons (mVar 0) (mCons (mC (.int 26)) mNil))))))) (mSeq (mSet 5 (mSub (mLst (mCons (mC (.int 1)) (mCons (mC (.int 7)) (mCons (mC (.int 25)) mNil)))) (mCall [0] fm__law_take (mCons (mVar 0) (mCons (mC (.int 3)) mNil))))) (mRet (mLc (iR1 (mCons (mVar 1) mNil)) [7] (gN 7) mYes (mOp2 addD (mVar 4) (mSub (mVar 2) (mOp2 modD (mOp2 addD (mVar 3) (mOp2 mulD (mVar 5) (mVar 7))) (mC (.int 26)))))))))) [box a b c, .dat (.int n)] = some (.new (.lst (names.map PyData.str)), [box a' b' c', .dat (.int n)]) := by
  obtain ⟨s, a1, c1, t1, hs0, hs1⟩ := take_c a b c 26 [some (.dat (.int n)), none, none, none, none, none, none] (by decide) (by decide)
  have p1 : mPar2 2 3 (mC (.str L)) (mCall [0] fm__law_take (mCons (mVar 0) (mCons (mC (.int 26)) mNil))) [some (box a b c), some (.dat (.int n)), none, none, none, none, none, none]
      = some (.next, [some (box a1 b c1), some (.dat (.int n)), some (.dat (.str L)), some (.dat (.int s)), none, none, none, none]) := by
    generalize mCall [0] fm__law_take (mCons (mVar 0) (mCons (mC (.int 26)) mNil)) = M at t1
    simp [mPar2, mC, t1, noSlot, setN]
  obtain ⟨stem, a3, c3, hst, hsl, s2⟩ := call_stem L hL (.int n) (.int s) a1 b c1
  obtain ⟨t, a4, c4, ht, s3⟩ := call_step (.int n) (.str L) (.int s) (.str stem) a3 b c3
  have s4 := call_names L hL (box a4 b c4) n hn s t ht stem hsl
  refine ⟨(List.range n).map (nameK stem s t), a4, b, c4, by simp, ?_, fun x hx => ?_, ?_⟩
  · rw [List.Nodup, List.pairwise_map]
    refine (List.nodup_range (n := n)).imp_of_mem fun {i j} hi hj hne z => hne (nameK_inj ht ?_ ?_ z)
    · have := List.mem_range.mp hi; omega
    · have := List.mem_range.mp hj; omega
  · obtain ⟨k, _, rfl⟩ := List.mem_map.mp hx
    exact nameK_ok hst s t k
  · have := call_run (B1 := box a b c) (B2 := box a b c) (B3 := box a b c) p1 s2 s3 s4
    unfold runF
    generalize mSeq (mPar2 2 3 (mC (.str L)) (mCall [0] fm__law_take (mCons (mVar 0) (mCons (mC (.int 26)) mNil)))) _ = M at this ⊢
    simp [okArgs, Mw.em, this, finF, outR, outA]
theorem callings_spec (a b c : Int) (n : Nat) (hn : n ≤ 26) : ∃ (names : List Str) (a' b' c' : Int), names.length = n ∧ names.Nodup ∧ (∀ x ∈ names, TxOk x) ∧
    fm__law_callings [box a b c, .dat (.int n)] = some (.new (.lst (names.map PyData.str)), [box a' b' c', .dat (.int n)]) := by
  unfold fm__law_callings m__law_callings
  exact callings_gen letters letter_at a b c n hn
-- part j
theorem cut_take (ds : List PyData) (k : Nat) : Mw.cutD ds none (some (k : Int)) = ds.take k := by
  unfold Mw.cutD
  rw [HT.sIx_none, HT.sIx_nat, List.drop_zero, Nat.sub_zero]
  by_cases h : k ≤ ds.length
  · rw [Nat.min_eq_left h]
  · rw [Nat.min_eq_right (by omega), List.take_of_length_le (Nat.le_refl _), List.take_of_length_le (by omega)]
theorem seq_next {m1 m2 : MS} {ρ ρ1 : En} (h : m1 ρ = some (.next, ρ1)) : mSeq m1 m2 ρ = m2 ρ1 := by
  unfold mSeq
  rw [h]
/-! ### sums of uses -/
def bump (u : Str → Int) (x : Str) : Str → Int := fun y => if y = x then u y + 1 else u y
theorem sum_bump_notin (u : Str → Int) (x : Str) : ∀ l : List Str, x ∉ l → (l.map (bump u x)).sum = (l.map u).sum
  | [], _ => rfl
  | y :: l, h => by
    have h1 : y ≠ x := fun z => h (z ▸ List.mem_cons_self)
    have h2 : x ∉ l := fun z => h (List.mem_cons_of_mem _ z)
    rw [List.map_cons, List.map_cons, List.sum_cons, List.sum_cons, sum_bump_notin u x l h2]
    simp [bump, h1]
theorem sum_bump (u : Str → Int) (x : Str) : ∀ l : List Str, l.Nodup → x ∈ l → (l.map (bump u x)).sum = (l.map u).sum + 1
  | [], _, h => by cases h
  | y :: l, nd, h => by
    rw [List.nodup_cons] at nd
    rw [List.map_cons, List.map_cons, List.sum_cons, List.sum_cons]
    by_cases e : y = x
    · subst e
      rw [sum_bump_notin u y l nd.1]
      simp [bump]
      omega
    · have h2 : x ∈ l := (List.mem_cons.mp h).resolve_left fun z => e z.symm
      rw [sum_bump u x l nd.2 h2]
      simp [bump, e]
      omega
theorem sum_six (u : Str → Int) : ∀ l : List Str, (∀ x ∈ l, 6 ≤ u x) → 6 * (l.length : Int) ≤ (l.map u).sum
  | [], _ => by simp
  | y :: l, h => by
    have := sum_six u l fun x hx => h x (List.mem_cons_of_mem _ hx)
    have := h y List.mem_cons_self
    rw [List.map_cons, List.sum_cons, List.length_cons]
    omega
theorem sum_nonneg' (u : Str → Int) : ∀ l : List Str, (∀ x ∈ l, 0 ≤ u x) → 0 ≤ (l.map u).sum
  | [], _ => by simp
  | y :: l, h => by
    have := sum_nonneg' u l fun x hx => h x (List.mem_cons_of_mem _ hx)
    have := h y List.mem_cons_self
    rw [List.map_cons, List.sum_cons]
    omega
/-- some name of the first k is used less than six times -/
theorem some_free (u : Str → Int) (names : List Str) (k : Nat) (hk : 0 < k) (hk2 : k ≤ names.length) (h0 : ∀ x ∈ names, 0 ≤ u x) (hs : (names.map u).sum ≤ 2 * k) : ((names.take k).filter fun x => decide (u x < 6)) ≠ [] := by
  intro z
  rw [List.filter_eq_nil_iff] at z
  have h1 := sum_six u (names.take k) fun x hx => by
    have := z x hx
    simp only [decide_eq_true_eq] at this
    omega
  have h2 := sum_nonneg' u (names.drop k) fun x hx => h0 x (List.drop_subset _ _ hx)
  have h3 : (names.map u).sum = ((names.take k).map u).sum + ((names.drop k).map u).sum := by
    rw [← List.sum_append, ← List.map_append, List.take_append_drop]
  rw [List.length_take, Nat.min_eq_left hk2] at h1
  omega
/-! ### links -/
/-- a wood: each tie leads from a name to the one that it was tied to, which is of lesser rank -/
structure Forest (ts : List Ti) (par : Str → Option Str) (rank : Str → Nat) : Prop where
  tie : ∀ t ∈ ts, par t.1 = some t.2.1 ∨ par t.2.1 = some t.1
  up : ∀ x y, par x = some y → rank y < rank x ∧ ∃ t ∈ ts, between x y t = true
structure Lk (names : List Str) (k : Nat) (ts : List Ti) (U : List (Key × Pd)) (u : Str → Int) : Prop where
  wood : ∃ par, Forest ts par (fun x => names.idxOf x) ∧ ∀ x, x ∉ names.take k → par x = none
  mem : ∀ t ∈ ts, t.1 ∈ names.take k ∧ t.2.1 ∈ names.take k ∧ t.1 ≠ t.2.1
  ap : ts.Pairwise Apart
  len : ts.length + 1 ≤ k
  val : ∀ x ∈ names, valP U (.inr x) = some (.int (u x))
  pos : ∀ x ∈ names, 0 ≤ u x
  sum : (names.map u).sum = 2 * ts.length
  sz : U.length ≤ 26 + 2 * k
theorem apart_comm {s t : Ti} (h : Apart s t) : Apart t s := fun z => h (by
  rcases z with ⟨h1, h2⟩ | ⟨h1, h2⟩
  · exact .inl ⟨h1.symm, h2.symm⟩
  · exact .inr ⟨h2.symm, h1.symm⟩)
def tieOf (x y : Str) (g : Int) : Ti := (if y.cps.toList < x.cps.toList then y else x, if x.cps.toList < y.cps.toList then y else x, g)
theorem str_total {x y : Str} (h1 : ¬ x.cps.toList < y.cps.toList) (h2 : ¬ y.cps.toList < x.cps.toList) : x = y := by
  have e : x.cps.toList = y.cps.toList := List.le_antisymm (List.not_lt.mp h2) (List.not_lt.mp h1)
  cases x
  cases y
  simp only [Str.mk.injEq]
  exact Array.toList_inj.mp e
theorem tieOf_cases {x y : Str} (h : x ≠ y) (g : Int) : tieOf x y g = (x, y, g) ∨ tieOf x y g = (y, x, g) := by
  unfold tieOf
  by_cases h1 : x.cps.toList < y.cps.toList
  · have h2 : ¬ y.cps.toList < x.cps.toList := List.lt_asymm h1
    rw [if_pos h1, if_neg h2]
    exact .inl rfl
  · by_cases h2 : y.cps.toList < x.cps.toList
    · rw [if_pos h2, if_neg h1]
      exact .inr rfl
    · exact absurd (str_total h1 h2) h
theorem mem_take_succ {names : List Str} {k : Nat} (hk : k < names.length) {x : Str} (h : x ∈ names.take k) : x ∈ names.take (k + 1) := by
  rw [List.take_succ]
  exact List.mem_append_left _ h
theorem nth_take {names : List Str} {k : Nat} (hk : k < names.length) : names[k] ∈ names.take (k + 1) := by
  rw [List.take_succ, List.getElem?_eq_getElem hk]
  exact List.mem_append_right _ (List.mem_singleton.mpr rfl)
theorem nth_not {names : List Str} (nd : names.Nodup) {k : Nat} (hk : k < names.length) : names[k] ∉ names.take k := by
  intro h
  obtain ⟨i, hi, e⟩ := List.getElem_of_mem h
  rw [List.length_take] at hi
  rw [List.getElem_take] at e
  have := (List.getElem_inj nd).mp e
  omega
theorem idx_nth {names : List Str} (nd : names.Nodup) {i : Nat} {hi : i < names.length} : names.idxOf names[i] = i := nd.idxOf_getElem i hi
/-- one more tie -/
theorem Lk.more {names : List Str} (nd : names.Nodup) {k : Nat} (hk : k < names.length) {ts : List Ti} {U : List (Key × Pd)} {u : Str → Int} (h : Lk names k ts U u) {x : Str} (hx : x ∈ names.take k) (g : Int) :
    Lk names (k + 1) (ts ++ [tieOf x names[k] g]) (putP (putP U (.inr x) (.int (u x + 1))) (.inr names[k]) (.int (u names[k] + 1))) (bump (bump u x) names[k]) := by
  have hxn : x ∈ names := List.take_subset _ _ hx
  have hkn : names[k] ∈ names := List.getElem_mem hk
  have ne : x ≠ names[k] := fun z => nth_not nd hk (z ▸ hx)
  refine ⟨?_, fun t ht => ?_, ?_, ?_, fun y hy => ?_, fun y hy => ?_, ?_, ?_⟩
  · obtain ⟨par, ⟨f1, f2⟩, f3⟩ := h.wood
    have nk := nth_not nd hk
    have hxk : names.idxOf x < k := by
      obtain ⟨i, hi, e⟩ := List.getElem_of_mem hx
      rw [List.length_take] at hi
      rw [List.getElem_take] at e
      rw [← e, idx_nth nd]
      omega
    refine ⟨fun y => if y = names[k] then some x else par y, ⟨fun t ht => ?_, fun y z e => ?_⟩, fun y hy => ?_⟩
    · rcases List.mem_append.mp ht with ht | ht
      · obtain ⟨h1, h2, _⟩ := h.mem t ht
        have n1 : t.1 ≠ names[k] := fun z => nk (z ▸ h1)
        have n2 : t.2.1 ≠ names[k] := fun z => nk (z ▸ h2)
        rw [if_neg n1, if_neg n2]
        exact f1 t ht
      · rw [List.mem_singleton] at ht
        subst ht
        rcases tieOf_cases ne g with e | e <;> rw [e] <;> dsimp only
        · exact .inr (if_pos rfl)
        · exact .inl (if_pos rfl)
    · by_cases hy : y = names[k]
      · rw [if_pos hy] at e
        cases e
        subst hy
        refine ⟨?_, tieOf x names[k] g, by simp, ?_⟩
        · rw [idx_nth nd]
          exact hxk
        · rcases tieOf_cases ne g with e | e <;> rw [e] <;> simp [between]
      · rw [if_neg hy] at e
        obtain ⟨g1, t, g2, g3⟩ := f2 y z e
        exact ⟨g1, t, List.mem_append_left _ g2, g3⟩
    · have hy1 : y ≠ names[k] := fun z => hy (z ▸ nth_take hk)
      show (if y = names[k] then some x else par y) = none
      rw [if_neg hy1]
      exact f3 y fun z => hy (mem_take_succ hk z)
  · rcases List.mem_append.mp ht with ht | ht
    · obtain ⟨h1, h2, h3⟩ := h.mem t ht
      exact ⟨mem_take_succ hk h1, mem_take_succ hk h2, h3⟩
    · rw [List.mem_singleton] at ht
      subst ht
      rcases tieOf_cases ne g with e | e <;> rw [e]
      · exact ⟨mem_take_succ hk hx, nth_take hk, ne⟩
      · exact ⟨nth_take hk, mem_take_succ hk hx, ne.symm⟩
  · rw [List.pairwise_append]
    refine ⟨h.ap, List.pairwise_singleton _ _, fun s hs t ht z => ?_⟩
    rw [List.mem_singleton] at ht
    subst ht
    obtain ⟨h1, h2, _⟩ := h.mem s hs
    have nk := nth_not nd hk
    rcases tieOf_cases ne g with e | e <;> rw [e] at z <;> rcases z with ⟨z1, z2⟩ | ⟨z1, z2⟩ <;> dsimp only at z1 z2
    · exact nk (z2 ▸ h2)
    · exact nk (z1 ▸ h1)
    · exact nk (z1 ▸ h1)
    · exact nk (z2 ▸ h2)
  · rw [List.length_append, List.length_singleton]
    have := h.len
    omega
  · by_cases e1 : y = names[k]
    · subst e1
      rw [valP_put_same]
      simp [bump, ne.symm]
    · rw [valP_put_ne _ _ _ _ fun z => e1 (Sum.inr.inj z).symm]
      by_cases e2 : y = x
      · subst e2
        rw [valP_put_same]
        simp [bump, e1]
      · rw [valP_put_ne _ _ _ _ fun z => e2 (Sum.inr.inj z).symm, h.val y hy]
        simp [bump, e1, e2]
  · have := h.pos y hy
    unfold bump
    split <;> split <;> omega
  · rw [sum_bump _ _ _ nd hkn, sum_bump _ _ _ nd hxn, h.sum, List.length_append, List.length_singleton]
    omega
  · have h1 := putP_len U (.inr x) (.int (u x + 1))
    have h2 := putP_len (putP U (.inr x) (.int (u x + 1))) (.inr names[k]) (.int (u names[k] + 1))
    have := h.sz
    omega
theorem Lk.less {names : List Str} {k : Nat} (hk : k < names.length) {ts : List Ti} {U : List (Key × Pd)} {u : Str → Int} (h : Lk names k ts U u) : Lk names (k + 1) ts U u :=
  ⟨let ⟨par, f, f3⟩ := h.wood; ⟨par, f, fun x hx => f3 x fun z => hx (mem_take_succ hk z)⟩, fun t ht => let ⟨a, b, c⟩ := h.mem t ht; ⟨mem_take_succ hk a, mem_take_succ hk b, c⟩, h.ap, by have := h.len; omega, h.val, h.pos, h.sum, by have := h.sz; omega⟩
theorem links_step (names : List Str) (nd : names.Nodup) (tx : ∀ x ∈ names, TxOk x) (hl : names.length ≤ 26) (w o : Int) (ho : 0 < o) (ho2 : o < 1000000) (k : Nat) (hk0 : 0 < k) (hk : k < names.length) (a b c : Int) (ts : List Ti) (U : List (Key × Pd)) (u : Str → Int) (h : Lk names k ts U u) (e6 e7 e8 e9 : Option DV) :
    ∃ a' c' ts' U' u' e7' e8' e9', Lk names (k + 1) ts' U' u' ∧ (mSeq (mSet 7 (mLc (iE (mSl (mVar 2) oNone (oSome (mVar 6)))) [10] (gN 10) (mB (mOp2 ltD (mSub (mVar 5) (mVar 10)) (mC (.int 6)))) (mVar 10))) (mSeq (mSet 8 (mSub (mVar 7) (mCall [0] fm__law_take (mCons (mVar 0) (mCons (mOp1 lenD (mVar 7)) mNil))))) (mSeq (mSet 9 (mCall [] fm__law_round (mCons (mVar 1) (mCons (mOp2 subD (mCall [0] fm__law_take (mCons (mVar 0) (mCons (mC (.int 60)) mNil))) (mC (.int 20))) mNil)))) (mIfS (mB (mOp2 gtD (mCall [0] fm__law_take (mCons (mVar 0) (mCons (mVar 3) mNil))) (mC (.int 0)))) (mSeq (mDrop (mMeth fAppend (mVar 4) (mCons (mTup (mCons (mOp2 minD (mVar 8) (mSub (mVar 2) (mVar 6))) (mCons (mOp2 maxD (mVar 8) (mSub (mVar 2) (mVar 6))) (mCons (mVar 9) mNil)))) mNil))) (mSeq (mSetI (mOp2 addD (mSub (mVar 5) (mVar 8)) (mC (.int 1))) (mVar 5) (mVar 8)) (mSetI (mOp2 addD (mSub (mVar 5) (mSub (mVar 2) (mVar 6))) (mC (.int 1))) (mVar 5) (mSub (mVar 2) (mVar 6))))) mSkip))))
      [some (box a b c), some (.dat (.int w)), some (.dat (.list (names.map PyData.str))), some (.dat (.int o)), some (.obj (.lst (ts.map tiD))), some (.obj (.dct U)), some (.dat (.int k)), e7, e8, e9, none]
      = some (.next, [some (box a' b c'), some (.dat (.int w)), some (.dat (.list (names.map PyData.str))), some (.dat (.int o)), some (.obj (.lst (ts'.map tiD))), some (.obj (.dct U')), some (.dat (.int k)), e7', e8', e9', none]) := by
  generalize hN : (.list (names.map PyData.str) : PyData) = N
  -- the free ones
  have l1 : ∀ (B : DV) (W O K : PyData) (f7 f8 f9 : Option DV) (T : OB), loopC [10] (gN 10) (mB (mOp2 ltD (mSub (mVar 5) (mVar 10)) (mC (.int 6)))) (mVar 10) ((names.take k).map PyData.str) [] [some B, some (.dat W), some (.dat N), some (.dat O), some (.obj T), some (.obj (.dct U)), some (.dat K), f7, f8, f9, none]
      = some (((names.take k).filter fun x => decide (u x < 6)).map PyData.str, [some B, some (.dat W), some (.dat N), some (.dat O), some (.obj T), some (.obj (.dct U)), some (.dat K), f7, f8, f9, none]) := by
    intro B W O K f7 f8 f9 T
    have := loopC_map (vs := [10]) (g := gN 10) (t := mB (mOp2 ltD (mSub (mVar 5) (mVar 10)) (mC (.int 6)))) (me := mVar 10) PyData.str (fun x => decide (u x < 6)) PyData.str [some B, some (.dat W), some (.dat N), some (.dat O), some (.obj T), some (.obj (.dct U)), some (.dat K), f7, f8, f9, none] (names.take k) [] (by
      intro x hx
      have hv := h.val x (List.take_subset _ _ hx)
      have ht : mB (mOp2 ltD (mSub (mVar 5) (mVar 10)) (mC (.int 6))) [some B, some (.dat W), some (.dat N), some (.dat O), some (.obj T), some (.obj (.dct U)), some (.dat K), f7, f8, f9, some (.dat (.str x))] = some (decide (u x < 6), [some B, some (.dat W), some (.dat N), some (.dat O), some (.obj T), some (.obj (.dct U)), some (.dat K), f7, f8, f9, some (.dat (.str x))]) := by
        simp [runF, okArgs, em, mSeq, mIfS, mB, mOp2, mOp1, mPure, mCons, mVar, mC, mNil, frz1, looks, lookS, f1, f2, mSkip, mRet, mRetN, mDrop, gtD, geD, ltD, leD, isD, isnD, addD, subD, mulD, modD, fdivD, powD, negD, fOr, i2, i2c, mSub, finF, outR, outA, mSet, mSetI, toD, esc, escAll, setItemAt, dctAt, setAt, ixD, atI, ixN, setR, mTru, truS, truD, mAnd, mOr, mNot, mAndV, mOrV, mNotV, mIf, mTup, mLst, mAsg, gN, gT, gsCons, gsNil, mChain, mCall, escB, argsOf, slotsOf, putBack, iE, itemsD, mPar2, wipeE, restE, noOwn, mYes, lenD, absD, Mw.intD, listD, tupleD, mSl, oNone, oSome, slD, mMeth, lstAt, fAppend, mSetT, setTAt, mGetT, dttAt, mD0, mD0T, mPar3, noSlot, setN, mIn, isiD, tyD, isTy, eqD_int, neD_int, eqD_bool, neD_bool, eqD_ii, Mw.keyOf, mLc, mFor, mNeverS, revD, hv]
      refine ⟨_, rfl, ?_⟩
      cases hd : decide (u x < 6) with
      | true =>
        rw [hd] at ht
        exact .inl ⟨rfl, _, _, _, _, ht, rfl, rfl, rfl⟩
      | false =>
        rw [hd] at ht
        exact .inr ⟨rfl, _, ht, rfl⟩)
    rw [this]
    simp
  have ne := some_free u names k hk0 (Nat.le_of_lt hk) h.pos (by have := h.sum; have := h.len; omega)
  generalize hF : ((names.take k).filter fun x => decide (u x < 6)) = FR at *
  have hFR : ∀ x ∈ FR, x ∈ names.take k := fun x hx => by
    rw [← hF] at hx
    exact (List.mem_filter.mp hx).1
  have hFl : FR.length ≤ 26 := by
    rw [← hF]
    have := List.length_filter_le (fun x => decide (u x < 6)) (names.take k)
    rw [List.length_take] at this
    omega
  have i1 : iE (mSl (mVar 2) oNone (oSome (mVar 6))) [some (box a b c), some (.dat (.int w)), some (.dat N), some (.dat (.int o)), some (.obj (.lst (ts.map tiD))), some (.obj (.dct U)), some (.dat (.int k)), e7, e8, e9, none] = some ((names.take k).map PyData.str, [some (box a b c), some (.dat (.int w)), some (.dat N), some (.dat (.int o)), some (.obj (.lst (ts.map tiD))), some (.obj (.dct U)), some (.dat (.int k)), e7, e8, e9, none]) := by
    subst hN
    simp [runF, okArgs, em, mSeq, mIfS, mB, mOp2, mOp1, mPure, mCons, mVar, mC, mNil, frz1, looks, lookS, f1, f2, mSkip, mRet, mRetN, mDrop, gtD, geD, ltD, leD, isD, isnD, addD, subD, mulD, modD, fdivD, powD, negD, fOr, i2, i2c, mSub, finF, outR, outA, mSet, mSetI, toD, esc, escAll, setItemAt, dctAt, setAt, ixD, atI, ixN, setR, mTru, truS, truD, mAnd, mOr, mNot, mAndV, mOrV, mNotV, mIf, mTup, mLst, mAsg, gN, gT, gsCons, gsNil, mChain, mCall, escB, argsOf, slotsOf, putBack, iE, itemsD, mPar2, wipeE, restE, noOwn, mYes, lenD, absD, Mw.intD, listD, tupleD, mSl, oNone, oSome, slD, mMeth, lstAt, fAppend, mSetT, setTAt, mGetT, dttAt, mD0, mD0T, mPar3, noSlot, setN, mIn, isiD, tyD, isTy, eqD_int, neD_int, eqD_bool, neD_bool, eqD_ii, Mw.keyOf, mLc, mFor, mNeverS, revD, cut_take, List.map_take]
  have c1 := mLc_ev i1 (few (by rw [List.length_map, List.length_take]; omega)) rfl (l1 (box a b c) (.int w) (.int o) (.int k) e7 e8 e9 (.lst (ts.map tiD)))
  have s1 := set_new (i := 7) (c1.trans rfl) (by simp [restE])
  have s1' : mSet 7 (mLc (iE (mSl (mVar 2) oNone (oSome (mVar 6)))) [10] (gN 10) (mB (mOp2 ltD (mSub (mVar 5) (mVar 10)) (mC (.int 6)))) (mVar 10)) [some (box a b c), some (.dat (.int w)), some (.dat N), some (.dat (.int o)), some (.obj (.lst (ts.map tiD))), some (.obj (.dct U)), some (.dat (.int k)), e7, e8, e9, none]
      = some (.next, [some (box a b c), some (.dat (.int w)), some (.dat N), some (.dat (.int o)), some (.obj (.lst (ts.map tiD))), some (.obj (.dct U)), some (.dat (.int k)), some (.obj (.lst (FR.map PyData.str))), e8, e9, none]) := s1
  clear s1 c1 i1 l1
  -- which of them
  have hpos : 0 < FR.length := List.length_pos_iff.mpr ne
  obtain ⟨r, a1, c1, t1, hr0, hr1⟩ := take_ev (m := mOp1 lenD (mVar 7)) a b c FR.length [some (.dat (.int w)), some (.dat N), some (.dat (.int o)), some (.obj (.lst (ts.map tiD))), some (.obj (.dct U)), some (.dat (.int k)), some (.obj (.lst (FR.map PyData.str))), e8, e9, none] (by omega) (by omega) (by simp [mOp1, mPure, mCons, mVar, mNil, frz1, looks, lookS, f1, lenD])
  obtain ⟨r', rfl⟩ := Int.eq_ofNat_of_zero_le hr0
  have hr' : r' < FR.length := by omega
  have s2 : mSet 8 (mSub (mVar 7) (mCall [0] fm__law_take (mCons (mVar 0) (mCons (mOp1 lenD (mVar 7)) mNil)))) [some (box a b c), some (.dat (.int w)), some (.dat N), some (.dat (.int o)), some (.obj (.lst (ts.map tiD))), some (.obj (.dct U)), some (.dat (.int k)), some (.obj (.lst (FR.map PyData.str))), e8, e9, none]
      = some (.next, [some (box a1 b c1), some (.dat (.int w)), some (.dat N), some (.dat (.int o)), some (.obj (.lst (ts.map tiD))), some (.obj (.dct U)), some (.dat (.int k)), some (.obj (.lst (FR.map PyData.str))), some (.dat (.str FR[r'])), e9, none]) := by
    generalize mCall [0] fm__law_take (mCons (mVar 0) (mCons (mOp1 lenD (mVar 7)) mNil)) = M at t1 ⊢
    simp [mSet, mSub, mCons, mVar, mNil, frz1, t1, dctAt, looks, lookS, ixD, atI, ixN, hr', setR, esc]
  have hx := hFR _ (List.getElem_mem hr')
  generalize FR[r'] = x at *
  -- the mirror
  obtain ⟨q, a2, c2, t2, _, _⟩ := take_c a1 b c1 60 [some (.dat (.int w)), some (.dat N), some (.dat (.int o)), some (.obj (.lst (ts.map tiD))), some (.obj (.dct U)), some (.dat (.int k)), some (.obj (.lst (FR.map PyData.str))), some (.dat (.str x)), e9, none] (by decide) (by decide)
  have s3 : mSet 9 (mCall [] fm__law_round (mCons (mVar 1) (mCons (mOp2 subD (mCall [0] fm__law_take (mCons (mVar 0) (mCons (mC (.int 60)) mNil))) (mC (.int 20))) mNil))) [some (box a1 b c1), some (.dat (.int w)), some (.dat N), some (.dat (.int o)), some (.obj (.lst (ts.map tiD))), some (.obj (.dct U)), some (.dat (.int k)), some (.obj (.lst (FR.map PyData.str))), some (.dat (.str x)), e9, none]
      = some (.next, [some (box a2 b c2), some (.dat (.int w)), some (.dat N), some (.dat (.int o)), some (.obj (.lst (ts.map tiD))), some (.obj (.dct U)), some (.dat (.int k)), some (.obj (.lst (FR.map PyData.str))), some (.dat (.str x)), some (.dat (.int (cnt w (q - 20)))), none]) := by
    generalize mCall [0] fm__law_take (mCons (mVar 0) (mCons (mC (.int 60)) mNil)) = M at t2 ⊢
    simp [runF, okArgs, em, mSeq, mIfS, mB, mOp2, mOp1, mPure, mCons, mVar, mC, mNil, frz1, looks, lookS, f1, f2, mSkip, mRet, mRetN, mDrop, gtD, geD, ltD, leD, isD, isnD, addD, subD, mulD, modD, fdivD, powD, negD, fOr, i2, i2c, mSub, finF, outR, outA, mSet, mSetI, toD, esc, escAll, setItemAt, dctAt, setAt, ixD, atI, ixN, setR, mTru, truS, truD, mAnd, mOr, mNot, mAndV, mOrV, mNotV, mIf, mTup, mLst, mAsg, gN, gT, gsCons, gsNil, mChain, mCall, escB, argsOf, slotsOf, putBack, iE, itemsD, mPar2, wipeE, restE, noOwn, mYes, lenD, absD, Mw.intD, listD, tupleD, mSl, oNone, oSome, slD, mMeth, lstAt, fAppend, mSetT, setTAt, mGetT, dttAt, mD0, mD0T, mPar3, noSlot, setN, mIn, isiD, tyD, isTy, eqD_int, neD_int, eqD_bool, neD_bool, eqD_ii, Mw.keyOf, mLc, mFor, mNeverS, revD, t2, round_spec]
  generalize cnt w (q - 20) = gl at *
  -- whether
  obtain ⟨v, a3, c3, t3, hv0, _⟩ := take_ev (m := mVar 3) a2 b c2 o [some (.dat (.int w)), some (.dat N), some (.dat (.int o)), some (.obj (.lst (ts.map tiD))), some (.obj (.dct U)), some (.dat (.int k)), some (.obj (.lst (FR.map PyData.str))), some (.dat (.str x)), some (.dat (.int gl)), none] ho ho2 (by simp [mVar])
  have ht : mB (mOp2 gtD (mCall [0] fm__law_take (mCons (mVar 0) (mCons (mVar 3) mNil))) (mC (.int 0))) [some (box a2 b c2), some (.dat (.int w)), some (.dat N), some (.dat (.int o)), some (.obj (.lst (ts.map tiD))), some (.obj (.dct U)), some (.dat (.int k)), some (.obj (.lst (FR.map PyData.str))), some (.dat (.str x)), some (.dat (.int gl)), none]
      = some (decide (0 < v), [some (box a3 b c3), some (.dat (.int w)), some (.dat N), some (.dat (.int o)), some (.obj (.lst (ts.map tiD))), some (.obj (.dct U)), some (.dat (.int k)), some (.obj (.lst (FR.map PyData.str))), some (.dat (.str x)), some (.dat (.int gl)), none]) := by
    generalize mCall [0] fm__law_take (mCons (mVar 0) (mCons (mVar 3) mNil)) = M at t3 ⊢
    simp [runF, okArgs, em, mSeq, mIfS, mB, mOp2, mOp1, mPure, mCons, mVar, mC, mNil, frz1, looks, lookS, f1, f2, mSkip, mRet, mRetN, mDrop, gtD, geD, ltD, leD, isD, isnD, addD, subD, mulD, modD, fdivD, powD, negD, fOr, i2, i2c, mSub, finF, outR, outA, mSet, mSetI, toD, esc, escAll, setItemAt, dctAt, setAt, ixD, atI, ixN, setR, mTru, truS, truD, mAnd, mOr, mNot, mAndV, mOrV, mNotV, mIf, mTup, mLst, mAsg, gN, gT, gsCons, gsNil, mChain, mCall, escB, argsOf, slotsOf, putBack, iE, itemsD, mPar2, wipeE, restE, noOwn, mYes, lenD, absD, Mw.intD, listD, tupleD, mSl, oNone, oSome, slD, mMeth, lstAt, fAppend, mSetT, setTAt, mGetT, dttAt, mD0, mD0T, mPar3, noSlot, setN, mIn, isiD, tyD, isTy, eqD_int, neD_int, eqD_bool, neD_bool, eqD_ii, Mw.keyOf, mLc, mFor, mNeverS, revD, t3]
  rw [seq_next s1', seq_next s2, seq_next s3]
  unfold mIfS
  rw [ht]
  by_cases hv : 0 < v
  · rw [decide_eq_true hv]
    dsimp only
    have hxn : x ∈ names := List.take_subset _ _ hx
    have hkn : names[k] ∈ names := List.getElem_mem hk
    have nek : x ≠ names[k] := fun z => nth_not nd hk (z ▸ hx)
    refine ⟨a3, c3, ts ++ [tieOf x names[k] gl], putP (putP U (.inr x) (.int (u x + 1))) (.inr names[k]) (.int (u names[k] + 1)), _, some (.obj (.lst (FR.map PyData.str))), some (.dat (.str x)), some (.dat (.int gl)), h.more nd hk hx gl, ?_⟩
    have hat : ∀ (B : DV) (W O : PyData) (f4 f5 f7 f8 f9 f10 : Option DV), mSub (mVar 2) (mVar 6) [some B, some (.dat W), some (.dat N), some (.dat O), f4, f5, some (.dat (.int k)), f7, f8, f9, f10] = some (.dat (.str names[k]), [some B, some (.dat W), some (.dat N), some (.dat O), f4, f5, some (.dat (.int k)), f7, f8, f9, f10]) := by
      intros
      subst hN
      simp [mSub, mCons, mVar, mNil, frz1, dctAt, looks, lookS, ixD, atI, ixN, hk]
    generalize mSub (mVar 2) (mVar 6) = NK at hat ⊢
    have hz : ts.length < sizeLine := few (by have := h.len; omega)
    have hu1 : U.length < sizeLine := few (by have := h.sz; omega)
    have hu2 : (putP U (.inr x) (.int (u x + 1))).length < sizeLine := few (by have := h.sz; have := putP_len U (.inr x) (.int (u x + 1)); omega)
    have v1 := h.val x hxn
    have v2 : valP (putP U (.inr x) (.int (u x + 1))) (.inr names[k]) = some (.int (u names[k])) := by
      rw [valP_put_ne _ _ _ _ fun z => nek (Sum.inr.inj z), h.val _ hkn]
    have ap : mDrop (mMeth fAppend (mVar 4) (mCons (mTup (mCons (mOp2 minD (mVar 8) NK) (mCons (mOp2 maxD (mVar 8) NK) (mCons (mVar 9) mNil)))) mNil)) [some (box a3 b c3), some (.dat (.int w)), some (.dat N), some (.dat (.int o)), some (.obj (.lst (ts.map tiD))), some (.obj (.dct U)), some (.dat (.int k)), some (.obj (.lst (FR.map PyData.str))), some (.dat (.str x)), some (.dat (.int gl)), none]
        = some (.next, [some (box a3 b c3), some (.dat (.int w)), some (.dat N), some (.dat (.int o)), some (.obj (.lst ((ts ++ [tieOf x names[k] gl]).map tiD))), some (.obj (.dct U)), some (.dat (.int k)), some (.obj (.lst (FR.map PyData.str))), some (.dat (.str x)), some (.dat (.int gl)), none]) := by
      simp [runF, okArgs, em, mSeq, mIfS, mB, mOp2, mOp1, mPure, mCons, mVar, mC, mNil, frz1, looks, lookS, f1, f2, mSkip, mRet, mRetN, mDrop, gtD, geD, ltD, leD, isD, isnD, addD, subD, mulD, modD, fdivD, powD, negD, fOr, i2, i2c, mSub, finF, outR, outA, mSet, mSetI, toD, esc, escAll, setItemAt, dctAt, setAt, ixD, atI, ixN, setR, mTru, truS, truD, mAnd, mOr, mNot, mAndV, mOrV, mNotV, mIf, mTup, mLst, mAsg, gN, gT, gsCons, gsNil, mChain, mCall, escB, argsOf, slotsOf, putBack, iE, itemsD, mPar2, wipeE, restE, noOwn, mYes, lenD, absD, Mw.intD, listD, tupleD, mSl, oNone, oSome, slD, mMeth, lstAt, fAppend, mSetT, setTAt, mGetT, dttAt, mD0, mD0T, mPar3, noSlot, setN, mIn, isiD, tyD, isTy, eqD_int, neD_int, eqD_bool, neD_bool, eqD_ii, Mw.keyOf, mLc, mFor, mNeverS, revD, hat, minD, maxD, hz, tieOf, tiD]
    have p1 : mSetI (mOp2 addD (mSub (mVar 5) (mVar 8)) (mC (.int 1))) (mVar 5) (mVar 8) [some (box a3 b c3), some (.dat (.int w)), some (.dat N), some (.dat (.int o)), some (.obj (.lst ((ts ++ [tieOf x names[k] gl]).map tiD))), some (.obj (.dct U)), some (.dat (.int k)), some (.obj (.lst (FR.map PyData.str))), some (.dat (.str x)), some (.dat (.int gl)), none]
        = some (.next, [some (box a3 b c3), some (.dat (.int w)), some (.dat N), some (.dat (.int o)), some (.obj (.lst ((ts ++ [tieOf x names[k] gl]).map tiD))), some (.obj (.dct (putP U (.inr x) (.int (u x + 1))))), some (.dat (.int k)), some (.obj (.lst (FR.map PyData.str))), some (.dat (.str x)), some (.dat (.int gl)), none]) := by
      generalize (ts ++ [tieOf x names[k] gl]).map tiD = TT
      simp [runF, okArgs, em, mSeq, mIfS, mB, mOp2, mOp1, mPure, mCons, mVar, mC, mNil, frz1, looks, lookS, f1, f2, mSkip, mRet, mRetN, mDrop, gtD, geD, ltD, leD, isD, isnD, addD, subD, mulD, modD, fdivD, powD, negD, fOr, i2, i2c, mSub, finF, outR, outA, mSet, mSetI, toD, esc, escAll, setItemAt, dctAt, setAt, ixD, atI, ixN, setR, mTru, truS, truD, mAnd, mOr, mNot, mAndV, mOrV, mNotV, mIf, mTup, mLst, mAsg, gN, gT, gsCons, gsNil, mChain, mCall, escB, argsOf, slotsOf, putBack, iE, itemsD, mPar2, wipeE, restE, noOwn, mYes, lenD, absD, Mw.intD, listD, tupleD, mSl, oNone, oSome, slD, mMeth, lstAt, fAppend, mSetT, setTAt, mGetT, dttAt, mD0, mD0T, mPar3, noSlot, setN, mIn, isiD, tyD, isTy, eqD_int, neD_int, eqD_bool, neD_bool, eqD_ii, Mw.keyOf, mLc, mFor, mNeverS, revD, v1, hu1]
    have p2 : mSetI (mOp2 addD (mSub (mVar 5) NK) (mC (.int 1))) (mVar 5) NK [some (box a3 b c3), some (.dat (.int w)), some (.dat N), some (.dat (.int o)), some (.obj (.lst ((ts ++ [tieOf x names[k] gl]).map tiD))), some (.obj (.dct (putP U (.inr x) (.int (u x + 1))))), some (.dat (.int k)), some (.obj (.lst (FR.map PyData.str))), some (.dat (.str x)), some (.dat (.int gl)), none]
        = some (.next, [some (box a3 b c3), some (.dat (.int w)), some (.dat N), some (.dat (.int o)), some (.obj (.lst ((ts ++ [tieOf x names[k] gl]).map tiD))), some (.obj (.dct (putP (putP U (.inr x) (.int (u x + 1))) (.inr names[k]) (.int (u names[k] + 1))))), some (.dat (.int k)), some (.obj (.lst (FR.map PyData.str))), some (.dat (.str x)), some (.dat (.int gl)), none]) := by
      generalize (ts ++ [tieOf x names[k] gl]).map tiD = TT
      generalize putP U (.inr x) (.int (u x + 1)) = UU at *
      simp [runF, okArgs, em, mSeq, mIfS, mB, mOp2, mOp1, mPure, mCons, mVar, mC, mNil, frz1, looks, lookS, f1, f2, mSkip, mRet, mRetN, mDrop, gtD, geD, ltD, leD, isD, isnD, addD, subD, mulD, modD, fdivD, powD, negD, fOr, i2, i2c, mSub, finF, outR, outA, mSet, mSetI, toD, esc, escAll, setItemAt, dctAt, setAt, ixD, atI, ixN, setR, mTru, truS, truD, mAnd, mOr, mNot, mAndV, mOrV, mNotV, mIf, mTup, mLst, mAsg, gN, gT, gsCons, gsNil, mChain, mCall, escB, argsOf, slotsOf, putBack, iE, itemsD, mPar2, wipeE, restE, noOwn, mYes, lenD, absD, Mw.intD, listD, tupleD, mSl, oNone, oSome, slD, mMeth, lstAt, fAppend, mSetT, setTAt, mGetT, dttAt, mD0, mD0T, mPar3, noSlot, setN, mIn, isiD, tyD, isTy, eqD_int, neD_int, eqD_bool, neD_bool, eqD_ii, Mw.keyOf, mLc, mFor, mNeverS, revD, hat, v2, hu2]
    rw [seq_next ap, seq_next p1, p2]
  · rw [decide_eq_false hv]
    dsimp only
    exact ⟨a3, c3, ts, U, u, some (.obj (.lst (FR.map PyData.str))), some (.dat (.str x)), some (.dat (.int gl)), h.less hk, rfl⟩
-- part k
noncomputable abbrev linksBody : MS := (mSeq (mSet 7 (mLc (iE (mSl (mVar 2) oNone (oSome (mVar 6)))) [10] (gN 10) (mB (mOp2 ltD (mSub (mVar 5) (mVar 10)) (mC (.int 6)))) (mVar 10))) (mSeq (mSet 8 (mSub (mVar 7) (mCall [0] fm__law_take (mCons (mVar 0) (mCons (mOp1 lenD (mVar 7)) mNil))))) (mSeq (mSet 9 (mCall [] fm__law_round (mCons (mVar 1) (mCons (mOp2 subD (mCall [0] fm__law_take (mCons (mVar 0) (mCons (mC (.int 60)) mNil))) (mC (.int 20))) mNil)))) (mIfS (mB (mOp2 gtD (mCall [0] fm__law_take (mCons (mVar 0) (mCons (mVar 3) mNil))) (mC (.int 0)))) (mSeq (mDrop (mMeth fAppend (mVar 4) (mCons (mTup (mCons (mOp2 minD (mVar 8) (mSub (mVar 2) (mVar 6))) (mCons (mOp2 maxD (mVar 8) (mSub (mVar 2) (mVar 6))) (mCons (mVar 9) mNil)))) mNil))) (mSeq (mSetI (mOp2 addD (mSub (mVar 5) (mVar 8)) (mC (.int 1))) (mVar 5) (mVar 8)) (mSetI (mOp2 addD (mSub (mVar 5) (mSub (mVar 2) (mVar 6))) (mC (.int 1))) (mVar 5) (mSub (mVar 2) (mVar 6))))) mSkip))))
theorem loopS_cons {g : MG} {body : MS} {d : PyData} {ds : List PyData} {ρ ρ1 ρ2 : En} (h1 : g d ρ = some ρ1) (h2 : body ρ1 = some (.next, ρ2)) : loopS g body (d :: ds) ρ = loopS g body ds ρ2 := by
  simp only [loopS, h1, h2]
theorem for_ev {mi : MI} {g : MG} {body : MS} {ρ ρ1 : En} {ds : List PyData} (h : mi ρ = some (ds, ρ1)) : mFor mi g body ρ = loopS g body ds ρ1 := by
  unfold mFor
  rw [h]
theorem mergeP_len : ∀ (l acc : List (Key × Pd)), (mergeP acc l).length ≤ acc.length + l.length
  | [], acc => Nat.le_refl _
  | p :: r, acc => by
    have h1 := mergeP_len r (putP acc p.1 p.2)
    have h2 := putP_len acc p.1 p.2
    show (mergeP (putP acc p.1 p.2) r).length ≤ _
    rw [List.length_cons]
    omega
theorem links_loop (names : List Str) (nd : names.Nodup) (tx : ∀ x ∈ names, TxOk x) (hl : names.length ≤ 26) (w o : Int) (ho : 0 < o) (ho2 : o < 1000000) (b : Int) : ∀ (m k : Nat), 0 < k → k + m = max 1 names.length → ∀ (a c : Int) (ts : List Ti) (U : List (Key × Pd)) (u : Str → Int), Lk names k ts U u → ∀ e6 e7 e8 e9 : Option DV,
    ∃ a' c' ts' U' u' f6 f7 f8 f9, Lk names (k + m) ts' U' u' ∧ loopS (gN 6) linksBody ((List.range' k m).map fun i : Nat => PyData.int (i : Int)) [some (box a b c), some (.dat (.int w)), some (.dat (.list (names.map PyData.str))), some (.dat (.int o)), some (.obj (.lst (ts.map tiD))), some (.obj (.dct U)), e6, e7, e8, e9, none]
      = some (.next, [some (box a' b c'), some (.dat (.int w)), some (.dat (.list (names.map PyData.str))), some (.dat (.int o)), some (.obj (.lst (ts'.map tiD))), some (.obj (.dct U')), f6, f7, f8, f9, none])
  | 0, k, _, _, a, c, ts, U, u, h, e6, e7, e8, e9 => ⟨a, c, ts, U, u, e6, e7, e8, e9, h, rfl⟩
  | m + 1, k, hk0, hk, a, c, ts, U, u, h, e6, e7, e8, e9 => by
    obtain ⟨a1, c1, ts1, U1, u1, e7', e8', e9', h1, s⟩ := links_step names nd tx hl w o ho ho2 k hk0 (by omega) a b c ts U u h (some (.dat (.int k))) e7 e8 e9
    obtain ⟨a2, c2, ts2, U2, u2, f6, f7, f8, f9, h2, q⟩ := links_loop names nd tx hl w o ho ho2 b m (k + 1) (by omega) (by omega) a1 c1 ts1 U1 u1 h1 (some (.dat (.int k))) e7' e8' e9'
    refine ⟨a2, c2, ts2, U2, u2, f6, f7, f8, f9, by rw [show k + (m + 1) = k + 1 + m by omega]; exact h2, ?_⟩
    rw [List.range'_succ, List.map_cons]
    exact (loopS_cons rfl s).trans q
theorem alike_ti (a b : Ti) : PySem.W.alike (tiD a) (tiD b) = true := by simp [tiD, PySem.W.alike, PySem.W.alikeAll]
theorem depth_ti (a : Ti) : (tiD a).depth ≤ 62 := by simp [tiD, PyData.depth, PyData.depthAll]
theorem lay_ti {a : Ti} (h : TxOk a.1) (h2 : TxOk a.2.1) : (tiD a).canLay0 = true := by
  have h' : PyData.canLay0 (.str a.1) = true := h
  have h2' : PyData.canLay0 (.str a.2.1) = true := h2
  simp [tiD, PyData.canLay0, PyData.canLayAll0] at h' h2' ⊢
  exact ⟨h', h2'⟩
theorem alike_pl (a b : Pl) : PySem.W.alike (plD a) (plD b) = true := by simp [plD, PySem.W.alike, PySem.W.alikeAll]
theorem depth_pl (a : Pl) : (plD a).depth ≤ 62 := by simp [plD, PyData.depth, PyData.depthAll]
theorem lay_pl {a : Pl} (h : TxOk a.1) : (plD a).canLay0 = true := by
  have h' : PyData.canLay0 (.str a.1) = true := h
  simp [plD, PyData.canLay0, PyData.canLayAll0] at h' ⊢
  exact h'
/-- ties of names, as a hall wants them -/
structure Ties (names : List Str) (ts : List Ti) : Prop where
  wood : ∃ par rank, Forest ts par rank
  mem : ∀ t ∈ ts, t.1 ∈ names ∧ t.2.1 ∈ names ∧ t.1 ≠ t.2.1
  ap : ts.Pairwise Apart
  len : ts.length ≤ 26
theorem Ties.perm {names : List Str} {ts ts' : List Ti} (h : Ties names ts) (p : ts'.Perm ts) : Ties names ts' :=
  ⟨let ⟨par, rank, f⟩ := h.wood; ⟨par, rank, ⟨fun t ht => f.tie t (p.mem_iff.mp ht), fun x y e => let ⟨g1, t, g2, g3⟩ := f.up x y e; ⟨g1, t, p.mem_iff.mpr g2, g3⟩⟩⟩, fun t ht => h.mem t (p.mem_iff.mp ht), (p.pairwise_iff fun {x y} z => apart_comm z).mpr h.ap, by rw [p.length_eq]; exact h.len⟩
theorem links_spec (names : List Str) (nd : names.Nodup) (tx : ∀ x ∈ names, TxOk x) (hl : names.length ≤ 26) (w o : Int) (ho : 0 < o) (ho2 : o < 1000000) (a b c : Int) :
    ∃ (ts : List Ti) (a' b' c' : Int), Ties names ts ∧ fm__law_links [box a b c, .dat (.int w), .dat (.list (names.map PyData.str)), .dat (.int o)] = some (.new (.lst (ts.map tiD)), [box a' b' c', .dat (.int w), .dat (.list (names.map PyData.str)), .dat (.int o)]) := by
  have l0 : ∀ (B : DV) (W O N : PyData), loopC [10] (gN 10) mYes (mTup (mCons (mVar 10) (mCons (mC (.int 0)) mNil))) (names.map PyData.str) [] [some B, some (.dat W), some (.dat N), some (.dat O), none, none, none, none, none, none, none]
      = some ((names.map fun x => (x, (0 : Int))).map prD, [some B, some (.dat W), some (.dat N), some (.dat O), none, none, none, none, none, none, none]) := by
    intro B W O N
    have := loopC_map (vs := [10]) (g := gN 10) (t := mYes) (me := mTup (mCons (mVar 10) (mCons (mC (.int 0)) mNil))) PyData.str (fun _ => true) (fun x => prD (x, 0)) [some B, some (.dat W), some (.dat N), some (.dat O), none, none, none, none, none, none, none] names [] (fun x hx => ⟨_, rfl, .inl ⟨rfl, _, _, _, _, rfl, rfl, rfl, rfl⟩⟩)
    rw [this, List.filter_eq_self.mpr (by simp), List.map_map]
    rfl
  have i0 : iE (mVar 2) [some (box a b c), some (.dat (.int w)), some (.dat (.list (names.map PyData.str))), some (.dat (.int o)), none, none, none, none, none, none, none] = some (names.map PyData.str, [some (box a b c), some (.dat (.int w)), some (.dat (.list (names.map PyData.str))), some (.dat (.int o)), none, none, none, none, none, none, none]) := by
    simp [runF, okArgs, em, mSeq, mIfS, mB, mOp2, mOp1, mPure, mCons, mVar, mC, mNil, frz1, looks, lookS, f1, f2, mSkip, mRet, mRetN, mDrop, gtD, geD, ltD, leD, isD, isnD, addD, subD, mulD, modD, fdivD, powD, negD, fOr, i2, i2c, mSub, finF, outR, outA, mSet, mSetI, toD, esc, escAll, setItemAt, dctAt, setAt, ixD, atI, ixN, setR, mTru, truS, truD, mAnd, mOr, mNot, mAndV, mOrV, mNotV, mIf, mTup, mLst, mAsg, gN, gT, gsCons, gsNil, mChain, mCall, escB, argsOf, slotsOf, putBack, iE, itemsD, mPar2, wipeE, restE, noOwn, mYes, lenD, absD, Mw.intD, listD, tupleD, mSl, oNone, oSome, slD, mMeth, lstAt, fAppend, mSetT, setTAt, mGetT, dttAt, mD0, mD0T, mPar3, noSlot, setN, mIn, isiD, tyD, isTy, eqD_int, neD_int, eqD_bool, neD_bool, eqD_ii, Mw.keyOf, mLc, mFor, mNeverS, revD]
  have c0 := mLc_ev i0 (few (by rw [List.length_map]; omega)) rfl (l0 _ _ _ _)
  have nd0 : ((names.map fun x => (x, (0 : Int))).map (·.1)).Nodup := by
    rw [List.map_map]
    simpa [Function.comp_def] using nd
  have hzm : ∀ x ∈ names, (x, (0 : Int)) ∈ names.map fun x => (x, (0 : Int)) := fun x hx => List.mem_map.mpr ⟨x, hx, rfl⟩
  have hzl : (names.map fun x => (x, (0 : Int))).length = names.length := List.length_map ..
  generalize (names.map fun x => (x, (0 : Int))) = ZS at *
  have hd : dictD (.list (ZS.map prD)) = some (.new (.dct (mergeP [] (ZS.map kvD)))) := by
    simp only [dictD, pairsD_pr]
  have hv : ∀ x ∈ names, valP (mergeP [] (ZS.map kvD)) (.inr x) = some (.int 0) := by
    intro x hx
    rw [merge_val x _ nd0]
    have := find_of_mem nd0 (hzm x hx)
    dsimp only at this
    rw [this]
  have hz : (mergeP [] (ZS.map kvD)).length ≤ 26 := by
    have := mergeP_len (ZS.map kvD) []
    rw [List.length_map, List.length_nil] at this
    omega
  generalize mergeP [] (ZS.map kvD) = U at *
  have p0 : mPar2 4 5 (mLst mNil) (mOp1 dictD (mLc (iE (mVar 2)) [10] (gN 10) mYes (mTup (mCons (mVar 10) (mCons (mC (.int 0)) mNil))))) [some (box a b c), some (.dat (.int w)), some (.dat (.list (names.map PyData.str))), some (.dat (.int o)), none, none, none, none, none, none, none]
      = some (.next, [some (box a b c), some (.dat (.int w)), some (.dat (.list (names.map PyData.str))), some (.dat (.int o)), some (.obj (.lst [])), some (.obj (.dct U)), none, none, none, none, none]) := by
    generalize mLc (iE (mVar 2)) [10] (gN 10) mYes (mTup (mCons (mVar 10) (mCons (mC (.int 0)) mNil))) = M at c0 ⊢
    generalize (.list (names.map PyData.str) : PyData) = N at c0 ⊢
    simp [mPar2, mLst, mNil, escAll, mOp1, mPure, mCons, c0, frz1, restE, looks, lookS, f1, hd, noSlot, setN]
  have k0 : Lk names 1 [] U (fun _ => 0) := ⟨⟨fun _ => none, ⟨(fun t ht => nomatch ht), (fun x y e => nomatch e)⟩, fun _ _ => rfl⟩, by simp, .nil, by simp, hv, fun _ _ => by decide, by
    have : ∀ l : List Str, (l.map fun _ => (0 : Int)).sum = 0 := by
      intro l
      induction l with
      | nil => rfl
      | cons x r ih => rw [List.map_cons, List.sum_cons, ih]; rfl
    rw [this]
    rfl, by omega⟩
  obtain ⟨a1, c1, ts, U1, u1, f6, f7, f8, f9, k1, lp⟩ := links_loop names nd tx hl w o ho ho2 b (max 1 names.length - 1) 1 (by decide) (by omega) a c [] U _ k0 none none none none
  have hmem : ∀ t ∈ ts, t.1 ∈ names ∧ t.2.1 ∈ names ∧ t.1 ≠ t.2.1 := fun t ht => by
    obtain ⟨h1, h2, h3⟩ := k1.mem t ht
    exact ⟨List.take_subset _ _ h1, List.take_subset _ _ h2, h3⟩
  have hts : Ties names ts := ⟨let ⟨par, f, _⟩ := k1.wood; ⟨par, _, f⟩, hmem, k1.ap, by have := k1.len; omega⟩
  obtain ⟨cs, hp, hs⟩ := sorted_ev tiD ts alike_ti (fun b => ⟨_, _, rfl⟩) (fun t ht => lay_ti (tx _ (hmem t ht).1) (tx _ (hmem t ht).2.1)) depth_ti (Nat.le_of_lt (few (by have := hts.len; omega)))
  refine ⟨cs, a1, b, c1, hts.perm hp, ?_⟩
  have ir : iR2 (mCons (mC (.int 1)) (mCons (mOp1 lenD (mVar 2)) mNil)) [some (box a b c), some (.dat (.int w)), some (.dat (.list (names.map PyData.str))), some (.dat (.int o)), some (.obj (.lst [])), some (.obj (.dct U)), none, none, none, none, none]
      = some ((List.range' 1 (max 1 names.length - 1)).map fun i : Nat => PyData.int (i : Int), [some (box a b c), some (.dat (.int w)), some (.dat (.list (names.map PyData.str))), some (.dat (.int o)), some (.obj (.lst [])), some (.obj (.dct U)), none, none, none, none, none]) := by
    have e : mCons (mC (.int 1)) (mCons (mOp1 lenD (mVar 2)) mNil) [some (box a b c), some (.dat (.int w)), some (.dat (.list (names.map PyData.str))), some (.dat (.int o)), some (.obj (.lst [])), some (.obj (.dct U)), none, none, none, none, none] = some ([.dat (.int 1), .dat (.int names.length)], [some (box a b c), some (.dat (.int w)), some (.dat (.list (names.map PyData.str))), some (.dat (.int o)), some (.obj (.lst [])), some (.obj (.dct U)), none, none, none, none, none]) := by
      simp [runF, okArgs, em, mSeq, mIfS, mB, mOp2, mOp1, mPure, mCons, mVar, mC, mNil, frz1, looks, lookS, f1, f2, mSkip, mRet, mRetN, mDrop, gtD, geD, ltD, leD, isD, isnD, addD, subD, mulD, modD, fdivD, powD, negD, fOr, i2, i2c, mSub, finF, outR, outA, mSet, mSetI, toD, esc, escAll, setItemAt, dctAt, setAt, ixD, atI, ixN, setR, mTru, truS, truD, mAnd, mOr, mNot, mAndV, mOrV, mNotV, mIf, mTup, mLst, mAsg, gN, gT, gsCons, gsNil, mChain, mCall, escB, argsOf, slotsOf, putBack, iE, itemsD, mPar2, wipeE, restE, noOwn, mYes, lenD, absD, Mw.intD, listD, tupleD, mSl, oNone, oSome, slD, mMeth, lstAt, fAppend, mSetT, setTAt, mGetT, dttAt, mD0, mD0T, mPar3, noSlot, setN, mIn, isiD, tyD, isTy, eqD_int, neD_int, eqD_bool, neD_bool, eqD_ii, Mw.keyOf, mLc, mFor, mNeverS, revD]
    unfold iR2
    rw [e]
    dsimp only
    rw [if_pos ⟨by omega, by omega, by omega, by omega⟩]
    have e2 : ((names.length : Int) - 1).toNat = max 1 names.length - 1 := by omega
    rw [e2]
    unfold rangeD
    rw [List.range'_eq_map_range, List.map_map]
    have e3 : (List.range (max 1 names.length - 1)).map (fun i : Nat => PyData.int (1 + (i : Int))) = (List.range (max 1 names.length - 1)).map ((fun i : Nat => PyData.int (i : Int)) ∘ fun x => 1 + x) := List.map_congr_left fun i _ => by simp
    rw [e3]
  unfold fm__law_links m__law_links
  unfold runF
  have s2 : mFor (iR2 (mCons (mC (.int 1)) (mCons (mOp1 lenD (mVar 2)) mNil))) (gN 6) linksBody [some (box a b c), some (.dat (.int w)), some (.dat (.list (names.map PyData.str))), some (.dat (.int o)), some (.obj (.lst [])), some (.obj (.dct U)), none, none, none, none, none]
      = some (.next, [some (box a1 b c1), some (.dat (.int w)), some (.dat (.list (names.map PyData.str))), some (.dat (.int o)), some (.obj (.lst (ts.map tiD))), some (.obj (.dct U1)), f6, f7, f8, f9, none]) := by
    rw [for_ev ir]
    exact lp
  generalize (.list (names.map PyData.str) : PyData) = N at *
  generalize hM1 : mPar2 4 5 (mLst mNil) (mOp1 dictD (mLc (iE (mVar 2)) [10] (gN 10) mYes (mTup (mCons (mVar 10) (mCons (mC (.int 0)) mNil))))) = M1 at *
  generalize hM2 : mFor (iR2 (mCons (mC (.int 1)) (mCons (mOp1 lenD (mVar 2)) mNil))) (gN 6) linksBody = M2 at *
  have s3 : mRet (mOp1 sortedD (mVar 4)) [some (box a1 b c1), some (.dat (.int w)), some (.dat N), some (.dat (.int o)), some (.obj (.lst (ts.map tiD))), some (.obj (.dct U1)), f6, f7, f8, f9, none] = some (.ret (.new (.lst (cs.map tiD))), [some (box a1 b c1), some (.dat (.int w)), some (.dat N), some (.dat (.int o)), some (.obj (.lst (ts.map tiD))), some (.obj (.dct U1)), f6, f7, f8, f9, none]) := by
    simp [mRet, mOp1, mPure, mCons, mVar, mNil, frz1, looks, lookS, f1, hs]
  have all : mSeq M1 (mSeq M2 (mRet (mOp1 sortedD (mVar 4)))) [some (box a b c), some (.dat (.int w)), some (.dat N), some (.dat (.int o)), none, none, none, none, none, none, none] = some (.ret (.new (.lst (cs.map tiD))), [some (box a1 b c1), some (.dat (.int w)), some (.dat N), some (.dat (.int o)), some (.obj (.lst (ts.map tiD))), some (.obj (.dct U1)), f6, f7, f8, f9, none]) := by
    rw [seq_next p0, seq_next s2, s3]
  generalize mSeq M1 (mSeq M2 (mRet (mOp1 sortedD (mVar 4)))) = MM at *
  simp [okArgs, Mw.em, all, finF, outR, outA]
-- part l
/-! ### which way ties lead -/
def IntsT (kvs : List (List Key × Pd)) : Prop := ∀ p ∈ kvs, ∃ i, p.2 = PyData.int i
theorem IntsT.put {kvs : List (List Key × Pd)} (h : IntsT kvs) (k : List Key) (i : Int) : IntsT (putT kvs k (.int i)) := by
  unfold putT
  split
  · intro p hp
    obtain ⟨q, hq, rfl⟩ := List.mem_map.mp hp
    split
    · exact ⟨i, rfl⟩
    · exact h q hq
  · intro p hp
    rcases List.mem_append.mp hp with hp | hp
    · exact h p hp
    · rw [List.mem_singleton] at hp
      subst hp
      exact ⟨i, rfl⟩
theorem putT_len (kvs : List (List Key × Pd)) (k : List Key) (d : Pd) : (putT kvs k d).length ≤ kvs.length + 1 := by
  unfold putT
  split <;> simp
def getI (kvs : List (List Key × Pd)) (k : List Key) (j : Int) : Int := match valT kvs k with
  | some (.int i) => i
  | _ => j
theorem IntsT.get {kvs : List (List Key × Pd)} (h : IntsT kvs) (k : List Key) (j : Int) : (valT kvs k).getD (.int j) = .int (getI kvs k j) := by
  unfold getI
  cases e : valT kvs k with
  | none => rfl
  | some d =>
    unfold valT at e
    obtain ⟨p, h1, rfl⟩ := Option.map_eq_some_iff.mp e
    obtain ⟨i, hi⟩ := h p (List.mem_of_find?_eq_some h1)
    rw [hi]
    rfl
def od (x : Option PyData) : Option DV := x.map DV.dat
theorem led_step (a b c : Int) (A N S L P : DV) (kvs : List (List Key × Pd)) (hz : kvs.length < 1000) (x y : Str) (e9 e10 e11 e12 e13 e14 e15 : Option DV) : ∃ i a' c', mSetT (mCall [0] fm__law_take (mCons (mVar 0) (mCons (mC (.int 2)) mNil))) (mVar 5) (mTup (mCons (mVar 7) (mCons (mVar 8) mNil)))
      [some (box a b c), some A, some N, some S, some L, some (.obj (.dtt kvs)), some P, some (.dat (.str x)), some (.dat (.str y)), e9, e10, e11, e12, e13, e14, e15]
      = some (.next, [some (box a' b c'), some A, some N, some S, some L, some (.obj (.dtt (putT kvs [.inr x, .inr y] (.int i)))), some P, some (.dat (.str x)), some (.dat (.str y)), e9, e10, e11, e12, e13, e14, e15]) := by
  obtain ⟨r, a', c', t, _, _⟩ := take_c a b c 2 [some A, some N, some S, some L, some (.obj (.dtt kvs)), some P, some (.dat (.str x)), some (.dat (.str y)), e9, e10, e11, e12, e13, e14, e15] (by decide) (by decide)
  refine ⟨r, a', c', ?_⟩
  have hk : keyT (.tuple [.str x, .str y]) = some [.inr x, .inr y] := rfl
  have hz' : kvs.length < sizeLine := few (by omega)
  generalize mCall [0] fm__law_take (mCons (mVar 0) (mCons (mC (.int 2)) mNil)) = M at t ⊢
  simp [mSetT, t, toD, frz1, esc, mVar, mTup, mCons, mNil, escAll, setTAt, hk, hz']
theorem led_loop (b : Int) (A N S L P : DV) : ∀ (ts : List Ti) (a c : Int) (kvs : List (List Key × Pd)), IntsT kvs → kvs.length + ts.length < 1000 → ∀ (x7 x8 x9 : Option PyData), ∃ (a' c' : Int) (kvs' : List (List Key × Pd)) (y7 y8 y9 : Option PyData), IntsT kvs' ∧ loopS (gT 3 (gsCons (gN 7) (gsCons (gN 8) (gsCons (gN 9) gsNil)))) (mSetT (mCall [0] fm__law_take (mCons (mVar 0) (mCons (mC (.int 2)) mNil))) (mVar 5) (mTup (mCons (mVar 7) (mCons (mVar 8) mNil)))) (ts.map tiD)
      [some (box a b c), some A, some N, some S, some L, some (.obj (.dtt kvs)), some P, od x7, od x8, od x9, none, none, none, none, none, none]
      = some (.next, [some (box a' b c'), some A, some N, some S, some L, some (.obj (.dtt kvs')), some P, od y7, od y8, od y9, none, none, none, none, none, none])
  | [], a, c, kvs, h, _, x7, x8, x9 => ⟨a, c, kvs, x7, x8, x9, h, rfl⟩
  | t :: ts, a, c, kvs, h, hz, x7, x8, x9 => by
    rw [List.length_cons] at hz
    obtain ⟨i, a1, c1, s⟩ := led_step a b c A N S L P kvs (by omega) t.1 t.2.1 (some (.dat (.int t.2.2))) none none none none none none
    have hl := putT_len kvs [.inr t.1, .inr t.2.1] (.int i)
    obtain ⟨a2, c2, kvs2, y7, y8, y9, h2, q⟩ := led_loop b A N S L P ts a1 c1 _ (h.put [.inr t.1, .inr t.2.1] i) (by omega) (some (.str t.1)) (some (.str t.2.1)) (some (.int t.2.2))
    refine ⟨a2, c2, kvs2, y7, y8, y9, h2, ?_⟩
    rw [List.map_cons]
    exact (loopS_cons rfl s).trans q
/-! ### who is ahead of a place -/
def aheadP (kvs : List (List Key × Pd)) (x : Str) (p : Pr) : Bool := decide (getI kvs [.inr x, .inr p.1] (1 - getI kvs [.inr p.1, .inr x] 0) = 1)
theorem ahead_loop (kvs : List (List Key × Pd)) (h : IntsT kvs) (x : Str) (B A N S L P : DV) (e7 e11 e12 e13 e14 e15 : Option DV) (cs : List Pr) :
    loopC [8, 9] (gT 2 (gsCons (gN 8) (gsCons (gN 9) gsNil))) (mB (mOp2 eqD (mGetT (mVar 5) (mTup (mCons (mVar 10) (mCons (mVar 8) mNil))) (mOp2 subD (mC (.int 1)) (mGetT (mVar 5) (mTup (mCons (mVar 8) (mCons (mVar 10) mNil))) (mC (.int 0))))) (mC (.int 1)))) (mTup (mCons (mVar 8) (mCons (mVar 9) mNil))) (cs.map prD) []
      [some B, some A, some N, some S, some L, some (.obj (.dtt kvs)), some P, e7, none, none, some (.dat (.str x)), e11, e12, e13, e14, e15]
      = some ((cs.filter (aheadP kvs x)).map prD, [some B, some A, some N, some S, some L, some (.obj (.dtt kvs)), some P, e7, none, none, some (.dat (.str x)), e11, e12, e13, e14, e15]) := by
  have := loopC_map (vs := [8, 9]) (g := gT 2 (gsCons (gN 8) (gsCons (gN 9) gsNil))) (t := mB (mOp2 eqD (mGetT (mVar 5) (mTup (mCons (mVar 10) (mCons (mVar 8) mNil))) (mOp2 subD (mC (.int 1)) (mGetT (mVar 5) (mTup (mCons (mVar 8) (mCons (mVar 10) mNil))) (mC (.int 0))))) (mC (.int 1)))) (me := mTup (mCons (mVar 8) (mCons (mVar 9) mNil))) prD (aheadP kvs x) prD
    [some B, some A, some N, some S, some L, some (.obj (.dtt kvs)), some P, e7, none, none, some (.dat (.str x)), e11, e12, e13, e14, e15] cs [] (by
      intro p hp
      have k1 : keyT (.tuple [.str p.1, .str x]) = some [.inr p.1, .inr x] := rfl
      have k2 : keyT (.tuple [.str x, .str p.1]) = some [.inr x, .inr p.1] := rfl
      have g1 := h.get [.inr p.1, .inr x] 0
      have g2 := h.get [.inr x, .inr p.1] (1 - getI kvs [.inr p.1, .inr x] 0)
      have ht : mB (mOp2 eqD (mGetT (mVar 5) (mTup (mCons (mVar 10) (mCons (mVar 8) mNil))) (mOp2 subD (mC (.int 1)) (mGetT (mVar 5) (mTup (mCons (mVar 8) (mCons (mVar 10) mNil))) (mC (.int 0))))) (mC (.int 1))) [some B, some A, some N, some S, some L, some (.obj (.dtt kvs)), some P, e7, some (.dat (.str p.1)), some (.dat (.int p.2)), some (.dat (.str x)), e11, e12, e13, e14, e15]
          = some (aheadP kvs x p, [some B, some A, some N, some S, some L, some (.obj (.dtt kvs)), some P, e7, some (.dat (.str p.1)), some (.dat (.int p.2)), some (.dat (.str x)), e11, e12, e13, e14, e15]) := by
        unfold aheadP
        simp [runF, okArgs, em, mSeq, mIfS, mB, mOp2, mOp1, mPure, mCons, mVar, mC, mNil, frz1, looks, lookS, f1, f2, mSkip, mRet, mRetN, mDrop, gtD, geD, ltD, leD, isD, isnD, addD, subD, mulD, modD, fdivD, powD, negD, fOr, i2, i2c, mSub, finF, outR, outA, mSet, mSetI, toD, esc, escAll, setItemAt, dctAt, setAt, ixD, atI, ixN, setR, mTru, truS, truD, mAnd, mOr, mNot, mAndV, mOrV, mNotV, mIf, mTup, mLst, mAsg, gN, gT, gsCons, gsNil, mChain, mCall, escB, argsOf, slotsOf, putBack, iE, itemsD, mPar2, wipeE, restE, noOwn, mYes, lenD, absD, Mw.intD, listD, tupleD, mSl, oNone, oSome, slD, mMeth, lstAt, fAppend, mSetT, setTAt, mGetT, dttAt, mD0, mD0T, mPar3, noSlot, setN, mIn, isiD, tyD, isTy, eqD_int, neD_int, eqD_bool, neD_bool, eqD_ii, Mw.keyOf, mLc, mFor, mNeverS, revD, k1, k2, g1, g2]
      refine ⟨_, rfl, ?_⟩
      cases hd : aheadP kvs x p with
      | true =>
        rw [hd] at ht
        exact .inl ⟨rfl, _, _, _, _, ht, rfl, rfl, rfl⟩
      | false =>
        rw [hd] at ht
        exact .inr ⟨rfl, _, ht, rfl⟩)
  rw [this]
  simp
/-! ### the sum by a drawn order -/
theorem erase_map {α β : Type} (f : α → β) : ∀ (l : List α) (k : Nat), (l.map f).eraseIdx k = (l.eraseIdx k).map f
  | [], _ => rfl
  | _ :: _, 0 => rfl
  | a :: l, k + 1 => by simp [erase_map f l k]
theorem meth_ev {f : FMu} {mo : ME} {ms : MA} {ρ ρ1 ρ2 ρ3 : En} {j : Nat} {rs : List Rs} {as xs xs0 ys : List PyData} {d : PyData} (h1 : mo ρ = some (.slot j, ρ1)) (h2 : lstAt ρ1 j = some xs0) (h3 : ms ρ1 = some (rs, ρ2)) (h4 : escAll rs ρ2 = some (as, ρ3)) (h5 : lstAt ρ3 j = some xs) (h6 : f xs as = some (d, ys)) : mMeth f mo ms ρ = some (.dat d, ρ3.set j (some (.obj (.lst ys)))) := by
  simp only [mMeth, h1, h2, h3, h4, h5, h6]
theorem asg_ev {m : ME} {g : MG} {ρ ρ1 ρ2 : En} {d : PyData} (h1 : m ρ = some (.dat d, ρ1)) (h2 : g d ρ1 = some ρ2) : mAsg m g ρ = some (.next, ρ2) := by
  simp only [mAsg, h1, toD, frz1, esc, h2]
theorem cons1_ev {m : ME} {ρ ρ1 : En} {d : PyData} (h : m ρ = some (.dat d, ρ1)) : mCons m mNil ρ = some ([.dat d], ρ1) := by
  simp only [mCons, h, frz1, mNil]
theorem popAt_ev (xs : List PyData) (k : Nat) (hk : k < xs.length) (hz : xs.length < 1000) : fPopAt xs [.int (k : Int)] = some (xs[k], xs.eraseIdx k) := by
  have hs : seqIndex? (k : Int) xs.length = some k := by
    have h0 : ¬ ((k : Int) < 0) := by omega
    have h1 : (k : Int) < (xs.length : Int) := by omega
    unfold seqIndex?
    simp [h0, h1, hk]
  have hg : xs[k]? = some xs[k] := List.getElem?_eq_getElem hk
  have hb : -(2 ^ 63) ≤ (k : Int) ∧ (k : Int) < 2 ^ 63 := ⟨by omega, by omega⟩
  simp only [fPopAt, if_pos hb, hs, hg]
theorem pop_step (a b c : Int) (A N S L D P : DV) (e7 e8 e9 e10 e11 e15 : Option DV) (left : List Pr) (hne : left ≠ []) (hz : left.length < 1000) (tot : Int) (k : Nat) : ∃ (a' c' : Int) (left' : List Pr) (tot' f9 : Int) (f15 : Option DV), left'.length + 1 = left.length ∧ mSeq (mAsg (mMeth fPopAt (mVar 13) (mCons (mCall [0] fm__law_take (mCons (mVar 0) (mCons (mOp1 lenD (mVar 13)) mNil))) mNil)) (gT 2 (gsCons (gN 15) (gsCons (gN 9) gsNil)))) (mSet 12 (mOp2 addD (mVar 12) (mOp2 mulD (mVar 9) (mOp2 subD (mC (.int 1)) (mOp2 mulD (mC (.int 2)) (mOp2 modD (mVar 14) (mC (.int 2))))))))
      [some (box a b c), some A, some N, some S, some L, some D, some P, e7, e8, e9, e10, e11, some (.dat (.int tot)), some (.obj (.lst (left.map prD))), some (.dat (.int k)), e15]
      = some (.next, [some (box a' b c'), some A, some N, some S, some L, some D, some P, e7, e8, some (.dat (.int f9)), e10, e11, some (.dat (.int tot')), some (.obj (.lst (left'.map prD))), some (.dat (.int k)), f15]) := by
  have hpos : 0 < left.length := List.length_pos_iff.mpr hne
  obtain ⟨r, a1, c1, t1, hr0, hr1⟩ := take_ev (m := mOp1 lenD (mVar 13)) a b c left.length [some A, some N, some S, some L, some D, some P, e7, e8, e9, e10, e11, some (.dat (.int tot)), some (.obj (.lst (left.map prD))), some (.dat (.int k)), e15] (by omega) (by omega) (by simp [mOp1, mPure, mCons, mVar, mNil, frz1, looks, lookS, f1, lenD])
  obtain ⟨r', rfl⟩ := Int.eq_ofNat_of_zero_le hr0
  have hr' : r' < left.length := by omega
  have hpop : fPopAt (left.map prD) [.int (r' : Int)] = some (prD left[r'], (left.eraseIdx r').map prD) := by
    rw [popAt_ev (left.map prD) r' (by rw [List.length_map]; exact hr') (by rw [List.length_map]; exact hz), erase_map, List.getElem_map]
  refine ⟨a1, c1, left.eraseIdx r', tot + left[r'].2 * (1 - 2 * (k : Int).fmod 2), left[r'].2, some (.dat (.str left[r'].1)), by rw [List.length_eraseIdx_of_lt hr']; omega, ?_⟩
  have s1 : mAsg (mMeth fPopAt (mVar 13) (mCons (mCall [0] fm__law_take (mCons (mVar 0) (mCons (mOp1 lenD (mVar 13)) mNil))) mNil)) (gT 2 (gsCons (gN 15) (gsCons (gN 9) gsNil))) [some (box a b c), some A, some N, some S, some L, some D, some P, e7, e8, e9, e10, e11, some (.dat (.int tot)), some (.obj (.lst (left.map prD))), some (.dat (.int k)), e15]
      = some (.next, [some (box a1 b c1), some A, some N, some S, some L, some D, some P, e7, e8, some (.dat (.int left[r'].2)), e10, e11, some (.dat (.int tot)), some (.obj (.lst ((left.eraseIdx r').map prD))), some (.dat (.int k)), some (.dat (.str left[r'].1))]) := by
    have m1 : mCons (mCall [0] fm__law_take (mCons (mVar 0) (mCons (mOp1 lenD (mVar 13)) mNil))) mNil [some (box a b c), some A, some N, some S, some L, some D, some P, e7, e8, e9, e10, e11, some (.dat (.int tot)), some (.obj (.lst (left.map prD))), some (.dat (.int k)), e15] = some ([.dat (.int r')], [some (box a1 b c1), some A, some N, some S, some L, some D, some P, e7, e8, e9, e10, e11, some (.dat (.int tot)), some (.obj (.lst (left.map prD))), some (.dat (.int k)), e15]) := cons1_ev t1
    exact asg_ev (meth_ev (mo := mVar 13) (j := 13) rfl rfl m1 rfl rfl hpop) rfl
  rw [seq_next s1]
  simp [runF, okArgs, em, mSeq, mIfS, mB, mOp2, mOp1, mPure, mCons, mVar, mC, mNil, frz1, looks, lookS, f1, f2, mSkip, mRet, mRetN, mDrop, gtD, geD, ltD, leD, isD, isnD, addD, subD, mulD, modD, fdivD, powD, negD, fOr, i2, i2c, mSub, finF, outR, outA, mSet, mSetI, toD, esc, escAll, setItemAt, dctAt, setAt, ixD, atI, ixN, setR, mTru, truS, truD, mAnd, mOr, mNot, mAndV, mOrV, mNotV, mIf, mTup, mLst, mAsg, gN, gT, gsCons, gsNil, mChain, mCall, escB, argsOf, slotsOf, putBack, iE, itemsD, mPar2, wipeE, restE, noOwn, mYes, lenD, absD, Mw.intD, listD, tupleD, mSl, oNone, oSome, slD, mMeth, lstAt, fAppend, mSetT, setTAt, mGetT, dttAt, mD0, mD0T, mPar3, noSlot, setN, mIn, isiD, tyD, isTy, eqD_int, neD_int, eqD_bool, neD_bool, eqD_ii, Mw.keyOf, mLc, mFor, mNeverS, revD, cModB, cMul_two, cMul_sg]
theorem pop_loop (b : Int) (A N S L D P : DV) (e7 e8 e10 e11 : Option DV) : ∀ (m k : Nat) (a c : Int) (left : List Pr) (tot : Int) (x9 : Option PyData) (e14 e15 : Option DV), left.length = m → m < 1000 → ∃ (a' c' tot' : Int) (y9 : Option PyData) (f13 f14 f15 : Option DV), loopS (gN 14) (mSeq (mAsg (mMeth fPopAt (mVar 13) (mCons (mCall [0] fm__law_take (mCons (mVar 0) (mCons (mOp1 lenD (mVar 13)) mNil))) mNil)) (gT 2 (gsCons (gN 15) (gsCons (gN 9) gsNil)))) (mSet 12 (mOp2 addD (mVar 12) (mOp2 mulD (mVar 9) (mOp2 subD (mC (.int 1)) (mOp2 mulD (mC (.int 2)) (mOp2 modD (mVar 14) (mC (.int 2))))))))) ((List.range' k m).map fun i : Nat => PyData.int (i : Int))
      [some (box a b c), some A, some N, some S, some L, some D, some P, e7, e8, od x9, e10, e11, some (.dat (.int tot)), some (.obj (.lst (left.map prD))), e14, e15]
      = some (.next, [some (box a' b c'), some A, some N, some S, some L, some D, some P, e7, e8, od y9, e10, e11, some (.dat (.int tot')), f13, f14, f15])
  | 0, k, a, c, left, tot, x9, e14, e15, _, _ => ⟨a, c, tot, x9, _, _, _, rfl⟩
  | m + 1, k, a, c, left, tot, x9, e14, e15, hm, hz => by
    obtain ⟨a1, c1, left1, tot1, f9, f15, hl, s⟩ := pop_step a b c A N S L D P e7 e8 (od x9) e10 e11 e15 left (fun z => by rw [z] at hm; cases hm) (by omega) tot k
    obtain ⟨a2, c2, tot2, y9, g13, g14, g15, q⟩ := pop_loop b A N S L D P e7 e8 e10 e11 m (k + 1) a1 c1 left1 tot1 (some (.int f9)) (some (.dat (.int k))) f15 (by omega) (by omega)
    refine ⟨a2, c2, tot2, y9, g13, g14, g15, ?_⟩
    rw [List.range'_succ, List.map_cons]
    exact (loopS_cons rfl s).trans q
-- part m
theorem drop_ev {m : ME} {ρ ρ1 : En} {r : Rs} (h : m ρ = some (r, ρ1)) : mDrop m ρ = some (.next, ρ1) := by
  simp only [mDrop, h]
theorem range1_ev {m : ME} {ρ ρ1 : En} {n : Nat} (h : m ρ = some (.dat (.int n), ρ1)) (hz : n < 1000000) : iR1 (mCons m mNil) ρ = some ((List.range' 0 n).map fun i : Nat => PyData.int (i : Int), ρ1) := by
  unfold iR1
  rw [cons1_ev h]
  dsimp only
  rw [if_pos ⟨by omega, by omega⟩, Int.toNat_natCast]
  unfold rangeD
  rw [List.range'_eq_map_range, List.map_map]
  have e3 : (List.range n).map (fun i : Nat => PyData.int (0 + (i : Int))) = (List.range n).map ((fun i : Nat => PyData.int (i : Int)) ∘ fun x => 0 + x) := List.map_congr_left fun i _ => by simp
  rw [e3]
noncomputable abbrev popBody : MS := (mSeq (mAsg (mMeth fPopAt (mVar 13) (mCons (mCall [0] fm__law_take (mCons (mVar 0) (mCons (mOp1 lenD (mVar 13)) mNil))) mNil)) (gT 2 (gsCons (gN 15) (gsCons (gN 9) gsNil)))) (mSet 12 (mOp2 addD (mVar 12) (mOp2 mulD (mVar 9) (mOp2 subD (mC (.int 1)) (mOp2 mulD (mC (.int 2)) (mOp2 modD (mVar 14) (mC (.int 2)))))))))
noncomputable abbrev whoBody : MS := (mSeq (mSet 11 (mLc (iE (mCall [] fm__law_beside (mCons (mVar 4) (mCons (mVar 10) mNil)))) [8, 9] (gT 2 (gsCons (gN 8) (gsCons (gN 9) gsNil))) (mB (mOp2 eqD (mGetT (mVar 5) (mTup (mCons (mVar 10) (mCons (mVar 8) mNil))) (mOp2 subD (mC (.int 1)) (mGetT (mVar 5) (mTup (mCons (mVar 8) (mCons (mVar 10) mNil))) (mC (.int 0))))) (mC (.int 1)))) (mTup (mCons (mVar 8) (mCons (mVar 9) mNil))))) (mSeq (mSet 12 (mC (.int 0))) (mSeq (mSet 13 (mOp1 listD (mVar 11))) (mSeq (mFor (iR1 (mCons (mOp1 lenD (mVar 11)) mNil)) (gN 14) popBody) (mDrop (mMeth fAppend (mVar 6) (mCons (mTup (mCons (mVar 10) (mCons (mOp2 subD (mC (.int 1)) (mOp2 modD (mOp1 lenD (mVar 11)) (mC (.int 2)))) (mCons (mCall [] fm__law_round (mCons (mVar 2) (mCons (mVar 12) mNil))) mNil)))) mNil)))))))
/-- a place that can stand in a hall of that wheel -/
def PlOk (w : Int) (p : Pl) : Prop := (p.2.1 = 0 ∨ p.2.1 = 1) ∧ ∃ m, p.2.2 = cnt w m
theorem iE_call {m : ME} {ρ ρ1 : En} {ds : List PyData} (h : m ρ = some (.new (.lst ds), ρ1)) : iE m ρ = some (ds, ρ1) := by
  simp only [iE, h, toD, frz1, esc, itemsD]
theorem call2_ev {f : FM} {ρ : En} {i j : Nat} {d e : PyData} {r : Rs} {as : List DV} (hi : ρ[i]? = some (some (.dat d))) (hj : ρ[j]? = some (some (.dat e))) (h : f [.dat d, .dat e] = some (r, as)) : mCall [] f (mCons (mVar i) (mCons (mVar j) mNil)) ρ = some (r, ρ) := by
  have pb : putBack [.dat d, .dat e] as ρ = ρ := by
    rcases as with _ | ⟨a, _ | ⟨b, r⟩⟩ <;> simp [putBack]
  simp [mCall, mCons, mVar, hi, hj, mNil, frz1, escB, esc, argsOf, slotsOf, h, pb]
theorem lc_ev {mi : MI} {vs : List Nat} {g : MG} {t : MT} {me : ME} {ρ ρ1 ρ2 ρ3 ρ4 : En} {ds out : List PyData} (hi : mi ρ = some (ds, ρ1)) (hz : ds.length < 1000000) (hn : noOwn ρ1 vs = true) (hw : wipeE ρ1 vs = ρ2) (hl : loopC vs g t me ds [] ρ2 = some (out, ρ3)) (hr : restE ρ1 ρ3 vs = ρ4) : mLc mi vs g t me ρ = some (.new (.lst out), ρ4) := by
  subst hw hr
  exact mLc_ev hi (few hz) hn hl
theorem who_step (w : Int) (names : List Str) (ts : List Ti) (hT : Ties names ts) (tx : ∀ x ∈ names, TxOk x) (kvs : List (List Key × Pd)) (hI : IntsT kvs) (x : Str) (hx : TxOk x) (A N : DV) (ps : List Pl) (hz : ps.length < 1000) (a b c : Int) (x7 x8 x9 : Option PyData) (e11 e12 e13 e14 e15 : Option DV) :
    ∃ (a' c' : Int) (p : Pl) (y9 : Option PyData) (f11 f12 f13 f14 f15 : Option DV), p.1 = x ∧ PlOk w p ∧ whoBody [some (box a b c), some A, some (.dat (.int w)), some N, some (.dat (.list (ts.map tiD))), some (.obj (.dtt kvs)), some (.obj (.lst (ps.map plD))), od x7, od x8, od x9, some (.dat (.str x)), e11, e12, e13, e14, e15]
      = some (.next, [some (box a' b c'), some A, some (.dat (.int w)), some N, some (.dat (.list (ts.map tiD))), some (.obj (.dtt kvs)), some (.obj (.lst ((ps ++ [p]).map plD))), od x7, od x8, od y9, some (.dat (.str x)), f11, f12, f13, f14, f15]) := by
  obtain ⟨cs, hp, hb⟩ := beside_spec ts x (fun t ht => ⟨tx _ (hT.mem t ht).1, tx _ (hT.mem t ht).2.1⟩) hx (by have := hT.len; omega) (.list (ts.map tiD)) (.inl rfl)
  have hcl : cs.length ≤ 52 := by
    rw [hp.length_eq]
    unfold besideL
    rw [List.length_append, List.length_map, List.length_map]
    have h1 := List.length_filter_le (fun t : Ti => decide (t.1 = x)) ts
    have h2 := List.length_filter_le (fun t : Ti => decide (t.2.1 = x)) ts
    have h3 := hT.len
    omega
  generalize hL : (.list (ts.map tiD) : PyData) = LL at *
  have i1 : iE (mCall [] fm__law_beside (mCons (mVar 4) (mCons (mVar 10) mNil))) [some (box a b c), some A, some (.dat (.int w)), some N, some (.dat LL), some (.obj (.dtt kvs)), some (.obj (.lst (ps.map plD))), od x7, od x8, od x9, some (.dat (.str x)), e11, e12, e13, e14, e15] = some (cs.map prD, [some (box a b c), some A, some (.dat (.int w)), some N, some (.dat LL), some (.obj (.dtt kvs)), some (.obj (.lst (ps.map plD))), od x7, od x8, od x9, some (.dat (.str x)), e11, e12, e13, e14, e15]) :=
    iE_call (call2_ev rfl rfl hb)
  have c1 := lc_ev (vs := [8, 9]) (ρ4 := [some (box a b c), some A, some (.dat (.int w)), some N, some (.dat LL), some (.obj (.dtt kvs)), some (.obj (.lst (ps.map plD))), od x7, od x8, od x9, some (.dat (.str x)), e11, e12, e13, e14, e15]) i1 (by rw [List.length_map]; omega) (by cases x8 <;> cases x9 <;> rfl) rfl (ahead_loop kvs hI x (box a b c) A (.dat (.int w)) N (.dat LL) (.obj (.lst (ps.map plD))) (od x7) e11 e12 e13 e14 e15 cs) rfl
  generalize hAH : cs.filter (aheadP kvs x) = AH at *
  have hAl : AH.length ≤ 52 := by
    rw [← hAH]
    exact Nat.le_trans (List.length_filter_le _ _) hcl
  have s1 := set_new (i := 11) c1 (by simp)
  have s2 : mSet 12 (mC (.int 0)) [some (box a b c), some A, some (.dat (.int w)), some N, some (.dat LL), some (.obj (.dtt kvs)), some (.obj (.lst (ps.map plD))), od x7, od x8, od x9, some (.dat (.str x)), some (.obj (.lst (AH.map prD))), e12, e13, e14, e15] = some (.next, [some (box a b c), some A, some (.dat (.int w)), some N, some (.dat LL), some (.obj (.dtt kvs)), some (.obj (.lst (ps.map plD))), od x7, od x8, od x9, some (.dat (.str x)), some (.obj (.lst (AH.map prD))), some (.dat (.int 0)), e13, e14, e15]) := rfl
  have s3 : mSet 13 (mOp1 listD (mVar 11)) [some (box a b c), some A, some (.dat (.int w)), some N, some (.dat LL), some (.obj (.dtt kvs)), some (.obj (.lst (ps.map plD))), od x7, od x8, od x9, some (.dat (.str x)), some (.obj (.lst (AH.map prD))), some (.dat (.int 0)), e13, e14, e15] = some (.next, [some (box a b c), some A, some (.dat (.int w)), some N, some (.dat LL), some (.obj (.dtt kvs)), some (.obj (.lst (ps.map plD))), od x7, od x8, od x9, some (.dat (.str x)), some (.obj (.lst (AH.map prD))), some (.dat (.int 0)), some (.obj (.lst (AH.map prD))), e14, e15]) := rfl
  obtain ⟨a2, c2, tot, y9, f13, f14, f15, lp⟩ := pop_loop b A (.dat (.int w)) N (.dat LL) (.obj (.dtt kvs)) (.obj (.lst (ps.map plD))) (od x7) (od x8) (some (.dat (.str x))) (some (.obj (.lst (AH.map prD)))) AH.length 0 a c AH 0 x9 e14 e15 rfl (by omega)
  have len_ev : ∀ (B : DV) (g9 g12 g13 g14 g15 : Option DV), mOp1 lenD (mVar 11) [some B, some A, some (.dat (.int w)), some N, some (.dat LL), some (.obj (.dtt kvs)), some (.obj (.lst (ps.map plD))), od x7, od x8, g9, some (.dat (.str x)), some (.obj (.lst (AH.map prD))), g12, g13, g14, g15] = some (.dat (.int AH.length), [some B, some A, some (.dat (.int w)), some N, some (.dat LL), some (.obj (.dtt kvs)), some (.obj (.lst (ps.map plD))), od x7, od x8, g9, some (.dat (.str x)), some (.obj (.lst (AH.map prD))), g12, g13, g14, g15]) := by
    intros
    simp [mOp1, mPure, mCons, mVar, mNil, frz1, looks, lookS, f1, lenD]
  have s4 := (for_ev (g := gN 14) (body := popBody) (range1_ev (len_ev (box a b c) (od x9) (some (.dat (.int 0))) (some (.obj (.lst (AH.map prD)))) e14 e15) (by omega))).trans lp
  have hl : ps.length < sizeLine := few (by omega)
  have tup : mTup (mCons (mVar 10) (mCons (mOp2 subD (mC (.int 1)) (mOp2 modD (mOp1 lenD (mVar 11)) (mC (.int 2)))) (mCons (mCall [] fm__law_round (mCons (mVar 2) (mCons (mVar 12) mNil))) mNil))) [some (box a2 b c2), some A, some (.dat (.int w)), some N, some (.dat LL), some (.obj (.dtt kvs)), some (.obj (.lst (ps.map plD))), od x7, od x8, od y9, some (.dat (.str x)), some (.obj (.lst (AH.map prD))), some (.dat (.int tot)), f13, f14, f15]
      = some (.dat (plD (x, 1 - (AH.length : Int).fmod 2, cnt w tot)), [some (box a2 b c2), some A, some (.dat (.int w)), some N, some (.dat LL), some (.obj (.dtt kvs)), some (.obj (.lst (ps.map plD))), od x7, od x8, od y9, some (.dat (.str x)), some (.obj (.lst (AH.map prD))), some (.dat (.int tot)), f13, f14, f15]) := by
    have le := len_ev (box a2 b c2) (od y9) (some (.dat (.int tot))) f13 f14 f15
    generalize mOp1 lenD (mVar 11) = LE at le ⊢
    simp [runF, okArgs, em, mSeq, mIfS, mB, mOp2, mOp1, mPure, mCons, mVar, mC, mNil, frz1, looks, lookS, f1, f2, mSkip, mRet, mRetN, mDrop, gtD, geD, ltD, leD, isD, isnD, addD, subD, mulD, modD, fdivD, powD, negD, fOr, i2, i2c, mSub, finF, outR, outA, mSet, mSetI, toD, esc, escAll, setItemAt, dctAt, setAt, ixD, atI, ixN, setR, mTru, truS, truD, mAnd, mOr, mNot, mAndV, mOrV, mNotV, mIf, mTup, mLst, mAsg, gN, gT, gsCons, gsNil, mChain, mCall, escB, argsOf, slotsOf, putBack, iE, itemsD, mPar2, wipeE, restE, noOwn, mYes, lenD, absD, Mw.intD, listD, tupleD, mSl, oNone, oSome, slD, mMeth, lstAt, fAppend, mSetT, setTAt, mGetT, dttAt, mD0, mD0T, mPar3, noSlot, setN, mIn, isiD, tyD, isTy, eqD_int, neD_int, eqD_bool, neD_bool, eqD_ii, Mw.keyOf, mLc, mFor, mNeverS, revD, le, round_spec, cModB, plD]
  have hap : fAppend (ps.map plD) [plD (x, 1 - (AH.length : Int).fmod 2, cnt w tot)] = some (.none, (ps ++ [(x, 1 - (AH.length : Int).fmod 2, cnt w tot)]).map plD) := by
    simp [fAppend, hl]
  have s5 := drop_ev (meth_ev (f := fAppend) (mo := mVar 6) (j := 6) (ρ := [some (box a2 b c2), some A, some (.dat (.int w)), some N, some (.dat LL), some (.obj (.dtt kvs)), some (.obj (.lst (ps.map plD))), od x7, od x8, od y9, some (.dat (.str x)), some (.obj (.lst (AH.map prD))), some (.dat (.int tot)), f13, f14, f15]) rfl rfl (cons1_ev tup) rfl rfl hap)
  refine ⟨a2, c2, (x, 1 - (AH.length : Int).fmod 2, cnt w tot), y9, some (.obj (.lst (AH.map prD))), some (.dat (.int tot)), f13, f14, f15, rfl, ⟨?_, tot, rfl⟩, ?_⟩
  · have := fm_bd AH.length 2 (by decide)
    dsimp only
    omega
  · exact (seq_next s1).trans ((seq_next s2).trans ((seq_next s3).trans ((seq_next s4).trans s5)))
theorem who_loop (w : Int) (names : List Str) (ts : List Ti) (hT : Ties names ts) (tx : ∀ x ∈ names, TxOk x) (kvs : List (List Key × Pd)) (hI : IntsT kvs) (A N : DV) (b : Int) (x7 x8 : Option PyData) : ∀ (xs : List Str), (∀ x ∈ xs, TxOk x) → ∀ (ps : List Pl) (a c : Int) (x9 x10 : Option PyData) (e11 e12 e13 e14 e15 : Option DV), ps.length + xs.length < 1000 → (∀ p ∈ ps, PlOk w p) →
    ∃ (a' c' : Int) (ps' : List Pl) (y9 y10 : Option PyData) (f11 f12 f13 f14 f15 : Option DV), ps'.map (·.1) = ps.map (·.1) ++ xs ∧ (∀ p ∈ ps', PlOk w p) ∧ loopS (gN 10) whoBody (xs.map PyData.str) [some (box a b c), some A, some (.dat (.int w)), some N, some (.dat (.list (ts.map tiD))), some (.obj (.dtt kvs)), some (.obj (.lst (ps.map plD))), od x7, od x8, od x9, od x10, e11, e12, e13, e14, e15]
      = some (.next, [some (box a' b c'), some A, some (.dat (.int w)), some N, some (.dat (.list (ts.map tiD))), some (.obj (.dtt kvs)), some (.obj (.lst (ps'.map plD))), od x7, od x8, od y9, od y10, f11, f12, f13, f14, f15])
  | [], _, ps, a, c, x9, x10, e11, e12, e13, e14, e15, _, h => ⟨a, c, ps, x9, x10, e11, e12, e13, e14, e15, by simp, h, rfl⟩
  | x :: xs, hx, ps, a, c, x9, x10, e11, e12, e13, e14, e15, hz, h => by
    rw [List.length_cons] at hz
    obtain ⟨a1, c1, p, y9, f11, f12, f13, f14, f15, hp1, hp2, s⟩ := who_step w names ts hT tx kvs hI x (hx x List.mem_cons_self) A N ps (by omega) a b c x7 x8 x9 e11 e12 e13 e14 e15
    obtain ⟨a2, c2, ps2, z9, z10, g11, g12, g13, g14, g15, q1, q2, q3⟩ := who_loop w names ts hT tx kvs hI A N b x7 x8 xs (fun y hy => hx y (List.mem_cons_of_mem _ hy)) (ps ++ [p]) a1 c1 y9 (some (.str x)) f11 f12 f13 f14 f15 (by rw [List.length_append, List.length_singleton]; omega) (fun q hq => by
      rcases List.mem_append.mp hq with hq | hq
      · exact h q hq
      · rw [List.mem_singleton] at hq
        subst hq
        exact hp2)
    refine ⟨a2, c2, ps2, z9, z10, g11, g12, g13, g14, g15, ?_, q2, ?_⟩
    · rw [q1, List.map_append, List.append_assoc, List.map_cons, hp1]
      rfl
    · rw [List.map_cons]
      exact (loopS_cons rfl s).trans q3
-- part n
theorem par2_dn {i j : Nat} {ma mb : ME} {ρ ρ1 ρ2 : En} {d : PyData} {o : OB} (h1 : ma ρ = some (.dat d, ρ1)) (h2 : mb ρ1 = some (.new o, ρ2)) (hj : j < ρ2.length) : mPar2 i j ma mb ρ = some (.next, (ρ2.set i (some (.dat d))).set j (some (.obj o))) := by
  simp [mPar2, h1, h2, noSlot, setN, hj]
theorem sub_new {ma mb : ME} {ρ ρ1 ρ2 : En} {ds : List PyData} {r : Nat} (h1 : ma ρ = some (.new (.lst ds), ρ1)) (h2 : mb ρ1 = some (.dat (.int (r : Int)), ρ2)) (hr : r < ds.length) : mSub ma mb ρ = some (.dat ds[r], ρ2) := by
  simp [mSub, mCons, h1, h2, mNil, frz1, dctAt, looks, lookS, ixD, atI, ixN, hr]
theorem callB_ev {f : FM} {m : ME} {ρ : En} {o o' : OB} {d : PyData} {r : Rs} {as : List DV} (h0 : ρ[0]? = some (some (.obj o))) (h1 : m ρ = some (.dat d, ρ)) (h : f [.obj o, .dat d] = some (r, .obj o' :: as)) : mCall [0] f (mCons (mVar 0) (mCons m mNil)) ρ = some (r, ρ.set 0 (some (.obj o'))) := by
  have pb : ∀ ρ' : En, putBack [.dat d] as ρ' = ρ' := by
    intro ρ'
    rcases as with _ | ⟨a, r⟩ <;> simp [putBack]
  simp [mCall, mCons, mVar, h0, h1, mNil, frz1, escB, esc, argsOf, slotsOf, h, putBack, pb]
structure Hall (w : Int) (ps : List Pl) (ts : List Ti) : Prop where
  wf : WF ps ts
  ok : ∀ p ∈ ps, PlOk w p
  mem : ∀ t ∈ ts, t.1 ∈ ps.map (·.1) ∧ t.2.1 ∈ ps.map (·.1)
  wood : ∃ par rank, Forest ts par rank
theorem homely_spec (a b c : Int) (n : Nat) (hn : n ≤ 26) : ∃ (w : Int) (ps : List Pl) (ts : List Ti) (a' b' c' : Int), Hall w ps ts ∧ ps.length = n ∧ fm__law_homely [box a b c, .dat (.int n)] = some (.dat (hallD w ps ts), [box a' b' c', .dat (.int n)]) := by
  -- the wheel
  obtain ⟨r, a1, c1, t1, hr0, hr1⟩ := take_c a b c 7 [some (.dat (.int n)), none, none, none, none, none, none, none, none, none, none, none, none, none, none] (by decide) (by decide)
  obtain ⟨r', rfl⟩ := Int.eq_ofNat_of_zero_le hr0
  obtain ⟨w, p1⟩ : ∃ w : Int, mSub (mLst (mCons (mC (.int 0)) (mCons (mC (.int 1)) (mCons (mC (.int 2)) (mCons (mC (.int 3)) (mCons (mC (.int 5)) (mCons (mC (.int 12)) (mCons (mC (.int 60)) mNil)))))))) (mCall [0] fm__law_take (mCons (mVar 0) (mCons (mC (.int 7)) mNil))) [some (box a b c), some (.dat (.int n)), none, none, none, none, none, none, none, none, none, none, none, none, none, none]
      = some (.dat (.int w), [some (box a1 b c1), some (.dat (.int n)), none, none, none, none, none, none, none, none, none, none, none, none, none, none]) := by
    have h := sub_new (ma := mLst (mCons (mC (.int 0)) (mCons (mC (.int 1)) (mCons (mC (.int 2)) (mCons (mC (.int 3)) (mCons (mC (.int 5)) (mCons (mC (.int 12)) (mCons (mC (.int 60)) mNil)))))))) (ds := [.int 0, .int 1, .int 2, .int 3, .int 5, .int 12, .int 60]) rfl t1 (show r' < 7 by omega)
    rw [h]
    have hr' : r' = 0 ∨ r' = 1 ∨ r' = 2 ∨ r' = 3 ∨ r' = 4 ∨ r' = 5 ∨ r' = 6 := by omega
    rcases hr' with rfl | rfl | rfl | rfl | rfl | rfl | rfl <;> exact ⟨_, rfl⟩
  -- the names
  obtain ⟨names, a2, b2, c2, hlen, nd, tx, hcall⟩ := callings_spec a1 b c1 n hn
  have p2 := callB_ev (ρ := [some (box a1 b c1), some (.dat (.int n)), none, none, none, none, none, none, none, none, none, none, none, none, none, none]) (m := mVar 1) rfl rfl hcall
  have s1 := par2_dn (i := 2) (j := 3) p1 p2 (by simp)
  -- the ties
  obtain ⟨ts, a3, b3, c3, hT, hlk⟩ := links_spec names nd tx (by omega) w 8 (by decide) (by decide) a2 b2 c2
  have s2 : mPar3 4 5 6 (mCall [0] fm__law_links (mCons (mVar 0) (mCons (mVar 2) (mCons (mVar 3) (mCons (mC (.int 8)) mNil))))) mD0T (mLst mNil) [some (box a2 b2 c2), some (.dat (.int n)), some (.dat (.int w)), some (.obj (.lst (names.map PyData.str))), none, none, none, none, none, none, none, none, none, none, none, none]
      = some (.next, [some (box a3 b3 c3), some (.dat (.int n)), some (.dat (.int w)), some (.dat (.list (names.map PyData.str))), some (.obj (.lst (ts.map tiD))), some (.obj (.dtt [])), some (.obj (.lst [])), none, none, none, none, none, none, none, none, none]) := by
    generalize names.map PyData.str = NN at *
    generalize ts.map tiD = TT at *
    simp [mPar3, mCall, mCons, mVar, mC, mNil, frz1, escB, esc, argsOf, slotsOf, hlk, putBack, mD0T, mLst, escAll, noSlot, setN]
  -- which way they lead
  obtain ⟨a4, c4, kvs, y7, y8, y9, hI, l3⟩ := led_loop b3 (.dat (.int n)) (.dat (.int w)) (.dat (.list (names.map PyData.str))) (.dat (.list (ts.map tiD))) (.obj (.lst [])) ts a3 c3 [] (fun p hp => by cases hp) (by have := hT.len; simp; omega) none none none
  have i3 : iE (mVar 4) [some (box a3 b3 c3), some (.dat (.int n)), some (.dat (.int w)), some (.dat (.list (names.map PyData.str))), some (.obj (.lst (ts.map tiD))), some (.obj (.dtt [])), some (.obj (.lst [])), none, none, none, none, none, none, none, none, none] = some (ts.map tiD, [some (box a3 b3 c3), some (.dat (.int n)), some (.dat (.int w)), some (.dat (.list (names.map PyData.str))), some (.dat (.list (ts.map tiD))), some (.obj (.dtt [])), some (.obj (.lst [])), none, none, none, none, none, none, none, none, none]) := rfl
  have s3 := (for_ev i3).trans l3
  -- the places
  obtain ⟨a5, c5, ps, z9, z10, f11, f12, f13, f14, f15, hps, hok, l4⟩ := who_loop w names ts hT tx kvs hI (.dat (.int n)) (.dat (.list (names.map PyData.str))) b3 y7 y8 names tx [] a4 c4 y9 none none none none none none (by simp; omega) (fun p hp => by cases hp)
  have i4 : iE (mVar 3) [some (box a4 b3 c4), some (.dat (.int n)), some (.dat (.int w)), some (.dat (.list (names.map PyData.str))), some (.dat (.list (ts.map tiD))), some (.obj (.dtt kvs)), some (.obj (.lst [])), od y7, od y8, od y9, none, none, none, none, none, none] = some (names.map PyData.str, [some (box a4 b3 c4), some (.dat (.int n)), some (.dat (.int w)), some (.dat (.list (names.map PyData.str))), some (.dat (.list (ts.map tiD))), some (.obj (.dtt kvs)), some (.obj (.lst [])), od y7, od y8, od y9, none, none, none, none, none, none]) := rfl
  have s4 := (for_ev i4).trans l4
  rw [List.map_nil, List.nil_append] at hps
  have hpl : ps.length = names.length := by rw [← hps, List.length_map]
  have htx : ∀ p ∈ ps, TxOk p.1 := fun p hp => tx _ (by rw [← hps]; exact List.mem_map.mpr ⟨p, hp, rfl⟩)
  obtain ⟨cs, hp, hs⟩ := sorted_ev plD ps alike_pl (fun b => ⟨_, _, rfl⟩) (fun p hq => lay_pl (htx p hq)) depth_pl (Nat.le_of_lt (few (by omega)))
  have s5 : mRet (mTup (mCons (mVar 2) (mCons (mOp1 tupleD (mOp1 sortedD (mVar 6))) (mCons (mOp1 tupleD (mVar 4)) mNil)))) [some (box a5 b3 c5), some (.dat (.int n)), some (.dat (.int w)), some (.dat (.list (names.map PyData.str))), some (.dat (.list (ts.map tiD))), some (.obj (.dtt kvs)), some (.obj (.lst (ps.map plD))), od y7, od y8, od z9, od z10, f11, f12, f13, f14, f15]
      = some (.ret (.dat (hallD w cs ts)), [some (box a5 b3 c5), some (.dat (.int n)), some (.dat (.int w)), some (.dat (.list (names.map PyData.str))), some (.dat (.list (ts.map tiD))), some (.obj (.dtt kvs)), some (.obj (.lst (ps.map plD))), od y7, od y8, od z9, od z10, f11, f12, f13, f14, f15]) := by
    simp [mRet, mTup, mCons, mVar, mNil, mOp1, mPure, frz1, looks, lookS, f1, tupleD, hs, escAll, esc, hallD]
  refine ⟨w, cs, ts, a5, b3, c5, ⟨⟨?_, fun p hq => htx p (hp.mem_iff.mp hq), fun t ht => ⟨tx _ (hT.mem t ht).1, tx _ (hT.mem t ht).2.1⟩, fun t ht => (hT.mem t ht).2.2, hT.ap, by rw [hp.length_eq]; omega, by have := hT.len; omega⟩, fun p hq => hok p (hp.mem_iff.mp hq), fun t ht => ?_, hT.wood⟩, by rw [hp.length_eq]; omega, ?_⟩
  · rw [(hp.map (·.1)).nodup_iff, hps]
    exact nd
  · rw [(hp.map (·.1)).mem_iff, (hp.map (·.1)).mem_iff, hps]
    exact ⟨(hT.mem t ht).1, (hT.mem t ht).2.1⟩
  · have all := (seq_next (m2 := mSeq (mPar3 4 5 6 (mCall [0] fm__law_links (mCons (mVar 0) (mCons (mVar 2) (mCons (mVar 3) (mCons (mC (.int 8)) mNil))))) mD0T (mLst mNil)) (mSeq (mFor (iE (mVar 4)) (gT 3 (gsCons (gN 7) (gsCons (gN 8) (gsCons (gN 9) gsNil)))) (mSetT (mCall [0] fm__law_take (mCons (mVar 0) (mCons (mC (.int 2)) mNil))) (mVar 5) (mTup (mCons (mVar 7) (mCons (mVar 8) mNil))))) (mSeq (mFor (iE (mVar 3)) (gN 10) whoBody) (mRet (mTup (mCons (mVar 2) (mCons (mOp1 tupleD (mOp1 sortedD (mVar 6))) (mCons (mOp1 tupleD (mVar 4)) mNil)))))))) s1).trans ((seq_next s2).trans ((seq_next s3).trans ((seq_next s4).trans s5)))
    unfold fm__law_homely m__law_homely runF
    generalize (mSeq (mPar2 2 3 (mSub (mLst (mCons (mC (.int 0)) (mCons (mC (.int 1)) (mCons (mC (.int 2)) (mCons (mC (.int 3)) (mCons (mC (.int 5)) (mCons (mC (.int 12)) (mCons (mC (.int 60)) mNil)))))))) (mCall [0] fm__law_take (mCons (mVar 0) (mCons (mC (.int 7)) mNil)))) (mCall [0] fm__law_callings (mCons (mVar 0) (mCons (mVar 1) mNil)))) _) = MM at all ⊢
    simp [okArgs, Mw.em, all, finF, outR, outA]
end Kx

set_option Elab.async false
set_option linter.all false
set_option maxRecDepth 100000
set_option autoImplicit false
namespace Kx
open PySem PySem.Spec PyProof.Rows L2 Mw
theorem bools_all (ds : List PyData) : boolsD (ds.map fun _ => PyData.bool true) = some (ds.map fun _ => true) := by
  induction ds with
  | nil => rfl
  | cons d r ih => simp [boolsD, ih]
theorem allD_true (ds : List PyData) : allD (.list (ds.map fun _ => PyData.bool true)) = some (.dat (.bool true)) := by
  unfold allD
  dsimp only
  rw [bools_all]
  simp
theorem cardOf_of_mem {ps : List Pl} (nd : (ps.map (·.1)).Nodup) {p : Pl} (h : p ∈ ps) : cardOf ps p.1 = some p.2 := by
  unfold cardOf
  induction ps with
  | nil => cases h
  | cons q r ih =>
    rw [List.map_cons, List.nodup_cons] at nd
    rcases List.mem_cons.mp h with rfl | h'
    · simp
    · have : ¬ q.1 = p.1 := fun z => nd.1 (List.mem_map.mpr ⟨p, h', z.symm⟩)
      rw [List.find?_cons, decide_eq_false this]
      exact ih nd.2 h'
theorem depth_strs : ∀ xs : List Str, PyData.depthAll (xs.map PyData.str) = 0
  | [] => by simp [PyData.depthAll]
  | x :: xs => by simp [PyData.depthAll, depth_strs xs, PyData.depth]
theorem ne_nil (xs : List Str) (h : ∀ x ∈ xs, TxOk x) : neD (.list (xs.map PyData.str)) (.list []) = some (.dat (.bool (!xs.isEmpty))) := by
  have h1 : PyData.canLayAll0 (xs.map PyData.str) = true := canLayAll_of fun d hd => by
    obtain ⟨x, hx, rfl⟩ := List.mem_map.mp hd
    exact h x hx
  unfold neD
  rw [if_pos (by simp [SeqAt.shaped, PyData.canLay0, PyData.canLayAll0, h1, PyData.depth, PyData.depthAll, depth_strs])]
  cases xs with
  | nil => simp [PyData.eqv, PyData.eqvAll]
  | cons x r => simp [PyData.eqv, PyData.eqvAll]
theorem cut_last (ds : List PyData) (d : PyData) : Mw.cutD (ds ++ [d]) (some (-1)) none = [d] := by
  unfold Mw.cutD
  have e : HT.sIx (ds ++ [d]).length 0 (some (-1)) = ds.length := by
    show (if (-1 : Int) < 0 then ((-1 : Int) + ((ds ++ [d]).length : Int)).toNat else min (-1 : Int).toNat (ds ++ [d]).length) = ds.length
    rw [if_pos (by decide), List.length_append, List.length_singleton]
    omega
  rw [e, HT.sIx_none, List.drop_left, List.length_append, List.length_singleton]
  rw [show ds.length + 1 - ds.length = 1 by omega]
  rfl
def frs (ps : List Pl) : List Str := (ps.filter fun p => free p.2.1 p.2.2).map (·.1)
theorem frs_free {ps : List Pl} {ts : List Ti} (h : WF ps ts) {x : Str} (hx : x ∈ frs ps) : TxOk x ∧ cardOf ps x = some (1, 0) ∧ x ∈ ps.map (·.1) := by
  obtain ⟨p, hp, rfl⟩ := List.mem_map.mp hx
  obtain ⟨h1, h2⟩ := List.mem_filter.mp hp
  unfold free at h2
  simp only [decide_eq_true_eq] at h2
  refine ⟨h.tx p h1, ?_, List.mem_map.mpr ⟨p, h1, rfl⟩⟩
  rw [cardOf_of_mem h.nd h1]
  exact congrArg some (Prod.ext h2.1 h2.2)
theorem leftP_lt {w : Int} {ps : List Pl} {ts : List Ti} {x : Str} (hx : x ∈ ps.map (·.1)) : (leftP w ps ts x).length < ps.length := by
  unfold leftP
  rw [List.length_map]
  refine List.length_filter_lt_length_iff_exists.mpr ?_
  obtain ⟨p, hp, rfl⟩ := List.mem_map.mp hx
  exact ⟨p, hp, by simp⟩
theorem call1_ev {f : FM} {ρ : En} {i : Nat} {d : PyData} {r : Rs} {as : List DV} (hi : ρ[i]? = some (some (.dat d))) (h : f [.dat d] = some (r, as)) : mCall [] f (mCons (mVar i) mNil) ρ = some (r, ρ) := by
  have pb : putBack [.dat d] as ρ = ρ := by
    rcases as with _ | ⟨a, r⟩ <;> simp [putBack]
  simp [mCall, mCons, mVar, hi, mNil, frz1, escB, esc, argsOf, slotsOf, h, pb]
theorem callM_ev {f : FM} {m : ME} {ρ : En} {i : Nat} {d e : PyData} {r r2 : Rs} {as : List DV} (hi : ρ[i]? = some (some (.dat d))) (hm : m ρ = some (r2, ρ)) (hr : frz1 r2 = some (.dat e)) (h : f [.dat d, .dat e] = some (r, as)) : mCall [] f (mCons (mVar i) (mCons m mNil)) ρ = some (r, ρ) := by
  have pb : putBack [.dat d, .dat e] as ρ = ρ := by
    rcases as with _ | ⟨a, _ | ⟨b, r⟩⟩ <;> simp [putBack]
  have hv : mVar i ρ = some (.dat d, ρ) := by simp [mVar, hi]
  have hc : mCons (mVar i) (mCons m mNil) ρ = some ([.dat d, .dat e], ρ) := by
    simp only [mCons, hv, hm, hr, mNil, show frz1 (.dat d) = some (.dat d) from rfl]
  unfold mCall
  rw [hc]
  simp [escB, esc, argsOf, slotsOf, h, pb]
theorem sub_slot {mb : ME} {ρ ρ2 : En} {i r : Nat} {ds : List PyData} (h1 : ρ[i]? = some (some (.obj (.lst ds)))) (h2 : mb ρ = some (.dat (.int (r : Int)), ρ2)) (h3 : ρ2[i]? = some (some (.obj (.lst ds)))) (hr : r < ds.length) : mSub (mVar i) mb ρ = some (.dat ds[r], ρ2) := by
  simp [mSub, mCons, mVar, h1, h2, h3, mNil, frz1, dctAt, looks, lookS, ixD, atI, ixN, hr]
theorem and_ev {m n : MT} {ρ ρ1 : En} (h : m ρ = some (true, ρ1)) : mAnd m n ρ = n ρ1 := by
  simp only [mAnd, h]
theorem cnt_idem (w m : Int) : cnt w (cnt w m) = cnt w m := by
  unfold cnt
  split
  · rfl
  · rw [Int.fmod_fmod]
theorem callMM_ev {f : FM} {m1 m2 : ME} {ρ : En} {d e : PyData} {r : Rs} {as : List DV} (h1 : m1 ρ = some (.dat d, ρ)) (h2 : m2 ρ = some (.dat e, ρ)) (h : f [.dat d, .dat e] = some (r, as)) : mCall [] f (mCons m1 (mCons m2 mNil)) ρ = some (r, ρ) := by
  have pb : putBack [.dat d, .dat e] as ρ = ρ := by
    rcases as with _ | ⟨a, _ | ⟨b, r⟩⟩ <;> simp [putBack]
  have hc : mCons m1 (mCons m2 mNil) ρ = some ([.dat d, .dat e], ρ) := by
    simp only [mCons, h1, h2, mNil, frz1]
  unfold mCall
  rw [hc]
  simp [escB, esc, argsOf, slotsOf, h, pb]
theorem callMMM_ev {f : FM} {m1 m2 m3 : ME} {ρ : En} {d e g : PyData} {r : Rs} {as : List DV} (h1 : m1 ρ = some (.dat d, ρ)) (h2 : m2 ρ = some (.dat e, ρ)) (h3 : m3 ρ = some (.dat g, ρ)) (h : f [.dat d, .dat e, .dat g] = some (r, as)) : mCall [] f (mCons m1 (mCons m2 (mCons m3 mNil))) ρ = some (r, ρ) := by
  have pb : putBack [.dat d, .dat e, .dat g] as ρ = ρ := by
    rcases as with _ | ⟨a, _ | ⟨b, _ | ⟨c, r⟩⟩⟩ <;> simp [putBack]
  have hc : mCons m1 (mCons m2 (mCons m3 mNil)) ρ = some ([.dat d, .dat e, .dat g], ρ) := by
    simp only [mCons, h1, h2, h3, mNil, frz1]
  unfold mCall
  rw [hc]
  simp [escB, esc, argsOf, slotsOf, h, pb]
theorem op1_ev {f : PyData → Option Rs} {m : ME} {ρ ρ1 : En} {r r2 : Rs} {d : PyData} (h : m ρ = some (r, ρ1)) (hf : frz1 r = some (.dat d)) (hd : f d = some r2) : mOp1 f m ρ = some (r2, ρ1) := by
  simp only [mOp1, mPure, mCons, h, hf, mNil, looks, lookS, Option.bind, Option.map, f1, hd]
theorem psAt_nd {w : Int} {ps : List Pl} {ts : List Ti} (h : WF ps ts) (path : List Str) : ((psAt w ps ts path).map (·.1)).Nodup := by
  have e : (psAt w ps ts path).map (·.1) = (ps.filter fun p => decide (p.1 ∉ path)).map (·.1) := by
    unfold psAt
    rw [List.map_map]
    exact List.map_congr_left fun p _ => tns_fst w ts path p
  rw [e]
  exact List.Nodup.sublist (List.Sublist.map _ List.filter_sublist) h.nd
theorem mem_psAt' {w : Int} {ps : List Pl} {ts : List Ti} {path : List Str} {p : Pl} (hp : p ∈ ps) (hn : p.1 ∉ path) : path.foldl (tn w ts) p ∈ psAt w ps ts path := by
  unfold psAt
  exact List.mem_map.mpr ⟨p, List.mem_filter.mpr ⟨hp, by simpa using hn⟩, rfl⟩
theorem filterMap_glass {ts : List Ti} {m : Str} : ∀ (es : List Str) (gs : List Int), es.length = gs.length → (∀ k (h1 : k < es.length) (h2 : k < gs.length), adj ts es[k] m = some gs[k]) → gls ts es m = gs
  | [], [], _, _ => rfl
  | [], _ :: _, h, _ => by cases h
  | _ :: _, [], h, _ => by cases h
  | e :: es, g :: gs, h, hk => by
    have h0 := hk 0 (by simp) (by simp)
    simp only [List.getElem_cons_zero] at h0
    have ih := filterMap_glass es gs (by simpa using h) fun k h1 h2 => hk (k + 1) (by simpa using h1) (by simpa using h2)
    unfold gls at ih ⊢
    rw [List.filterMap_cons, h0]
    simp only [ih]
theorem par2_dd {i j : Nat} {ma mb : ME} {ρ ρ1 ρ2 : En} {d e : PyData} (h1 : ma ρ = some (.dat d, ρ1)) (h2 : mb ρ1 = some (.dat e, ρ2)) : mPar2 i j ma mb ρ = some (.next, (ρ2.set i (some (.dat d))).set j (some (.dat e))) := by
  simp [mPar2, h1, h2, noSlot, setN]
theorem op2_ev {f : PyData → PyData → Option Rs} {ma mb : ME} {ρ ρ1 ρ2 : En} {r1 r2 r : Rs} {d e : PyData} (h1 : ma ρ = some (r1, ρ1)) (g1 : frz1 r1 = some (.dat d)) (h2 : mb ρ1 = some (r2, ρ2)) (g2 : frz1 r2 = some (.dat e)) (hf : f d e = some r) : mOp2 f ma mb ρ = some (r, ρ2) := by
  simp only [mOp2, mPure, mCons, h1, g1, h2, g2, mNil, looks, lookS, Option.bind, Option.map, f2, hf]
theorem add_int (a b : Int) : addD (.int a) (.int b) = some (.dat (.int (a + b))) := rfl
theorem sub_int (a b : Int) : subD (.int a) (.int b) = some (.dat (.int (a - b))) := rfl
theorem call_of {f : FM} {ms : MA} {ρ ρ1 : En} {d e : PyData} {r : Rs} {as : List DV} (hc : ms ρ = some ([.dat d, .dat e], ρ1)) (h : f [.dat d, .dat e] = some (r, as)) : mCall [] f ms ρ = some (r, ρ1) := by
  have pb : putBack [.dat d, .dat e] as ρ1 = ρ1 := by
    rcases as with _ | ⟨a, _ | ⟨b, r⟩⟩ <;> simp [putBack]
  unfold mCall
  rw [hc]
  simp [escB, esc, argsOf, slotsOf, h, pb]
theorem glass_ev (w a b c : Int) (rest : En) (hw : rest[0]? = some (some (.dat (.int w)))) : ∃ g a' c', mCall [] fm__law_round (mCons (mVar 1) (mCons (mOp2 subD (mCall [0] fm__law_take (mCons (mVar 0) (mCons (mC (.int 60)) mNil))) (mC (.int 20))) mNil)) (some (box a b c) :: rest) = some (.dat (.int (cnt w g)), some (box a' b c') :: rest) := by
  obtain ⟨r, a1, c1, t, _, _⟩ := take_c a b c 60 rest (by decide) (by decide)
  refine ⟨r - 20, a1, c1, ?_⟩
  have h2 := op2_ev (f := subD) t rfl (show mC (.int 20) (some (box a1 b c1) :: rest) = some (.dat (.int 20), some (box a1 b c1) :: rest) from rfl) rfl (sub_int r 20)
  have hv : mVar 1 (some (box a b c) :: rest) = some (.dat (.int w), some (box a b c) :: rest) := by
    unfold mVar
    rw [show (some (box a b c) :: rest)[1]? = rest[0]? from rfl, hw]
  have hc : mCons (mVar 1) (mCons (mOp2 subD (mCall [0] fm__law_take (mCons (mVar 0) (mCons (mC (.int 60)) mNil))) (mC (.int 20))) mNil) (some (box a b c) :: rest) = some ([.dat (.int w), .dat (.int (r - 20))], some (box a1 b c1) :: rest) := by
    simp only [mCons, hv, h2, mNil, frz1]
  exact call_of hc (round_spec w (r - 20))
theorem sub_dat {ma mb : ME} {ρ ρ1 ρ2 : En} {r : Nat} {ds : List PyData} (h1 : ma ρ = some (.dat (.list ds), ρ1)) (h2 : mb ρ1 = some (.dat (.int (r : Int)), ρ2)) (hr : r < ds.length) : mSub ma mb ρ = some (.dat ds[r], ρ2) := by
  simp [mSub, mCons, h1, h2, mNil, frz1, dctAt, looks, lookS, ixD, atI, ixN, hr]
theorem tup2_ev {ma mb : ME} {ρ ρ1 ρ2 : En} {d e : PyData} (h1 : ma ρ = some (.dat d, ρ1)) (h2 : mb ρ1 = some (.dat e, ρ2)) : mTup (mCons ma (mCons mb mNil)) ρ = some (.dat (.tuple [d, e]), ρ2) := by
  simp only [mTup, mCons, h1, h2, mNil, frz1, escAll, esc]
theorem lst2_ev {ma mb : ME} {ρ ρ1 ρ2 : En} {d e : PyData} (h1 : ma ρ = some (.dat d, ρ1)) (h2 : mb ρ1 = some (.dat e, ρ2)) : mLst (mCons ma (mCons mb mNil)) ρ = some (.new (.lst [d, e]), ρ2) := by
  simp only [mLst, mCons, h1, h2, mNil, frz1, escAll, esc]
theorem andV_ev {m n : ME} {ρ ρ1 : En} (h : m ρ = some (.dat (.bool true), ρ1)) : mAndV m n ρ = n ρ1 := by
  simp [mAndV, h, frz1, truS, lookS, truD]
theorem orV_ev {m n : ME} {ρ : En} {x y z : Bool} (h1 : m ρ = some (.dat (.bool x), ρ)) (h2 : n ρ = some (.dat (.bool y), ρ)) (h : (x || y) = z) : mOrV m n ρ = some (.dat (.bool z), ρ) := by
  subst h
  cases x <;> simp [mOrV, h1, h2, frz1, truS, lookS, truD]
theorem callB1_ev {f : FM} {ρ : En} {o o' : OB} {r : Rs} {as : List DV} (h0 : ρ[0]? = some (some (.obj o))) (h : f [.obj o] = some (r, .obj o' :: as)) : mCall [0] f (mCons (mVar 0) mNil) ρ = some (r, ρ.set 0 (some (.obj o'))) := by
  have pb : ∀ ρ' : En, putBack [] as ρ' = ρ' := by
    intro ρ'
    rcases as with _ | ⟨a, r⟩ <;> simp [putBack]
  simp [mCall, mCons, mVar, h0, mNil, frz1, escB, argsOf, slotsOf, h, putBack, pb]
theorem callBM_ev {f : FM} {m : ME} {ρ ρ1 : En} {o0 o o' : OB} {d : PyData} {r : Rs} {as : List DV} (h0 : ρ[0]? = some (some (.obj o0))) (h1 : m ρ = some (.dat d, ρ1)) (h2 : ρ1[0]? = some (some (.obj o))) (h : f [.obj o, .dat d] = some (r, .obj o' :: as)) : mCall [0] f (mCons (mVar 0) (mCons m mNil)) ρ = some (r, ρ1.set 0 (some (.obj o'))) := by
  have pb : ∀ ρ' : En, putBack [.dat d] as ρ' = ρ' := by
    intro ρ'
    rcases as with _ | ⟨a, r⟩ <;> simp [putBack]
  simp [mCall, mCons, mVar, h0, h1, h2, mNil, frz1, escB, esc, argsOf, slotsOf, h, putBack, pb]
theorem const_range (n : Nat) (hn : n < 1000000) (ρ : En) : iR1 (mCons (mC (.int (n : Int))) mNil) ρ = some ((List.range' 0 n).map fun i : Nat => PyData.int (i : Int), ρ) := range1_ev rfl hn
theorem notfalse {M : ME} {S T : MS} {ρ ρ1 : En} (h : M ρ = some (.dat (.bool true), ρ1)) : mIfS (mNot (mTru M)) S T ρ = T ρ1 := by
  simp [mIfS, mNot, mTru, h, frz1, truS, lookS, truD]
end Kx

set_option Elab.async false
set_option linter.all false
set_option maxRecDepth 100000
set_option autoImplicit false
namespace Kx
open PySem PySem.Spec PyProof.Rows L2 Mw
/-! ### neighbours -/
def Adj (ts : List Ti) (x y : Str) : Prop := ∃ t ∈ ts, between x y t = true
theorem Adj.symm {ts : List Ti} {x y : Str} (h : Adj ts x y) : Adj ts y x := by
  obtain ⟨t, h1, h2⟩ := h
  refine ⟨t, h1, ?_⟩
  unfold between at *
  simp only [decide_eq_true_eq] at *
  exact h2.symm
inductive Conn (ts : List Ti) (x : Str) : Str → Prop
  | refl : Conn ts x x
  | step {y z : Str} : Conn ts x y → Adj ts y z → Conn ts x z
theorem sorted_strs (xs : List Str) (h : ∀ x ∈ xs, TxOk x) (hz : xs.length < 1000000) : ∃ ys : List Str, ys.Perm xs ∧ sortedD (.list (xs.map PyData.str)) = some (.new (.lst (ys.map PyData.str))) := by
  obtain ⟨ys, h1, h2⟩ := perm_map_inv PyData.str _ xs (List.mergeSort_perm (xs.map PyData.str) (PySem.W.dataLe false id))
  refine ⟨ys, h1, ?_⟩
  rw [h2]
  unfold sortedD
  dsimp only
  have hl' : PyData.canLayAll0 (xs.map PyData.str) = true := canLayAll_of fun d hd => by
    obtain ⟨b, hb, rfl⟩ := List.mem_map.mp hd
    exact h b hb
  have hd' : ∀ d ∈ xs.map PyData.str, d.depth ≤ 62 := fun d hd => by
    obtain ⟨b, hb, rfl⟩ := List.mem_map.mp hd
    simp [PyData.depth]
  rw [if_pos ⟨PySem.W.AllAlike.of fun a b => by simp [PySem.W.alike], PySem.W.Sortable.others fun b => ⟨nofun, nofun⟩, hl', by rw [List.length_map]; exact Nat.le_of_lt (few hz), hd'⟩]
theorem near_loop1 (H N : PyData) (x : Str) (hx : TxOk x) (ts : List Ti) (h : ∀ t ∈ ts, TxOk t.1 ∧ TxOk t.2.1) : loopC [4, 5, 6] (gT 3 (gsCons (gN 4) (gsCons (gN 5) (gsCons (gN 6) gsNil)))) (mB (mOp2 eqD (mVar 5) (mVar 1))) (mVar 4) (ts.map tiD) [] [some (.dat H), some (.dat (.str x)), none, none, none, none, none]
    = some (((ts.filter fun t => decide (t.2.1 = x)).map (·.1)).map PyData.str, [some (.dat H), some (.dat (.str x)), none, none, none, none, none]) := by
  have := loopC_map (vs := [4, 5, 6]) (g := gT 3 (gsCons (gN 4) (gsCons (gN 5) (gsCons (gN 6) gsNil)))) (t := mB (mOp2 eqD (mVar 5) (mVar 1))) (me := mVar 4) tiD (fun t => decide (t.2.1 = x)) (fun t => PyData.str t.1) [some (.dat H), some (.dat (.str x)), none, none, none, none, none] ts [] (by
    intro t ht
    have e : mB (mOp2 eqD (mVar 5) (mVar 1)) [some (.dat H), some (.dat (.str x)), none, none, some (.dat (.str t.1)), some (.dat (.str t.2.1)), some (.dat (.int t.2.2))] = some (decide (t.2.1 = x), [some (.dat H), some (.dat (.str x)), none, none, some (.dat (.str t.1)), some (.dat (.str t.2.1)), some (.dat (.int t.2.2))]) := by
      simp [runF, okArgs, em, mSeq, mIfS, mB, mOp2, mOp1, mPure, mCons, mVar, mC, mNil, frz1, looks, lookS, f1, f2, mSkip, mRet, mRetN, mDrop, gtD, geD, ltD, leD, isD, isnD, addD, subD, mulD, modD, fdivD, powD, negD, fOr, i2, i2c, mSub, finF, outR, outA, mSet, mSetI, toD, esc, escAll, setItemAt, dctAt, setAt, ixD, atI, ixN, setR, mTru, truS, truD, mAnd, mOr, mNot, mAndV, mOrV, mNotV, mIf, mTup, mLst, mAsg, gN, gT, gsCons, gsNil, mChain, mCall, escB, argsOf, slotsOf, putBack, iE, itemsD, mPar2, wipeE, restE, noOwn, mYes, lenD, absD, Mw.intD, listD, tupleD, mSl, oNone, oSome, slD, mMeth, lstAt, fAppend, mSetT, setTAt, mGetT, dttAt, mD0, mD0T, mPar3, noSlot, setN, mIn, isiD, tyD, isTy, eqD_int, neD_int, eqD_bool, neD_bool, eqD_ii, Mw.keyOf, mLc, mFor, mNeverS, revD, eqD_str (h t ht).2 hx]
    refine ⟨_, rfl, ?_⟩
    cases hd : decide (t.2.1 = x) with
    | true =>
      rw [hd] at e
      exact .inl ⟨rfl, _, _, _, _, e, rfl, rfl, rfl⟩
    | false =>
      rw [hd] at e
      exact .inr ⟨rfl, _, e, rfl⟩)
  rw [this]
  simp
theorem near_loop2 (H N : PyData) (x : Str) (hx : TxOk x) (o : OB) (ts : List Ti) (h : ∀ t ∈ ts, TxOk t.1 ∧ TxOk t.2.1) : loopC [4, 5, 6] (gT 3 (gsCons (gN 4) (gsCons (gN 5) (gsCons (gN 6) gsNil)))) (mB (mOp2 eqD (mVar 4) (mVar 1))) (mVar 5) (ts.map tiD) [] [some (.dat H), some (.dat (.str x)), some (.obj o), none, none, none, none]
    = some (((ts.filter fun t => decide (t.1 = x)).map (·.2.1)).map PyData.str, [some (.dat H), some (.dat (.str x)), some (.obj o), none, none, none, none]) := by
  have := loopC_map (vs := [4, 5, 6]) (g := gT 3 (gsCons (gN 4) (gsCons (gN 5) (gsCons (gN 6) gsNil)))) (t := mB (mOp2 eqD (mVar 4) (mVar 1))) (me := mVar 5) tiD (fun t => decide (t.1 = x)) (fun t => PyData.str t.2.1) [some (.dat H), some (.dat (.str x)), some (.obj o), none, none, none, none] ts [] (by
    intro t ht
    have e : mB (mOp2 eqD (mVar 4) (mVar 1)) [some (.dat H), some (.dat (.str x)), some (.obj o), none, some (.dat (.str t.1)), some (.dat (.str t.2.1)), some (.dat (.int t.2.2))] = some (decide (t.1 = x), [some (.dat H), some (.dat (.str x)), some (.obj o), none, some (.dat (.str t.1)), some (.dat (.str t.2.1)), some (.dat (.int t.2.2))]) := by
      simp [runF, okArgs, em, mSeq, mIfS, mB, mOp2, mOp1, mPure, mCons, mVar, mC, mNil, frz1, looks, lookS, f1, f2, mSkip, mRet, mRetN, mDrop, gtD, geD, ltD, leD, isD, isnD, addD, subD, mulD, modD, fdivD, powD, negD, fOr, i2, i2c, mSub, finF, outR, outA, mSet, mSetI, toD, esc, escAll, setItemAt, dctAt, setAt, ixD, atI, ixN, setR, mTru, truS, truD, mAnd, mOr, mNot, mAndV, mOrV, mNotV, mIf, mTup, mLst, mAsg, gN, gT, gsCons, gsNil, mChain, mCall, escB, argsOf, slotsOf, putBack, iE, itemsD, mPar2, wipeE, restE, noOwn, mYes, lenD, absD, Mw.intD, listD, tupleD, mSl, oNone, oSome, slD, mMeth, lstAt, fAppend, mSetT, setTAt, mGetT, dttAt, mD0, mD0T, mPar3, noSlot, setN, mIn, isiD, tyD, isTy, eqD_int, neD_int, eqD_bool, neD_bool, eqD_ii, Mw.keyOf, mLc, mFor, mNeverS, revD, eqD_str (h t ht).1 hx]
    refine ⟨_, rfl, ?_⟩
    cases hd : decide (t.1 = x) with
    | true =>
      rw [hd] at e
      exact .inl ⟨rfl, _, _, _, _, e, rfl, rfl, rfl⟩
    | false =>
      rw [hd] at e
      exact .inr ⟨rfl, _, e, rfl⟩)
  rw [this]
  simp
theorem near_spec (w : Int) {ps : List Pl} {ts : List Ti} (h : WF ps ts) (x : Str) (hx : TxOk x) : ∃ ys : List Str, (∀ y, y ∈ ys ↔ Adj ts x y) ∧ (∀ y ∈ ys, TxOk y) ∧ ys.length < 10000 ∧ fm_near [.dat (hallD w ps ts), .dat (.str x)] = some (.new (.lst (ys.map PyData.str)), [.dat (hallD w ps ts), .dat (.str x)]) := by
  have zt := h.zt
  have lf1 := List.length_filter_le (fun t : Ti => decide (t.2.1 = x)) ts
  have lf2 := List.length_filter_le (fun t : Ti => decide (t.1 = x)) ts
  have mem : ∀ y, y ∈ ((ts.filter fun t => decide (t.2.1 = x)).map (·.1)) ++ ((ts.filter fun t => decide (t.1 = x)).map (·.2.1)) ↔ Adj ts x y := by
    intro y
    simp only [List.mem_append, List.mem_map, List.mem_filter, decide_eq_true_eq, Adj, between]
    constructor
    · rintro (⟨t, ⟨h1, h2⟩, h3⟩ | ⟨t, ⟨h1, h2⟩, h3⟩)
      · exact ⟨t, h1, .inr ⟨h3, h2⟩⟩
      · exact ⟨t, h1, .inl ⟨h2, h3⟩⟩
    · rintro ⟨t, h1, ⟨h2, h3⟩ | ⟨h2, h3⟩⟩
      · exact .inr ⟨t, ⟨h1, h2⟩, h3⟩
      · exact .inl ⟨t, ⟨h1, h3⟩, h2⟩
  have tx : ∀ y, y ∈ ((ts.filter fun t => decide (t.2.1 = x)).map (·.1)) ++ ((ts.filter fun t => decide (t.1 = x)).map (·.2.1)) → TxOk y := by
    intro y hy
    rcases List.mem_append.mp hy with hy | hy
    · obtain ⟨t, ht, rfl⟩ := List.mem_map.mp hy
      exact (h.tt t (List.mem_filter.mp ht).1).1
    · obtain ⟨t, ht, rfl⟩ := List.mem_map.mp hy
      exact (h.tt t (List.mem_filter.mp ht).1).2
  have e1 : iE (mSub (mVar 0) (mC (.int 2))) [some (.dat (hallD w ps ts)), some (.dat (.str x)), none, none, none, none, none] = some (ts.map tiD, [some (.dat (hallD w ps ts)), some (.dat (.str x)), none, none, none, none, none]) := rfl
  have l1 := near_loop1 (hallD w ps ts) (.none) x hx ts h.tt
  have l2 := near_loop2 (hallD w ps ts) (.none) x hx (.lst (((ts.filter fun t => decide (t.2.1 = x)).map (·.1)).map PyData.str)) ts h.tt
  obtain ⟨ys, hp, hs⟩ := sorted_strs _ tx (by rw [List.length_append, List.length_map, List.length_map]; omega)
  rw [List.map_append] at hs
  have hyl : ys.length < 10000 := by
    rw [hp.length_eq, List.length_append, List.length_map, List.length_map]
    omega
  have hz : (((ts.filter fun t => decide (t.2.1 = x)).map (·.1)).map PyData.str).length + (((ts.filter fun t => decide (t.1 = x)).map (·.2.1)).map PyData.str).length ≤ sizeLine := by
    have := Nat.le_of_lt (few (show ((ts.filter fun t => decide (t.2.1 = x))).length + ((ts.filter fun t => decide (t.1 = x))).length < 1000000 by omega))
    simpa using this
  refine ⟨ys, fun y => ⟨fun hy => (mem y).mp (hp.mem_iff.mp hy), fun hy => hp.mem_iff.mpr ((mem y).mpr hy)⟩, fun y hy => tx y (hp.mem_iff.mp hy), hyl, ?_⟩
  generalize (((ts.filter fun t => decide (t.2.1 = x)).map (·.1)).map PyData.str) = A at *
  generalize (((ts.filter fun t => decide (t.1 = x)).map (·.2.1)).map PyData.str) = B at *
  have s1 := set_new (i := 2) (lc_ev (vs := [4, 5, 6]) e1 (by rw [List.length_map]; omega) rfl rfl l1 rfl) (by simp [restE])
  have e2 : iE (mSub (mVar 0) (mC (.int 2))) [some (.dat (hallD w ps ts)), some (.dat (.str x)), some (.obj (.lst A)), none, none, none, none] = some (ts.map tiD, [some (.dat (hallD w ps ts)), some (.dat (.str x)), some (.obj (.lst A)), none, none, none, none]) := rfl
  have s2 := set_new (i := 3) (lc_ev (vs := [4, 5, 6]) e2 (by rw [List.length_map]; omega) rfl rfl l2 rfl) (by simp [restE])
  have s3 : mRet (mOp1 sortedD (mOp2 addD (mVar 2) (mVar 3))) [some (.dat (hallD w ps ts)), some (.dat (.str x)), some (.obj (.lst A)), some (.obj (.lst B)), none, none, none] = some (.ret (.new (.lst (ys.map PyData.str))), [some (.dat (hallD w ps ts)), some (.dat (.str x)), some (.obj (.lst A)), some (.obj (.lst B)), none, none, none]) := by
    simp [mRet, mOp1, mOp2, mPure, mCons, mVar, mNil, frz1, looks, lookS, f2, f1, addD, fOr, i2, catS, catL, hz, hs]
  have all := (seq_next s1).trans ((seq_next s2).trans s3)
  unfold fm_near m_near runF
  generalize (mSeq (mSet 2 (mLc (iE (mSub (mVar 0) (mC (.int 2)))) [4, 5, 6] (gT 3 (gsCons (gN 4) (gsCons (gN 5) (gsCons (gN 6) gsNil)))) (mB (mOp2 eqD (mVar 5) (mVar 1))) (mVar 4))) _) = MM at all ⊢
  generalize hallD w ps ts = HH at *
  simp [okArgs, Mw.em, all, finF, outR, outA]
end Kx

set_option Elab.async false
set_option linter.all false
set_option maxRecDepth 100000
set_option autoImplicit false
namespace Kx
open PySem PySem.Spec PyProof.Rows L2 Mw
/-! ### reached -/
/-- the dict has just these keys, in this order -/
def Keys (kvs : List (Key × Pd)) (ks : List Str) : Prop := kvs.map (·.1) = ks.map Sum.inr
theorem Keys.val {kvs : List (Key × Pd)} {ks : List Str} (h : Keys kvs ks) (y : Str) : (valP kvs (.inr y)).isSome = decide (y ∈ ks) := by
  unfold valP Keys at *
  rw [Option.isSome_map]
  induction kvs generalizing ks with
  | nil =>
    cases ks with
    | nil => rfl
    | cons _ _ => cases h
  | cons p r ih =>
    cases ks with
    | nil => cases h
    | cons k ks =>
      simp only [List.map_cons, List.cons.injEq] at h
      rw [List.find?_cons]
      by_cases e : k = y
      · subst e
        simp [h.1]
      · have : ¬ p.1 = .inr y := fun z => e (Sum.inr.inj (h.1.symm.trans z))
        rw [decide_eq_false this]
        rw [ih h.2]
        have e' : ¬ y = k := fun z => e z.symm
        simp [e']
theorem Keys.put {kvs : List (Key × Pd)} {ks : List Str} (h : Keys kvs ks) {y : Str} (hy : y ∉ ks) (d : Pd) : Keys (putP kvs (.inr y) d) (ks ++ [y]) := by
  have hn : (kvs.any fun kv => decide (kv.1 = .inr y)) = false := by
    rw [List.any_eq_false]
    intro p hp z
    simp only [decide_eq_true_eq] at z
    have : Sum.inr y ∈ ks.map (Sum.inr : Str → Key) := by
      rw [← h]
      exact List.mem_map.mpr ⟨p, hp, z⟩
    obtain ⟨k, hk, e⟩ := List.mem_map.mp this
    exact hy (Sum.inr.inj e ▸ hk)
  unfold putP
  rw [hn]
  unfold Keys at *
  simp [h]
theorem Keys.strs {kvs : List (Key × Pd)} {ks : List Str} (h : Keys kvs ks) : keyStrs kvs = some ks := by
  unfold Keys at h
  induction kvs generalizing ks with
  | nil =>
    cases ks with
    | nil => rfl
    | cons _ _ => cases h
  | cons p r ih =>
    cases ks with
    | nil => cases h
    | cons k ks =>
      simp only [List.map_cons, List.cons.injEq] at h
      obtain ⟨k', d⟩ := p
      have e : k' = .inr k := h.1
      subst e
      simp only [keyStrs, ih h.2]
theorem Keys.len {kvs : List (Key × Pd)} {ks : List Str} (h : Keys kvs ks) : kvs.length = ks.length := by
  have := congrArg List.length h
  simpa using this
theorem ifS_true {t : MT} {a b : MS} {ρ ρ1 : En} (h : t ρ = some (true, ρ1)) : mIfS t a b ρ = a ρ1 := by
  simp only [mIfS, h]
theorem ifS_false {t : MT} {a b : MS} {ρ ρ1 : En} (h : t ρ = some (false, ρ1)) : mIfS t a b ρ = b ρ1 := by
  simp only [mIfS, h]
noncomputable abbrev nearBody : MS := (mIfS (mB (mIn true (mVar 5) (mVar 2))) (mSeq (mSetI (mVar 4) (mVar 2) (mVar 5)) (mDrop (mMeth fAppend (mVar 3) (mCons (mVar 5) mNil)))) mSkip)
theorem near_walk (H S n : PyData) : ∀ (ys ks W : List Str) (kvs : List (Key × Pd)) (e5 : Option DV), Keys kvs ks → ks.length + ys.length < 100000 → W.length + ys.length < 100000 → ∃ (new : List Str) (kvs' : List (Key × Pd)) (f5 : Option DV), Keys kvs' (ks ++ new) ∧ (∀ y ∈ ys, y ∈ ks ++ new) ∧ (∀ y ∈ new, y ∈ ys ∧ y ∉ ks) ∧ new.Nodup ∧ new.length ≤ ys.length ∧
    loopS (gN 5) nearBody (ys.map PyData.str) [some (.dat H), some (.dat S), some (.obj (.dct kvs)), some (.obj (.lst (W.map PyData.str))), some (.dat n), e5] = some (.next, [some (.dat H), some (.dat S), some (.obj (.dct kvs')), some (.obj (.lst ((W ++ new).map PyData.str))), some (.dat n), f5])
  | [], ks, W, kvs, e5, h, _, _ => ⟨[], kvs, e5, by simpa using h, by simp, by simp, by simp, by simp, by simp [loopS]⟩
  | y :: ys, ks, W, kvs, e5, h, hz, hw => by
    rw [List.length_cons] at hz hw
    have hv := h.val y
    by_cases hy : y ∈ ks
    · obtain ⟨new, kvs', f5, a1, a2, a3, a4, a5, a6⟩ := near_walk H S n ys ks W kvs (some (.dat (.str y))) h (by omega) (by omega)
      refine ⟨new, kvs', f5, a1, fun z hz => ?_, fun z hz => ⟨List.mem_cons_of_mem _ (a3 z hz).1, (a3 z hz).2⟩, a4, by rw [List.length_cons]; omega, ?_⟩
      · rcases List.mem_cons.mp hz with rfl | hz
        · exact List.mem_append_left _ hy
        · exact a2 z hz
      · have s : nearBody [some (.dat H), some (.dat S), some (.obj (.dct kvs)), some (.obj (.lst (W.map PyData.str))), some (.dat n), some (.dat (.str y))] = some (.next, [some (.dat H), some (.dat S), some (.obj (.dct kvs)), some (.obj (.lst (W.map PyData.str))), some (.dat n), some (.dat (.str y))]) := by
          rw [decide_eq_true hy] at hv
          simp [nearBody, runF, okArgs, em, mSeq, mIfS, mB, mOp2, mOp1, mPure, mCons, mVar, mC, mNil, frz1, looks, lookS, f1, f2, mSkip, mRet, mRetN, mDrop, gtD, geD, ltD, leD, isD, isnD, addD, subD, mulD, modD, fdivD, powD, negD, fOr, i2, i2c, mSub, finF, outR, outA, mSet, mSetI, toD, esc, escAll, setItemAt, dctAt, setAt, ixD, atI, ixN, setR, mTru, truS, truD, mAnd, mOr, mNot, mAndV, mOrV, mNotV, mIf, mTup, mLst, mAsg, gN, gT, gsCons, gsNil, mChain, mCall, escB, argsOf, slotsOf, putBack, iE, itemsD, mPar2, wipeE, restE, noOwn, mYes, lenD, absD, Mw.intD, listD, tupleD, mSl, oNone, oSome, slD, mMeth, lstAt, fAppend, mSetT, setTAt, mGetT, dttAt, mD0, mD0T, mPar3, noSlot, setN, mIn, isiD, tyD, isTy, eqD_int, neD_int, eqD_bool, neD_bool, eqD_ii, Mw.keyOf, mLc, mFor, mNeverS, revD, hv]
        rw [List.map_cons]
        exact (loopS_cons rfl s).trans a6
    · obtain ⟨new, kvs', f5, a1, a2, a3, a4, a5, a6⟩ := near_walk H S n ys (ks ++ [y]) (W ++ [y]) (putP kvs (.inr y) n) (some (.dat (.str y))) (h.put hy n) (by rw [List.length_append, List.length_singleton]; omega) (by rw [List.length_append, List.length_singleton]; omega)
      rw [List.append_assoc] at a1 a2 a6
      refine ⟨[y] ++ new, kvs', f5, a1, fun z hz => ?_, fun z hz => ?_, ?_, by simp; omega, ?_⟩
      · rcases List.mem_cons.mp hz with rfl | hz
        · simp
        · exact a2 z hz
      · rcases List.mem_append.mp hz with hz | hz
        · rw [List.mem_singleton] at hz
          subst hz
          exact ⟨List.mem_cons_self, hy⟩
        · exact ⟨List.mem_cons_of_mem _ (a3 z hz).1, fun q => (a3 z hz).2 (List.mem_append_left _ q)⟩
      · rw [List.nodup_append]
        refine ⟨by simp, a4, fun p hp q hq e => ?_⟩
        rw [List.mem_singleton] at hp
        subst hp e
        exact (a3 p hq).2 (by simp)
      · have hkl : kvs.length < sizeLine := few (by rw [h.len]; omega)
        have hwl : W.length < sizeLine := few (by omega)
        have hap : fAppend (W.map PyData.str) [.str y] = some (.none, (W ++ [y]).map PyData.str) := by simp [fAppend, hwl]
        have t1 : mB (mIn true (mVar 5) (mVar 2)) [some (.dat H), some (.dat S), some (.obj (.dct kvs)), some (.obj (.lst (W.map PyData.str))), some (.dat n), some (.dat (.str y))] = some (true, [some (.dat H), some (.dat S), some (.obj (.dct kvs)), some (.obj (.lst (W.map PyData.str))), some (.dat n), some (.dat (.str y))]) := by
          rw [decide_eq_false hy] at hv
          simp [runF, okArgs, em, mSeq, mIfS, mB, mOp2, mOp1, mPure, mCons, mVar, mC, mNil, frz1, looks, lookS, f1, f2, mSkip, mRet, mRetN, mDrop, gtD, geD, ltD, leD, isD, isnD, addD, subD, mulD, modD, fdivD, powD, negD, fOr, i2, i2c, mSub, finF, outR, outA, mSet, mSetI, toD, esc, escAll, setItemAt, dctAt, setAt, ixD, atI, ixN, setR, mTru, truS, truD, mAnd, mOr, mNot, mAndV, mOrV, mNotV, mIf, mTup, mLst, mAsg, gN, gT, gsCons, gsNil, mChain, mCall, escB, argsOf, slotsOf, putBack, iE, itemsD, mPar2, wipeE, restE, noOwn, mYes, lenD, absD, Mw.intD, listD, tupleD, mSl, oNone, oSome, slD, mMeth, lstAt, fAppend, mSetT, setTAt, mGetT, dttAt, mD0, mD0T, mPar3, noSlot, setN, mIn, isiD, tyD, isTy, eqD_int, neD_int, eqD_bool, neD_bool, eqD_ii, Mw.keyOf, mLc, mFor, mNeverS, revD, hv]
        have s1 : mSetI (mVar 4) (mVar 2) (mVar 5) [some (.dat H), some (.dat S), some (.obj (.dct kvs)), some (.obj (.lst (W.map PyData.str))), some (.dat n), some (.dat (.str y))] = some (.next, [some (.dat H), some (.dat S), some (.obj (.dct (putP kvs (.inr y) n))), some (.obj (.lst (W.map PyData.str))), some (.dat n), some (.dat (.str y))]) := by
          simp [runF, okArgs, em, mSeq, mIfS, mB, mOp2, mOp1, mPure, mCons, mVar, mC, mNil, frz1, looks, lookS, f1, f2, mSkip, mRet, mRetN, mDrop, gtD, geD, ltD, leD, isD, isnD, addD, subD, mulD, modD, fdivD, powD, negD, fOr, i2, i2c, mSub, finF, outR, outA, mSet, mSetI, toD, esc, escAll, setItemAt, dctAt, setAt, ixD, atI, ixN, setR, mTru, truS, truD, mAnd, mOr, mNot, mAndV, mOrV, mNotV, mIf, mTup, mLst, mAsg, gN, gT, gsCons, gsNil, mChain, mCall, escB, argsOf, slotsOf, putBack, iE, itemsD, mPar2, wipeE, restE, noOwn, mYes, lenD, absD, Mw.intD, listD, tupleD, mSl, oNone, oSome, slD, mMeth, lstAt, fAppend, mSetT, setTAt, mGetT, dttAt, mD0, mD0T, mPar3, noSlot, setN, mIn, isiD, tyD, isTy, eqD_int, neD_int, eqD_bool, neD_bool, eqD_ii, Mw.keyOf, mLc, mFor, mNeverS, revD, hkl]
        have s2 := drop_ev (meth_ev (f := fAppend) (mo := mVar 3) (j := 3) (ρ := [some (.dat H), some (.dat S), some (.obj (.dct (putP kvs (.inr y) n))), some (.obj (.lst (W.map PyData.str))), some (.dat n), some (.dat (.str y))]) rfl rfl (cons1_ev (m := mVar 5) rfl) rfl rfl hap)
        have s : nearBody [some (.dat H), some (.dat S), some (.obj (.dct kvs)), some (.obj (.lst (W.map PyData.str))), some (.dat n), some (.dat (.str y))] = some (.next, [some (.dat H), some (.dat S), some (.obj (.dct (putP kvs (.inr y) n))), some (.obj (.lst ((W ++ [y]).map PyData.str))), some (.dat n), some (.dat (.str y))]) := (ifS_true t1).trans ((seq_next s1).trans s2)
        rw [List.map_cons]
        exact (loopS_cons rfl s).trans a6
/-- what `reached` finds -/
structure Found (ts : List Ti) (x : Str) (ks : List Str) : Prop where
  nd : ks.Nodup
  here : x ∈ ks
  conn : ∀ y ∈ ks, Conn ts x y
  shut : ∀ y ∈ ks, ∀ z, Adj ts y z → z ∈ ks
noncomputable abbrev reachB : MS := (mSeq (mSet 4 (mMeth fPop (mVar 3) mNil)) (mFor (iE (mCall [] fm_near (mCons (mVar 0) (mCons (mVar 4) mNil)))) (gN 5) nearBody))
def muR (N : Nat) (ρ : En) : Nat := match (ρ[2]? : Option (Option DV)), (ρ[3]? : Option (Option DV)) with
  | some (some (.obj (.dct kvs))), some (some (.obj (.lst W))) => 2 * (N - kvs.length) + W.length
  | _, _ => 0
theorem reach_loop (w : Int) {ps : List Pl} {ts : List Ti} (h : WF ps ts) (hm : ∀ t ∈ ts, t.1 ∈ ps.map (·.1) ∧ t.2.1 ∈ ps.map (·.1)) (x : Str) (hx : x ∈ ps.map (·.1)) (kv0 : List (Key × Pd)) (hk0 : Keys kv0 [x]) : ∃ (ks : List Str) (kvs : List (Key × Pd)) (f4 f5 : Option DV), Keys kvs ks ∧ Found ts x ks ∧ ks.length ≤ ps.length ∧
    mWhile (mTru (mVar 3)) reachB [some (.dat (hallD w ps ts)), some (.dat (.str x)), some (.obj (.dct kv0)), some (.obj (.lst [.str x])), none, none] = some (.next, [some (.dat (hallD w ps ts)), some (.dat (.str x)), some (.obj (.dct kvs)), some (.obj (.lst [])), f4, f5]) := by
  have zp := h.zp
  have txn : ∀ y, y ∈ ps.map (·.1) → TxOk y := fun y hy => by
    obtain ⟨p, hp, rfl⟩ := List.mem_map.mp hy
    exact h.tx p hp
  have adjn : ∀ y z, Adj ts y z → z ∈ ps.map (·.1) := fun y z ⟨t, ht, hb⟩ => by
    unfold between at hb
    simp only [decide_eq_true_eq] at hb
    rcases hb with ⟨_, e⟩ | ⟨e, _⟩
    · exact e ▸ (hm t ht).2
    · exact e ▸ (hm t ht).1
  have bound : ∀ ks : List Str, ks.Nodup → (∀ y ∈ ks, y ∈ ps.map (·.1)) → ks.length ≤ ps.length := fun ks nd sub => by
    have := nd.length_le_of_subset sub
    simpa using this
  obtain ⟨n, fl, ρ', e, rfl, ks, kvs, f4, f5, a1, a2, a3, rfl⟩ := loopW_inv (t := mTru (mVar 3)) (body := reachB)
    (fun ρ => ∃ (ks W : List Str) (kvs : List (Key × Pd)) (e4 e5 : Option DV), Keys kvs ks ∧ ks.Nodup ∧ x ∈ ks ∧ (∀ y ∈ ks, Conn ts x y ∧ y ∈ ps.map (·.1)) ∧ (∀ y ∈ W, y ∈ ks) ∧ (∀ y ∈ ks, y ∉ W → ∀ z, Adj ts y z → z ∈ ks) ∧ W.length ≤ 2 * ps.length + 1 ∧ 2 * (ps.length - ks.length) + W.length ≤ 2 * ps.length + 1 ∧ ρ = [some (.dat (hallD w ps ts)), some (.dat (.str x)), some (.obj (.dct kvs)), some (.obj (.lst (W.map PyData.str))), e4, e5]) (muR ps.length)
    (fun fl ρ => fl = .next ∧ ∃ (ks : List Str) (kvs : List (Key × Pd)) (f4 f5 : Option DV), Keys kvs ks ∧ Found ts x ks ∧ ks.length ≤ ps.length ∧ ρ = [some (.dat (hallD w ps ts)), some (.dat (.str x)), some (.obj (.dct kvs)), some (.obj (.lst [])), f4, f5])
    (by
      rintro ρ ⟨ks, W, kvs, e4, e5, b1, b2, b3, b4, b5, b6, b7, b8, rfl⟩
      refine ⟨!W.isEmpty, [some (.dat (hallD w ps ts)), some (.dat (.str x)), some (.obj (.dct kvs)), some (.obj (.lst (W.map PyData.str))), e4, e5], by simp [mTru, mVar, frz1, truS, lookS, truD], ?_⟩
      cases hW : W.isEmpty with
      | true =>
        have hW' : W = [] := List.isEmpty_iff.mp hW
        subst hW'
        exact .inl ⟨rfl, rfl, ks, kvs, e4, e5, b1, ⟨b2, b3, fun y hy => (b4 y hy).1, fun y hy => b6 y hy (by simp)⟩, bound ks b2 fun y hy => (b4 y hy).2, rfl⟩
      | false =>
        have hWne : W ≠ [] := fun z => by rw [z] at hW; cases hW
        obtain ⟨W', y, rfl⟩ : ∃ W' y, W = W' ++ [y] := ⟨W.dropLast, W.getLast hWne, (List.dropLast_concat_getLast hWne).symm⟩
        have hyk : y ∈ ks := b5 y (by simp)
        obtain ⟨ys, c1, c2, c3, c4⟩ := near_spec w h y (txn y (b4 y hyk).2)
        have hkl := bound ks b2 fun z hz => (b4 z hz).2
        rw [List.length_append, List.length_singleton] at b7 b8
        have hpop : fPop ((W' ++ [y]).map PyData.str) [] = some (.str y, W'.map PyData.str) := by
          simp [fPop]
        have s1 := set_dat (i := 4) (meth_ev (f := fPop) (mo := mVar 3) (j := 3) (ms := mNil) (ρ := [some (.dat (hallD w ps ts)), some (.dat (.str x)), some (.obj (.dct kvs)), some (.obj (.lst ((W' ++ [y]).map PyData.str))), e4, e5]) rfl rfl rfl rfl rfl hpop)
        obtain ⟨new, kvs', f5, d1, d2, d3, d4, d5, d6⟩ := near_walk (hallD w ps ts) (.str x) (.str y) ys ks W' kvs e5 b1 (by omega) (by omega)
        have i2 : iE (mCall [] fm_near (mCons (mVar 0) (mCons (mVar 4) mNil))) [some (.dat (hallD w ps ts)), some (.dat (.str x)), some (.obj (.dct kvs)), some (.obj (.lst (W'.map PyData.str))), some (.dat (.str y)), e5] = some (ys.map PyData.str, [some (.dat (hallD w ps ts)), some (.dat (.str x)), some (.obj (.dct kvs)), some (.obj (.lst (W'.map PyData.str))), some (.dat (.str y)), e5]) := iE_call (call2_ev rfl rfl c4)
        have s2 := (for_ev i2).trans d6
        have nd' : (ks ++ new).Nodup := by
          rw [List.nodup_append]
          exact ⟨b2, d4, fun p hp q hq e => (d3 q hq).2 (e ▸ hp)⟩
        have sub' : ∀ z ∈ ks ++ new, Conn ts x z ∧ z ∈ ps.map (·.1) := fun z hz => by
          rcases List.mem_append.mp hz with hz | hz
          · exact b4 z hz
          · have ha := (c1 z).mp (d3 z hz).1
            exact ⟨(b4 y hyk).1.step ha, adjn y z ha⟩
        have hkl' := bound (ks ++ new) nd' fun z hz => (sub' z hz).2
        rw [List.length_append] at hkl'
        refine .inr ⟨rfl, _, .inl ⟨.inl ((seq_next s1).trans s2), ⟨ks ++ new, W' ++ new, kvs', some (.dat (.str y)), f5, d1, nd', List.mem_append_left _ b3, sub', ?_, ?_, ?_, ?_, rfl⟩, ?_⟩⟩
        · intro z hz
          rcases List.mem_append.mp hz with hz | hz
          · exact List.mem_append_left _ (b5 z (List.mem_append_left _ hz))
          · exact List.mem_append_right _ hz
        · intro z hz hn v hv
          rcases List.mem_append.mp hz with hz | hz
          · by_cases hzy : z = y
            · subst hzy
              exact d2 v ((c1 v).mpr hv)
            · refine List.mem_append_left _ (b6 z hz (fun q => ?_) v hv)
              rcases List.mem_append.mp q with q | q
              · exact hn (List.mem_append_left _ q)
              · exact hzy (List.mem_singleton.mp q)
          · exact absurd (List.mem_append_right _ hz) hn
        · rw [List.length_append]
          omega
        · rw [List.length_append, List.length_append]
          omega
        · show 2 * (ps.length - kvs'.length) + ((W' ++ new).map PyData.str).length < 2 * (ps.length - kvs.length) + ((W' ++ [y]).map PyData.str).length
          rw [d1.len, b1.len, List.length_map, List.length_map, List.length_append, List.length_append, List.length_append, List.length_singleton]
          omega)
    (2 * ps.length + 1) [some (.dat (hallD w ps ts)), some (.dat (.str x)), some (.obj (.dct kv0)), some (.obj (.lst [.str x])), none, none] ⟨[x], [x], kv0, none, none, hk0, by simp, by simp, fun y hy => by
      rw [List.mem_singleton] at hy
      subst hy
      exact ⟨.refl, hx⟩, fun y hy => hy, fun y hy hn => absurd hy hn, by simp, by simp; omega, rfl⟩ (by
      show 2 * (ps.length - kv0.length) + 1 ≤ _
      omega)
  exact ⟨ks, kvs, f4, f5, a1, a2, a3, mWhile_some e⟩
theorem reached_spec (w : Int) {ps : List Pl} {ts : List Ti} (h : WF ps ts) (hm : ∀ t ∈ ts, t.1 ∈ ps.map (·.1) ∧ t.2.1 ∈ ps.map (·.1)) (x : Str) (hx : x ∈ ps.map (·.1)) : ∃ (ks : List Str) (kvs : List (Key × Pd)), Keys kvs ks ∧ Found ts x ks ∧ ks.length ≤ ps.length ∧ fm_reached [.dat (hallD w ps ts), .dat (.str x)] = some (.new (.dct kvs), [.dat (hallD w ps ts), .dat (.str x)]) := by
  obtain ⟨ks, kvs, f4, f5, a1, a2, a3, lp⟩ := reach_loop w h hm x hx [(.inr x, .none)] rfl
  refine ⟨ks, kvs, a1, a2, a3, ?_⟩
  have s1 : mSet 2 (mDisp (mpCons (mVar 1) (mC .none) mpNil)) [some (.dat (hallD w ps ts)), some (.dat (.str x)), none, none, none, none] = some (.next, [some (.dat (hallD w ps ts)), some (.dat (.str x)), some (.obj (.dct [(.inr x, .none)])), none, none, none]) := rfl
  have s2 : mSet 3 (mLst (mCons (mVar 1) mNil)) [some (.dat (hallD w ps ts)), some (.dat (.str x)), some (.obj (.dct [(.inr x, .none)])), none, none, none] = some (.next, [some (.dat (hallD w ps ts)), some (.dat (.str x)), some (.obj (.dct [(.inr x, .none)])), some (.obj (.lst [.str x])), none, none]) := rfl
  have s4 : mRet (mVar 2) [some (.dat (hallD w ps ts)), some (.dat (.str x)), some (.obj (.dct kvs)), some (.obj (.lst [])), f4, f5] = some (.ret (.slot 2), [some (.dat (hallD w ps ts)), some (.dat (.str x)), some (.obj (.dct kvs)), some (.obj (.lst [])), f4, f5]) := rfl
  have all := (seq_next s1).trans ((seq_next s2).trans ((seq_next lp).trans s4))
  unfold fm_reached m_reached runF
  generalize (mSeq (mSet 2 (mDisp (mpCons (mVar 1) (mC .none) mpNil))) _) = MM at all ⊢
  generalize hallD w ps ts = HH at *
  simp [okArgs, Mw.em, all, finF, outR, outA]
end Kx

set_option Elab.async false
set_option linter.all false
set_option maxRecDepth 100000
set_option autoImplicit false
namespace Kx
open PySem PySem.Spec PyProof.Rows L2 Mw
theorem names_of_spec (w : Int) (ps : List Pl) (ts : List Ti) (hz : ps.length < 1000000) : fm_names_of [.dat (hallD w ps ts)] = some (.new (.lst ((ps.map (·.1)).map PyData.str)), [.dat (hallD w ps ts)]) := by
  have lp : ∀ H : PyData, loopC [1] (gN 1) mYes (mSub (mVar 1) (mC (.int 0))) (ps.map plD) [] [some (.dat H), none] = some ((ps.map (·.1)).map PyData.str, [some (.dat H), none]) := by
    intro H
    have := loopC_map (vs := [1]) (g := gN 1) (t := mYes) (me := mSub (mVar 1) (mC (.int 0))) plD (fun _ => true) (fun p => PyData.str p.1) [some (.dat H), none] ps [] (fun p hp => ⟨_, rfl, .inl ⟨rfl, _, _, _, _, rfl, rfl, rfl, rfl⟩⟩)
    rw [this, List.filter_eq_self.mpr (by simp), List.map_map]
    rfl
  have i1 : iE (mSub (mVar 0) (mC (.int 1))) [some (.dat (hallD w ps ts)), none] = some (ps.map plD, [some (.dat (hallD w ps ts)), none]) := rfl
  have all := ret_ev (lc_ev (vs := [1]) (ρ4 := [some (.dat (hallD w ps ts)), none]) i1 (by rw [List.length_map]; exact hz) rfl rfl (lp _) rfl)
  unfold fm_names_of m_names_of runF
  generalize mRet _ = MM at all ⊢
  generalize hallD w ps ts = HH at *
  simp [okArgs, Mw.em, all, finF, outR, outA]
/-- a set that holds just these -/
def SetIs (S : Key → Bool) (n : Nat) (L : List Str) : Prop := (∀ k : Str, S (.inr k) = decide (k ∈ L)) ∧ n = L.length
theorem add_loop (H T Q : DV) (N : PyData) : ∀ (zs L : List Str) (S : Key → Bool) (n : Nat) (x5 : Option DV), SetIs S n L → L.Nodup → L.length + zs.length < 4000 → ∃ (L' : List Str) (S' : Key → Bool) (n' : Nat) (y5 : Option DV), SetIs S' n' L' ∧ L'.Nodup ∧ (∀ k, k ∈ L' ↔ k ∈ L ∨ k ∈ zs) ∧
    loopS (gN 5) (mDrop (mAdd (mVar 2) (mVar 5))) (zs.map PyData.str) [some H, some T, some (.obj (.set S n)), some (.dat N), some Q, x5] = some (.next, [some H, some T, some (.obj (.set S' n')), some (.dat N), some Q, y5])
  | [], L, S, n, x5, h, nd, _ => ⟨L, S, n, x5, h, nd, by simp, by simp [loopS]⟩
  | z :: zs, L, S, n, x5, h, nd, hz => by
    rw [List.length_cons] at hz
    have hb : n + 1 < scanBound := by
      rw [h.2]
      unfold scanBound
      omega
    have hS := h.1 z
    obtain ⟨L1, hL1, nd1, sub1, len1⟩ : ∃ L1 : List Str, SetIs (fun i => S i || decide (i = .inr z)) (if S (.inr z) = true then n else n + 1) L1 ∧ L1.Nodup ∧ (∀ k, k ∈ L1 ↔ k ∈ L ∨ k = z) ∧ L1.length ≤ L.length + 1 := by
      by_cases hzL : z ∈ L
      · rw [decide_eq_true hzL] at hS
        refine ⟨L, ⟨fun k => ?_, by rw [if_pos hS]; exact h.2⟩, nd, fun k => ⟨.inl, fun q => q.elim id fun e => e ▸ hzL⟩, by omega⟩
        by_cases e : k = z
        · subst e
          simp [hS, hzL]
        · have : ¬ (Sum.inr k : Key) = .inr z := fun q => e (Sum.inr.inj q)
          simp [this, h.1 k]
      · rw [decide_eq_false hzL] at hS
        refine ⟨L ++ [z], ⟨fun k => ?_, by rw [if_neg (by simp [hS]), List.length_append, List.length_singleton, h.2]⟩, ?_, fun k => by simp, by simp⟩
        · by_cases e : k = z
          · subst e
            simp
          · have : ¬ (Sum.inr k : Key) = .inr z := fun q => e (Sum.inr.inj q)
            simp [this, h.1 k, e]
        · rw [List.nodup_append]
          exact ⟨nd, by simp, fun p hp q hq e => hzL (by rw [List.mem_singleton] at hq; rw [← hq, ← e]; exact hp)⟩
    obtain ⟨L', S', n', y5, a1, a2, a3, a4⟩ := add_loop H T Q N zs L1 _ _ (some (.dat (.str z))) hL1 nd1 (by omega)
    refine ⟨L', S', n', y5, a1, a2, fun k => ?_, ?_⟩
    · rw [a3, sub1, List.mem_cons, or_assoc]
    · have s : mDrop (mAdd (mVar 2) (mVar 5)) [some H, some T, some (.obj (.set S n)), some (.dat N), some Q, some (.dat (.str z))] = some (.next, [some H, some T, some (.obj (.set (fun i => S i || decide (i = .inr z)) (if S (.inr z) = true then n else n + 1))), some (.dat N), some Q, some (.dat (.str z))]) := by
        simp [mDrop, mAdd, mVar, setAt, toD, frz1, esc, Mw.keyOf, hb]
      rw [List.map_cons]
      exact (loopS_cons rfl s).trans a4
def Piece (names : List Str) (ts : List Ti) (P : List Str) : Prop := P.Nodup ∧ (∀ x ∈ P, x ∈ names) ∧ ∃ x, Found ts x P
theorem Found.perm {ts : List Ti} {x : Str} {ks P : List Str} (h : Found ts x ks) (p : P.Perm ks) : Found ts x P :=
  ⟨p.nodup_iff.mpr h.nd, p.mem_iff.mpr h.here, fun y hy => h.conn y (p.mem_iff.mp hy), fun y hy z hz => p.mem_iff.mpr (h.shut y (p.mem_iff.mp hy) z hz)⟩
theorem found_sub {ts : List Ti} {names : List Str} (hm : ∀ t ∈ ts, t.1 ∈ names ∧ t.2.1 ∈ names) {x y : Str} (hx : x ∈ names) (h : Conn ts x y) : y ∈ names := by
  induction h with
  | refl => exact hx
  | step _ a _ =>
    obtain ⟨t, ht, hb⟩ := a
    unfold between at hb
    simp only [decide_eq_true_eq] at hb
    rcases hb with ⟨_, e⟩ | ⟨e, _⟩
    · exact e ▸ (hm t ht).2
    · exact e ▸ (hm t ht).1
def lsD (P : List Str) : PyData := .list (P.map PyData.str)
noncomputable abbrev pieceB : MS := (mIfS (mB (mIn true (mVar 3) (mVar 2))) (mSeq (mSet 4 (mSortK (mCall [] fm_reached (mCons (mVar 0) (mCons (mVar 3) mNil))))) (mSeq (mDrop (mMeth fAppend (mVar 1) (mCons (mVar 4) mNil))) (mFor (iE (mVar 4)) (gN 5) (mDrop (mAdd (mVar 2) (mVar 5)))))) mSkip)
theorem sort_new {m : ME} {ρ ρ1 : En} {kvs : List (Key × Pd)} {ks : List Str} (h : m ρ = some (.new (.dct kvs), ρ1)) (hk : keyStrs kvs = some ks) (hl : ks.length < 64) : mSortK m ρ = some (.new (.lst ((sortStrs ks).map PyData.str)), ρ1) := by
  simp only [mSortK, h, sortKv, hk, if_pos hl]
theorem pieces_loop (w : Int) {ps : List Pl} {ts : List Ti} (h : WF ps ts) (hsz : ps.length < 64) (hm : ∀ t ∈ ts, t.1 ∈ ps.map (·.1) ∧ t.2.1 ∈ ps.map (·.1)) : ∀ (xs : List Str), (∀ x ∈ xs, x ∈ ps.map (·.1)) → ∀ (Ps : List (List Str)) (L : List Str) (S : Key → Bool) (n : Nat) (e3 e4 e5 : Option DV), SetIs S n L → L.Nodup → (∀ x ∈ L, x ∈ ps.map (·.1)) → (∀ P ∈ Ps, Piece (ps.map (·.1)) ts P) → (∀ x, x ∈ L ↔ ∃ P ∈ Ps, x ∈ P) → Ps.length + xs.length < 1000 →
    ∃ (Ps' : List (List Str)) (S' : Key → Bool) (n' : Nat) (f3 f4 f5 : Option DV), (∀ P ∈ Ps', Piece (ps.map (·.1)) ts P) ∧ (∀ x ∈ xs, ∃ P ∈ Ps', x ∈ P) ∧ (∀ P ∈ Ps, P ∈ Ps') ∧ Ps'.length < 1000 ∧
      loopS (gN 3) pieceB (xs.map PyData.str) [some (.dat (hallD w ps ts)), some (.obj (.lst (Ps.map lsD))), some (.obj (.set S n)), e3, e4, e5] = some (.next, [some (.dat (hallD w ps ts)), some (.obj (.lst (Ps'.map lsD))), some (.obj (.set S' n')), f3, f4, f5])
  | [], _, Ps, L, S, n, e3, e4, e5, _, _, _, h4, _, hz0 => ⟨Ps, S, n, e3, e4, e5, h4, by simp, fun P hP => hP, hz0, by simp [loopS]⟩
  | x :: xs, hxs, Ps, L, S, n, e3, e4, e5, h1, h2, h3, h4, h5, hz => by
    rw [List.length_cons] at hz
    have hxn := hxs x List.mem_cons_self
    have hS := h1.1 x
    by_cases hxL : x ∈ L
    · obtain ⟨Ps', S', n', f3, f4, f5, a1, a2, a3, a5, a4⟩ := pieces_loop w h hsz hm xs (fun y hy => hxs y (List.mem_cons_of_mem _ hy)) Ps L S n (some (.dat (.str x))) e4 e5 h1 h2 h3 h4 h5 (by omega)
      refine ⟨Ps', S', n', f3, f4, f5, a1, fun y hy => ?_, a3, a5, ?_⟩
      · rcases List.mem_cons.mp hy with rfl | hy
        · obtain ⟨P, hP, hyP⟩ := (h5 y).mp hxL
          exact ⟨P, a3 P hP, hyP⟩
        · exact a2 y hy
      · have t : mB (mIn true (mVar 3) (mVar 2)) [some (.dat (hallD w ps ts)), some (.obj (.lst (Ps.map lsD))), some (.obj (.set S n)), some (.dat (.str x)), e4, e5] = some (false, [some (.dat (hallD w ps ts)), some (.obj (.lst (Ps.map lsD))), some (.obj (.set S n)), some (.dat (.str x)), e4, e5]) := by
          rw [decide_eq_true hxL] at hS
          generalize hallD w ps ts = HH
          simp [runF, okArgs, em, mSeq, mIfS, mB, mOp2, mOp1, mPure, mCons, mVar, mC, mNil, frz1, looks, lookS, f1, f2, mSkip, mRet, mRetN, mDrop, gtD, geD, ltD, leD, isD, isnD, addD, subD, mulD, modD, fdivD, powD, negD, fOr, i2, i2c, mSub, finF, outR, outA, mSet, mSetI, toD, esc, escAll, setItemAt, dctAt, setAt, ixD, atI, ixN, setR, mTru, truS, truD, mAnd, mOr, mNot, mAndV, mOrV, mNotV, mIf, mTup, mLst, mAsg, gN, gT, gsCons, gsNil, mChain, mCall, escB, argsOf, slotsOf, putBack, iE, itemsD, mPar2, wipeE, restE, noOwn, mYes, lenD, absD, Mw.intD, listD, tupleD, mSl, oNone, oSome, slD, mMeth, lstAt, fAppend, mSetT, setTAt, mGetT, dttAt, mD0, mD0T, mPar3, noSlot, setN, mIn, isiD, tyD, isTy, eqD_int, neD_int, eqD_bool, neD_bool, eqD_ii, Mw.keyOf, mLc, mFor, mNeverS, revD, hS]
        rw [List.map_cons]
        exact (loopS_cons rfl ((ifS_false t).trans rfl)).trans a4
    · obtain ⟨ks, kvs, b1, b2, b3, b4⟩ := reached_spec w h hm x hxn
      have t : mB (mIn true (mVar 3) (mVar 2)) [some (.dat (hallD w ps ts)), some (.obj (.lst (Ps.map lsD))), some (.obj (.set S n)), some (.dat (.str x)), e4, e5] = some (true, [some (.dat (hallD w ps ts)), some (.obj (.lst (Ps.map lsD))), some (.obj (.set S n)), some (.dat (.str x)), e4, e5]) := by
        rw [decide_eq_false hxL] at hS
        generalize hallD w ps ts = HH
        simp [runF, okArgs, em, mSeq, mIfS, mB, mOp2, mOp1, mPure, mCons, mVar, mC, mNil, frz1, looks, lookS, f1, f2, mSkip, mRet, mRetN, mDrop, gtD, geD, ltD, leD, isD, isnD, addD, subD, mulD, modD, fdivD, powD, negD, fOr, i2, i2c, mSub, finF, outR, outA, mSet, mSetI, toD, esc, escAll, setItemAt, dctAt, setAt, ixD, atI, ixN, setR, mTru, truS, truD, mAnd, mOr, mNot, mAndV, mOrV, mNotV, mIf, mTup, mLst, mAsg, gN, gT, gsCons, gsNil, mChain, mCall, escB, argsOf, slotsOf, putBack, iE, itemsD, mPar2, wipeE, restE, noOwn, mYes, lenD, absD, Mw.intD, listD, tupleD, mSl, oNone, oSome, slD, mMeth, lstAt, fAppend, mSetT, setTAt, mGetT, dttAt, mD0, mD0T, mPar3, noSlot, setN, mIn, isiD, tyD, isTy, eqD_int, neD_int, eqD_bool, neD_bool, eqD_ii, Mw.keyOf, mLc, mFor, mNeverS, revD, hS]
      have hperm : (sortStrs ks).Perm ks := List.mergeSort_perm ks leS
      have s1 := set_new (i := 4) (sort_new (call2_ev (ρ := [some (.dat (hallD w ps ts)), some (.obj (.lst (Ps.map lsD))), some (.obj (.set S n)), some (.dat (.str x)), e4, e5]) (i := 0) (j := 3) rfl rfl b4) b1.strs (by omega)) (by simp)
      have hpl : (sortStrs ks).length = ks.length := hperm.length_eq
      have hf : Found ts x (sortStrs ks) := b2.perm hperm
      have hpc : Piece (ps.map (·.1)) ts (sortStrs ks) := ⟨hf.nd, fun y hy => found_sub hm hxn (hf.conn y hy), x, hf⟩
      generalize sortStrs ks = P at *
      have hap : fAppend (Ps.map lsD) [lsD P] = some (.none, (Ps ++ [P]).map lsD) := by
        have : Ps.length < sizeLine := few (by omega)
        simp [fAppend, this]
      have s2 := drop_ev (meth_ev (f := fAppend) (mo := mVar 1) (j := 1) (ms := mCons (mVar 4) mNil) (rs := [.slot 4]) (as := [lsD P]) (ρ := [some (.dat (hallD w ps ts)), some (.obj (.lst (Ps.map lsD))), some (.obj (.set S n)), some (.dat (.str x)), some (.obj (.lst (P.map PyData.str))), e5]) rfl rfl rfl rfl rfl hap)
      have hLl : L.length ≤ ps.length := by
        have := h2.length_le_of_subset h3
        simpa using this
      obtain ⟨L', S', n', y5, c1, c2, c3, c4⟩ := add_loop (.dat (hallD w ps ts)) (.obj (.lst ((Ps ++ [P]).map lsD))) (.dat (lsD P)) (.str x) P L S n e5 h1 h2 (by omega)
      have i3 : iE (mVar 4) [some (.dat (hallD w ps ts)), some (.obj (.lst ((Ps ++ [P]).map lsD))), some (.obj (.set S n)), some (.dat (.str x)), some (.dat (lsD P)), e5] = some (P.map PyData.str, [some (.dat (hallD w ps ts)), some (.obj (.lst ((Ps ++ [P]).map lsD))), some (.obj (.set S n)), some (.dat (.str x)), some (.dat (lsD P)), e5]) := rfl
      have s3 := (for_ev i3).trans c4
      have s := (ifS_true (b := mSkip) t).trans ((seq_next s1).trans ((seq_next s2).trans s3))
      obtain ⟨Ps', S2, n2, f3, f4, f5, a1, a2, a3, a5, a4⟩ := pieces_loop w h hsz hm xs (fun y hy => hxs y (List.mem_cons_of_mem _ hy)) (Ps ++ [P]) L' S' n' (some (.dat (.str x))) (some (.dat (lsD P))) y5 c1 c2 (fun y hy => by
        rcases (c3 y).mp hy with hy | hy
        · exact h3 y hy
        · exact hpc.2.1 y hy) (fun Q hQ => by
        rcases List.mem_append.mp hQ with hQ | hQ
        · exact h4 Q hQ
        · rw [List.mem_singleton] at hQ
          subst hQ
          exact hpc) (fun y => by
        rw [c3, h5]
        constructor
        · rintro (⟨Q, hQ, hy⟩ | hy)
          · exact ⟨Q, List.mem_append_left _ hQ, hy⟩
          · exact ⟨P, by simp, hy⟩
        · rintro ⟨Q, hQ, hy⟩
          rcases List.mem_append.mp hQ with hQ | hQ
          · exact .inl ⟨Q, hQ, hy⟩
          · rw [List.mem_singleton] at hQ
            subst hQ
            exact .inr hy) (by rw [List.length_append, List.length_singleton]; omega)
      refine ⟨Ps', S2, n2, f3, f4, f5, a1, fun y hy => ?_, fun Q hQ => a3 Q (List.mem_append_left _ hQ), a5, ?_⟩
      · rcases List.mem_cons.mp hy with rfl | hy
        · exact ⟨P, a3 P (by simp), hf.here⟩
        · exact a2 y hy
      · rw [List.map_cons]
        exact (loopS_cons rfl s).trans a4
theorem pieces_spec (w : Int) {ps : List Pl} {ts : List Ti} (h : WF ps ts) (hsz : ps.length < 64) (hm : ∀ t ∈ ts, t.1 ∈ ps.map (·.1) ∧ t.2.1 ∈ ps.map (·.1)) : ∃ Ps : List (List Str), (∀ P ∈ Ps, Piece (ps.map (·.1)) ts P) ∧ (∀ x ∈ ps.map (·.1), ∃ P ∈ Ps, x ∈ P) ∧ Ps.length < 1000 ∧ fm_pieces [.dat (hallD w ps ts)] = some (.new (.lst (Ps.map lsD)), [.dat (hallD w ps ts)]) := by
  obtain ⟨Ps, S', n', f3, f4, f5, a1, a2, a3, a5, a4⟩ := pieces_loop w h hsz hm (ps.map (·.1)) (fun _ hx => hx) [] [] (fun _ => false) 0 none none none ⟨fun k => by simp, rfl⟩ (by simp) (by simp) (by simp) (by simp) (by simp; omega)
  refine ⟨Ps, a1, a2, a5, ?_⟩
  have s1 : mSet 1 (mLst mNil) [some (.dat (hallD w ps ts)), none, none, none, none, none] = some (.next, [some (.dat (hallD w ps ts)), some (.obj (.lst [])), none, none, none, none]) := rfl
  have s2 : mSet 2 mSet0 [some (.dat (hallD w ps ts)), some (.obj (.lst [])), none, none, none, none] = some (.next, [some (.dat (hallD w ps ts)), some (.obj (.lst [])), some (.obj (.set (fun _ => false) 0)), none, none, none]) := rfl
  have i3 : iE (mCall [] fm_names_of (mCons (mVar 0) mNil)) [some (.dat (hallD w ps ts)), some (.obj (.lst [])), some (.obj (.set (fun _ => false) 0)), none, none, none] = some ((ps.map (·.1)).map PyData.str, [some (.dat (hallD w ps ts)), some (.obj (.lst [])), some (.obj (.set (fun _ => false) 0)), none, none, none]) := iE_call (call1_ev rfl (names_of_spec w ps ts (by omega)))
  have s3 := (for_ev i3).trans a4
  have s4 : mRet (mVar 1) [some (.dat (hallD w ps ts)), some (.obj (.lst (Ps.map lsD))), some (.obj (.set S' n')), f3, f4, f5] = some (.ret (.slot 1), [some (.dat (hallD w ps ts)), some (.obj (.lst (Ps.map lsD))), some (.obj (.set S' n')), f3, f4, f5]) := rfl
  have all := (seq_next s1).trans ((seq_next s2).trans ((seq_next s3).trans s4))
  unfold fm_pieces m_pieces runF
  generalize (mSeq (mSet 1 (mLst mNil)) _) = MM at all ⊢
  generalize hallD w ps ts = HH at *
  simp [okArgs, Mw.em, all, finF, outR, outA]
end Kx

set_option Elab.async false
set_option linter.all false
set_option maxRecDepth 100000
set_option autoImplicit false
namespace Kx
open PySem PySem.Spec PyProof.Rows L2 Mw
/-! ### sums over names -/
def sm (P : List Str) (f : Str → Nat) : Nat := (P.map f).sum
theorem sm_nil (f : Str → Nat) : sm [] f = 0 := rfl
theorem sm_cons (x : Str) (P : List Str) (f : Str → Nat) : sm (x :: P) f = f x + sm P f := rfl
theorem sm_add (P : List Str) (f g : Str → Nat) : sm P (fun x => f x + g x) = sm P f + sm P g := by
  induction P with
  | nil => rfl
  | cons x P ih =>
    rw [sm_cons, sm_cons, sm_cons, ih]
    omega
theorem sm_congr {P : List Str} {f g : Str → Nat} (h : ∀ x ∈ P, f x = g x) : sm P f = sm P g := by
  unfold sm
  rw [List.map_congr_left h]
theorem sm_zero (P : List Str) : sm P (fun _ => 0) = 0 := by
  induction P with
  | nil => rfl
  | cons x P ih => rw [sm_cons, ih]
theorem sm_one (P : List Str) : sm P (fun _ => 1) = P.length := by
  induction P with
  | nil => rfl
  | cons x P ih =>
    rw [sm_cons, ih, List.length_cons]
    omega
theorem sm_swap (P Q : List Str) (f : Str → Str → Nat) : sm P (fun x => sm Q (f x)) = sm Q (fun y => sm P (fun x => f x y)) := by
  induction P with
  | nil => simp only [sm_nil, sm_zero]
  | cons x P ih =>
    rw [sm_cons, ih, ← sm_add]
    rfl
def ind (b : Bool) : Nat := if b then 1 else 0
theorem sm_eq {P : List Str} (nd : P.Nodup) (z : Str) : sm P (fun y => ind (decide (y = z))) = ind (decide (z ∈ P)) := by
  induction P with
  | nil => simp [sm_nil, ind]
  | cons x P ih =>
    rw [List.nodup_cons] at nd
    rw [sm_cons, ih nd.2]
    by_cases e : x = z
    · subst e
      simp [ind, nd.1]
    · have e' : ¬ z = x := fun q => e q.symm
      simp [ind, e, e']
theorem sm_filter (P : List Str) (p : Str → Bool) : sm P (fun y => ind (p y)) = (P.filter p).length := by
  induction P with
  | nil => rfl
  | cons x P ih =>
    rw [sm_cons, ih, List.filter_cons]
    cases p x <;> simp [ind]
    omega
/-! ### a piece of a wood has one tie less than places -/
inductive Up (par : Str → Option Str) : Str → Str → Prop
  | top {x : Str} : par x = none → Up par x x
  | on {x y r : Str} : par x = some y → Up par y r → Up par x r
theorem Up.uniq {par : Str → Option Str} {x r s : Str} (h : Up par x r) (g : Up par x s) : r = s := by
  induction h with
  | top e =>
    cases g with
    | top _ => rfl
    | on e' _ => rw [e] at e'; cases e'
  | on e _ ih =>
    cases g with
    | top e' => rw [e] at e'; cases e'
    | on e' g' =>
      rw [e] at e'
      cases e'
      exact ih g'
theorem Up.topIs {par : Str → Option Str} {x r : Str} (h : Up par x r) : par r = none := by
  induction h with
  | top e => exact e
  | on _ _ ih => exact ih
theorem Forest.adj {ts : List Ti} {par : Str → Option Str} {rank : Str → Nat} (h : Forest ts par rank) {x y : Str} : Adj ts x y ↔ par x = some y ∨ par y = some x := by
  constructor
  · rintro ⟨t, ht, hb⟩
    unfold between at hb
    simp only [decide_eq_true_eq] at hb
    rcases hb with ⟨rfl, rfl⟩ | ⟨rfl, rfl⟩
    · exact h.tie t ht
    · exact (h.tie t ht).symm
  · rintro (e | e)
    · exact (h.up x y e).2
    · exact Adj.symm (h.up y x e).2
theorem Forest.has {ts : List Ti} {par : Str → Option Str} {rank : Str → Nat} (h : Forest ts par rank) : ∀ (n : Nat) (x : Str), rank x ≤ n → ∃ r, Up par x r ∧ Conn ts x r := by
  intro n
  induction n with
  | zero =>
    intro x hx
    cases e : par x with
    | none => exact ⟨x, .top e, .refl⟩
    | some y =>
      have := (h.up x y e).1
      omega
  | succ n ih =>
    intro x hx
    cases e : par x with
    | none => exact ⟨x, .top e, .refl⟩
    | some y =>
      have hy := h.up x y e
      obtain ⟨r, h1, h2⟩ := ih y (by omega)
      refine ⟨r, .on e h1, ?_⟩
      have st : Conn ts x y := Conn.step .refl hy.2
      clear h1 hx ih e
      induction h2 with
      | refl => exact st
      | step _ a ih2 => exact ih2.step a
theorem Forest.same {ts : List Ti} {par : Str → Option Str} {rank : Str → Nat} (h : Forest ts par rank) {x y r : Str} (c : Conn ts x y) (u : Up par x r) : Up par y r := by
  induction c with
  | refl => exact u
  | step _ a ih =>
    rcases h.adj.mp a with e | e
    · cases ih with
      | top e' => rw [e'] at e; cases e
      | on e' u' =>
        rw [e] at e'
        cases e'
        exact u'
    · exact .on e ih
theorem piece_roots {ts : List Ti} {par : Str → Option Str} {rank : Str → Nat} (h : Forest ts par rank) {x : Str} {P : List Str} (hf : Found ts x P) : sm P (fun y => ind (par y).isSome) + 1 = P.length := by
  obtain ⟨r, u, c⟩ := h.has (rank x) x (Nat.le_refl _)
  have hr : r ∈ P := by
    have : ∀ y, Conn ts x y → y ∈ P := fun y hy => by
      induction hy with
      | refl => exact hf.here
      | step _ a ih => exact hf.shut _ ih _ a
    exact this r c
  have e1 : sm P (fun y => ind (decide (y = r))) = 1 := by
    rw [sm_eq hf.nd, decide_eq_true hr]
    rfl
  have e2 : sm P (fun y => ind (par y).isSome + ind (decide (y = r))) = sm P (fun _ => 1) := sm_congr fun y hy => by
    have uy := h.same (hf.conn y hy) u
    cases e : par y with
    | none =>
      have : y = r := (Up.top e).uniq uy
      simp [ind, this]
    | some z =>
      have : ¬ y = r := fun q => by
        have := uy.topIs
        rw [← q, e] at this
        cases this
      simp [ind, this]
  rw [sm_add, e1, sm_one] at e2
  exact e2
/-- of each tie's two just one goes ahead of the other -/
theorem piece_ahead {ts : List Ti} {par : Str → Option Str} {rank : Str → Nat} (h : Forest ts par rank) {x : Str} {P : List Str} (hf : Found ts x P) (lt : Str → Str → Bool) (hlt : ∀ a ∈ P, ∀ b ∈ P, a ≠ b → ind (lt a b) + ind (lt b a) = 1) (A : Str → Str → Bool) (hA : ∀ a ∈ P, ∀ b ∈ P, A a b = true ↔ Adj ts a b) : sm P (fun b => sm P (fun a => ind (A a b && lt a b))) + 1 = P.length := by
  rw [← piece_roots h hf]
  congr 1
  have split : ∀ b ∈ P, sm P (fun a => ind (A a b && lt a b)) = sm P (fun a => ind (decide (par a = some b) && lt a b)) + sm P (fun a => ind (decide (par b = some a) && lt a b)) := by
    intro b hb
    rw [← sm_add]
    refine sm_congr fun a ha => ?_
    have ho : ¬ (par a = some b ∧ par b = some a) := fun ⟨e1, e2⟩ => by
      have g1 := (h.up a b e1).1
      have g2 := (h.up b a e2).1
      omega
    have hAd := hA a ha b hb
    rw [h.adj] at hAd
    by_cases e1 : par a = some b
    · have e2 : ¬ par b = some a := fun q => ho ⟨e1, q⟩
      have : A a b = true := hAd.mpr (.inl e1)
      simp [this, e1, e2, ind]
    · by_cases e2 : par b = some a
      · have : A a b = true := hAd.mpr (.inr e2)
        simp [this, e1, e2, ind]
      · have : A a b = false := by
          cases q : A a b with
          | false => rfl
          | true => exact absurd (hAd.mp q) (by simp [e1, e2])
        simp [this, e1, e2, ind]
  rw [sm_congr split, sm_add, sm_swap P P (fun b a => ind (decide (par a = some b) && lt a b)), ← sm_add]
  refine sm_congr fun b hb => ?_
  rw [← sm_add]
  cases e : par b with
  | none =>
    have : sm P (fun a => ind (decide (none = some a) && lt b a) + ind (decide (none = some a) && lt a b)) = sm P (fun _ => 0) := sm_congr fun a _ => by simp [ind]
    rw [this, sm_zero]
    rfl
  | some z =>
    have hbz := h.up b z e
    have hz : z ∈ P := hf.shut b hb z hbz.2
    have hne : b ≠ z := fun q => by
      rw [q] at hbz
      exact Nat.lt_irrefl _ hbz.1
    have e3 : sm P (fun a => ind (decide (some z = some a) && lt b a) + ind (decide (some z = some a) && lt a b)) = sm P (fun a => ind (decide (a = z))) := sm_congr fun a ha => by
      by_cases q : a = z
      · subst q
        simp only [decide_true, Bool.true_and]
        exact hlt b hb a ha hne
      · have q' : ¬ z = a := fun q2 => q q2.symm
        simp [q, q', ind]
    rw [e3, sm_eq hf.nd, decide_eq_true hz]
    rfl
end Kx

set_option Elab.async false
set_option linter.all false
set_option maxRecDepth 100000
set_option autoImplicit false
namespace Kx
open PySem PySem.Spec PyProof.Rows L2 Mw
theorem Run.split {w : Int} {r : List Str} : ∀ {a : List Str} {ps ps' : List Pl} {ts ts' : List Ti}, Run w ps ts (a ++ r) ps' ts' → ∃ ps1 ts1, Run w ps ts a ps1 ts1 ∧ Run w ps1 ts1 r ps' ts'
  | [], ps, ps', ts, ts', h => ⟨ps, ts, .nil, h⟩
  | x :: a, ps, ps', ts, ts', h => by
    cases h with
    | cons h1 h2 h3 =>
      obtain ⟨p1, t1, q1, q2⟩ := Run.split (a := a) h3
      exact ⟨p1, t1, .cons h1 h2 q1, q2⟩
/-- each that goes is light at its turn -/
theorem Run.face {w : Int} {ps ps' : List Pl} {ts ts' : List Ti} {path : List Str} (hH : Hall w ps ts) (R : Run w ps ts path ps' ts') {pre post : List Str} {x : Str} (e : path = pre ++ x :: post) : ∃ p ∈ ps, p.1 = x ∧ (p.2.1 + ((gls ts pre x).length : Int)).fmod 2 = 1 ∧ x ∉ pre := by
  subst e
  obtain ⟨ps1, ts1, R1, R2⟩ := Run.split R
  obtain ⟨rfl, rfl⟩ := R1.now
  cases R2 with
  | cons h1 h2 h3 =>
    have hn := cardOf_at_notin h2
    obtain ⟨p, hp, hp2, hp3, hp4⟩ := mem_psAt (cardOf_mem h2)
    obtain ⟨hf, m, hm⟩ := hH.ok p hp
    have e3 := tns_eq w ts pre p.1 p.2.1 p.2.2 m hm
    rw [face_eq p.2.1 hf] at e3
    have e4 := hp3.trans e3
    have hx : x = p.1 := congrArg (·.1) e4
    have hfc : (1 : Int) = (p.2.1 + ((gls ts pre p.1).length : Int)).fmod 2 := congrArg (·.2.1) e4
    refine ⟨p, hp, hx.symm, ?_, hn⟩
    rw [hx]
    exact hfc.symm
theorem Run.nodup {w : Int} {ps ps' : List Pl} {ts ts' : List Ti} {path : List Str} (hH : Hall w ps ts) (R : Run w ps ts path ps' ts') : path.Nodup := by
  have : ∀ (post pre : List Str), path = pre ++ post → pre.Nodup → path.Nodup := by
    intro post
    induction post with
    | nil =>
      intro pre e h
      rw [e, List.append_nil]
      exact h
    | cons x post ih =>
      intro pre e h
      obtain ⟨_, _, _, _, hn⟩ := R.face hH e
      refine ih (pre ++ [x]) (by simpa using e) ?_
      rw [List.nodup_append]
      exact ⟨h, by simp, fun a ha b hb z => hn (by rw [List.mem_singleton] at hb; rw [← hb, ← z]; exact ha)⟩
  exact this path [] rfl (by simp)
/-! ### ahead of one in a row -/
def bef (path : List Str) (a b : Str) : Bool := decide (path.idxOf a < path.idxOf b)
theorem bef_one {path : List Str} {a b : Str} (ha : a ∈ path) (hb : b ∈ path) (h : a ≠ b) : ind (bef path a b) + ind (bef path b a) = 1 := by
  have h1 := List.idxOf_lt_length_of_mem ha
  have h2 := List.idxOf_lt_length_of_mem hb
  have hne : path.idxOf a ≠ path.idxOf b := fun e => h (by
    have e1 := List.getElem_idxOf h1
    have e2 := List.getElem_idxOf h2
    rw [← e1, ← e2]
    congr 1)
  unfold bef ind
  by_cases h3 : path.idxOf a < path.idxOf b
  · have h4 : ¬ path.idxOf b < path.idxOf a := by omega
    simp [h3, h4]
  · have h4 : path.idxOf b < path.idxOf a := by omega
    simp [h3, h4]
theorem split_at {path : List Str} {x : Str} (hx : x ∈ path) : ∃ pre post, path = pre ++ x :: post ∧ x ∉ pre ∧ pre.length = path.idxOf x := by
  induction path with
  | nil => cases hx
  | cons y r ih =>
    by_cases e : y = x
    · subst e
      exact ⟨[], r, rfl, by simp, by simp⟩
    · have hx' : x ∈ r := (List.mem_cons.mp hx).resolve_left fun q => e q.symm
      obtain ⟨pre, post, e1, e2, e3⟩ := ih hx'
      refine ⟨y :: pre, post, by rw [e1]; rfl, fun q => ?_, ?_⟩
      · rcases List.mem_cons.mp q with q | q
        · exact e q.symm
        · exact e2 q
      · have hb : (y == x) = false := by simp [e]
        rw [List.length_cons, e3, List.idxOf_cons, hb]
        rfl
theorem mem_pre {path pre post : List Str} {x a : Str} (nd : path.Nodup) (e : path = pre ++ x :: post) (ha : a ∈ path) : bef path a x = decide (a ∈ pre) := by
  subst e
  rw [List.nodup_append] at nd
  have hxp : x ∉ pre := fun q => nd.2.2 x q x List.mem_cons_self rfl
  have ix : (pre ++ x :: post).idxOf x = pre.length := by
    rw [List.idxOf_append, if_neg hxp]
    simp
  unfold bef
  rw [ix]
  by_cases h : a ∈ pre
  · rw [decide_eq_true h]
    have := List.idxOf_lt_length_of_mem h
    rw [List.idxOf_append, if_pos h]
    simpa using this
  · rw [decide_eq_false h, List.idxOf_append, if_neg h]
    simp
theorem gls_len (ts : List Ti) (pre : List Str) (x : Str) : (gls ts pre x).length = (pre.filter fun y => (adj ts y x).isSome).length := by
  unfold gls
  induction pre with
  | nil => rfl
  | cons y r ih =>
    rw [List.filterMap_cons, List.filter_cons]
    cases adj ts y x with
    | none => simpa using ih
    | some g => simpa using ih
theorem adj_isSome {ts : List Ti} (h : ts.Pairwise Apart) {x y : Str} : (adj ts x y).isSome = true ↔ Adj ts x y := by
  rw [Option.isSome_iff_exists]
  constructor
  · rintro ⟨g, hg⟩
    obtain ⟨t, h1, h2, _⟩ := (adj_some h).mp hg
    exact ⟨t, h1, h2⟩
  · rintro ⟨t, h1, h2⟩
    exact ⟨t.2.2, (adj_some h).mpr ⟨t, h1, h2, rfl⟩⟩
theorem sm_odd {P : List Str} {f : Str → Nat} (h : ∀ x ∈ P, f x % 2 = 1) : sm P f % 2 = P.length % 2 := by
  induction P with
  | nil => rfl
  | cons x P ih =>
    have h1 := h x List.mem_cons_self
    have h2 := ih fun y hy => h y (List.mem_cons_of_mem _ hy)
    rw [sm_cons, List.length_cons]
    omega
/-- the face of a name, as a number -/
def faceN (ps : List Pl) (x : Str) : Nat := match cardOf ps x with
  | some c => c.1.toNat
  | none => 0
/-- where a row ends bare each piece has an odd number of lights -/
theorem way_odd {w : Int} {ps : List Pl} {ts ts' : List Ti} {path : List Str} (hH : Hall w ps ts) (R : Run w ps ts path [] ts') {P : List Str} (hP : Piece (ps.map (·.1)) ts P) : sm P (faceN ps) % 2 = 1 := by
  obtain ⟨par, rank, hF⟩ := hH.wood
  obtain ⟨ndP, subP, x0, hf⟩ := hP
  have nd := R.nodup hH
  have allin : ∀ y ∈ ps.map (·.1), y ∈ path := by
    intro y hy
    obtain ⟨p, hp, rfl⟩ := List.mem_map.mp hy
    have e := (R.now).1
    by_cases hq : p.1 ∈ path
    · exact hq
    · have := mem_psAt' (w := w) (ts := ts) hp hq
      rw [← e] at this
      cases this
  have cnt := piece_ahead hF hf (bef path) (fun a ha b hb h => bef_one (allin a (subP a ha)) (allin b (subP b hb)) h) (fun a b => (adj ts a b).isSome) (fun a _ b _ => adj_isSome hH.wf.ap)
  have each : ∀ x ∈ P, (faceN ps x + sm P (fun a => ind ((adj ts a x).isSome && bef path a x))) % 2 = 1 := by
    intro x hx
    obtain ⟨pre, post, e1, e2, e3⟩ := split_at (allin x (subP x hx))
    obtain ⟨p, hp, hpx, hodd, _⟩ := R.face hH e1
    have ndp : pre.Nodup := by
      rw [e1, List.nodup_append] at nd
      exact nd.1
    have hlen : (gls ts pre x).length = sm P (fun a => ind ((adj ts a x).isSome && bef path a x)) := by
      rw [gls_len, sm_filter]
      refine List.Perm.length_eq ((List.perm_ext_iff_of_nodup (ndp.filter _) (ndP.filter _)).mpr fun y => ?_)
      rw [List.mem_filter, List.mem_filter, Bool.and_eq_true]
      constructor
      · rintro ⟨h1, h2⟩
        have hyP : y ∈ P := hf.shut x hx y (Adj.symm ((adj_isSome hH.wf.ap).mp h2))
        refine ⟨hyP, h2, ?_⟩
        rw [mem_pre nd e1 (allin y (subP y hyP))]
        exact decide_eq_true h1
      · rintro ⟨h1, h2, h3⟩
        rw [mem_pre nd e1 (allin y (subP y h1))] at h3
        exact ⟨of_decide_eq_true h3, h2⟩
    have hface : faceN ps x = p.2.1.toNat := by
      unfold faceN
      rw [← hpx, cardOf_of_mem hH.wf.nd hp]
    rw [hlen] at hodd
    rw [Int.fmod_eq_emod_of_nonneg _ (by decide)] at hodd
    obtain ⟨hf01, _⟩ := hH.ok p hp
    rw [hface]
    omega
  have tot := sm_odd each
  rw [sm_add] at tot
  omega
end Kx

set_option Elab.async false
set_option linter.all false
set_option maxRecDepth 100000
set_option autoImplicit false
namespace Kx
open PySem PySem.Spec PyProof.Rows L2 Mw
theorem intsD_map : ∀ l : List Int, intsD (l.map PyData.int) = some l
  | [] => rfl
  | x :: l => by simp [intsD, intsD_map l]
def faceI (ps : List Pl) (x : Str) : Int := match cardOf ps x with
  | some c => c.1
  | none => 0
theorem faceI_N {w : Int} {ps : List Pl} (h : ∀ p ∈ ps, PlOk w p) (x : Str) : faceI ps x = (faceN ps x : Int) := by
  unfold faceI faceN
  cases e : cardOf ps x with
  | none => rfl
  | some c =>
    obtain ⟨hf, _⟩ := h _ (cardOf_mem e)
    dsimp only at hf ⊢
    omega
theorem sum_faceI {w : Int} {ps : List Pl} (h : ∀ p ∈ ps, PlOk w p) : ∀ xs : List Str, (xs.map (faceI ps)).sum = (sm xs (faceN ps) : Int)
  | [] => rfl
  | x :: xs => by
    rw [List.map_cons, List.sum_cons, sum_faceI h xs, faceI_N h, sm_cons]
    omega
theorem card_mem {ps : List Pl} (nd : (ps.map (·.1)).Nodup) {x : Str} (hx : x ∈ ps.map (·.1)) : ∃ c, cardOf ps x = some c := by
  obtain ⟨p, hp, rfl⟩ := List.mem_map.mp hx
  exact ⟨_, cardOf_of_mem nd hp⟩
theorem is_odd_spec (w : Int) {ps : List Pl} {ts : List Ti} (hH : Hall w ps ts) (xs : List Str) (hx : ∀ x ∈ xs, x ∈ ps.map (·.1)) (hz : xs.length < 1000000) : fm_is_odd [.dat (hallD w ps ts), .dat (lsD xs)] = some (.dat (.bool (decide (sm xs (faceN ps) % 2 = 1))), [.dat (hallD w ps ts), .dat (lsD xs)]) := by
  have h := hH.wf
  have lp : ∀ Q : PyData, loopC [2] (gN 2) mYes (mSub (mCall [] fm_card_of (mCons (mVar 0) (mCons (mVar 2) mNil))) (mC (.int 0))) (xs.map PyData.str) [] [some (.dat (hallD w ps ts)), some (.dat Q), none] = some ((xs.map (faceI ps)).map PyData.int, [some (.dat (hallD w ps ts)), some (.dat Q), none]) := by
    intro Q
    have := loopC_map (vs := [2]) (g := gN 2) (t := mYes) (me := mSub (mCall [] fm_card_of (mCons (mVar 0) (mCons (mVar 2) mNil))) (mC (.int 0))) PyData.str (fun _ => true) (fun x => PyData.int (faceI ps x)) [some (.dat (hallD w ps ts)), some (.dat Q), none] xs [] (by
      intro x hxm
      obtain ⟨c, hc⟩ := card_mem h.nd (hx x hxm)
      have tx : TxOk x := by
        obtain ⟨p, hp, rfl⟩ := List.mem_map.mp (hx x hxm)
        exact h.tx p hp
      have k := card_of_spec w ps ts x h.tx tx
      have k2 := call2_ev (i := 0) (j := 2) (ρ := [some (.dat (hallD w ps ts)), some (.dat Q), some (.dat (.str x))]) rfl rfl k
      have hf : faceI ps x = c.1 := by unfold faceI; rw [hc]
      rw [hc] at k2
      refine ⟨_, rfl, .inl ⟨rfl, _, .dat (.int (faceI ps x)), [some (.dat (hallD w ps ts)), some (.dat Q), some (.dat (.str x))], _, rfl, ?_, rfl, rfl⟩⟩
      rw [hf]
      generalize mCall [] fm_card_of (mCons (mVar 0) (mCons (mVar 2) mNil)) = M at k2 ⊢
      generalize hallD w ps ts = HH at *
      simp [mSub, mCons, k2, mC, mNil, frz1, cardD, dctAt, looks, lookS, ixD, atI, ixN])
    rw [this, List.filter_eq_self.mpr (by simp), List.map_map]
    rfl
  have i1 : iE (mVar 1) [some (.dat (hallD w ps ts)), some (.dat (lsD xs)), none] = some (xs.map PyData.str, [some (.dat (hallD w ps ts)), some (.dat (lsD xs)), none]) := rfl
  have c1 := lc_ev (vs := [2]) (ρ4 := [some (.dat (hallD w ps ts)), some (.dat (lsD xs)), none]) i1 (by rw [List.length_map]; exact hz) rfl rfl (lp _) rfl
  have hs : sumD (.list ((xs.map (faceI ps)).map PyData.int)) = some (.dat (.int (sm xs (faceN ps) : Int))) := by
    simp only [sumD, intsD_map, sum_faceI hH.ok]
  have hmod : modD (.int (sm xs (faceN ps) : Int)) (.int 2) = some (.dat (.int ((sm xs (faceN ps) : Int).fmod 2))) := by simp [modD, i2c, cModB]
  have c2 := ret_ev (op2_ev (f := eqD) (op2_ev (f := modD) (op1_ev c1 rfl hs) rfl (mb := mC (.int 2)) rfl rfl hmod) rfl (mb := mC (.int 1)) rfl rfl (eqD_int _ _))
  have hb : decide ((sm xs (faceN ps) : Int).fmod 2 = 1) = decide (sm xs (faceN ps) % 2 = 1) := by
    rw [Int.fmod_eq_emod_of_nonneg _ (by decide)]
    exact decide_eq_decide.mpr (by omega)
  rw [hb] at c2
  unfold fm_is_odd m_is_odd runF
  generalize mRet _ = MM at c2 ⊢
  generalize hallD w ps ts = HH at *
  generalize lsD xs = XX at *
  simp [okArgs, Mw.em, c2, finF, outR, outA]
theorem way_loop (w : Int) (Q : PyData) {ps ps' : List Pl} {ts ts' : List Ti} {r : List Str} (R : Run w ps ts r ps' ts') : WF ps ts → ∀ e2 : Option DV, ∃ f2, loopS (gN 2) (mSeq (mIfS (mNot (mTru (mCall [] fm_is_free (mCons (mCall [] fm_card_of (mCons (mVar 0) (mCons (mVar 2) mNil))) mNil)))) (mRet (mC (.bool false))) mSkip) (mSet 0 (mCall [] fm_gone (mCons (mVar 0) (mCons (mVar 2) mNil))))) (r.map PyData.str) [some (.dat (hallD w ps ts)), some (.dat Q), e2] = some (.next, [some (.dat (hallD w ps' ts')), some (.dat Q), f2]) := by
  induction R with
  | nil => exact fun _ e2 => ⟨e2, rfl⟩
  | @cons ps ps' ts ts' x r h1 h2 _ ih =>
    intro h e2
    obtain ⟨f2, e⟩ := ih (h.gone w x) (some (.dat (.str x)))
    refine ⟨f2, ?_⟩
    have k := card_of_spec w ps ts x h.tx h1
    rw [h2] at k
    have k2 := call2_ev (i := 0) (j := 2) (ρ := [some (.dat (hallD w ps ts)), some (.dat Q), some (.dat (.str x))]) rfl rfl k
    have fr := is_free_spec 1 0
    have t1 : mCall [] fm_is_free (mCons (mCall [] fm_card_of (mCons (mVar 0) (mCons (mVar 2) mNil))) mNil) [some (.dat (hallD w ps ts)), some (.dat Q), some (.dat (.str x))] = some (.dat (.bool true), [some (.dat (hallD w ps ts)), some (.dat Q), some (.dat (.str x))]) := by
      generalize mCall [] fm_card_of (mCons (mVar 0) (mCons (mVar 2) mNil)) = M at k2 ⊢
      generalize hallD w ps ts = HH at *
      simp [mCall, mCons, k2, mNil, frz1, cardD, escB, esc, argsOf, slotsOf, fr, putBack, free]
    have s1 := (notfalse (S := mRet (mC (.bool false))) (T := mSkip) t1).trans rfl
    have s2 := set_dat (i := 0) (call2_ev (i := 0) (j := 2) (ρ := [some (.dat (hallD w ps ts)), some (.dat Q), some (.dat (.str x))]) rfl rfl (gone_spec w ps ts x h h1 h2))
    rw [List.map_cons]
    exact (loopS_cons rfl ((seq_next s1).trans s2)).trans e
theorem is_way_spec (w : Int) {ps : List Pl} {ts ts' : List Ti} {r : List Str} (R : Run w ps ts r [] ts') (h : WF ps ts) : fm_is_way [.dat (hallD w ps ts), .dat (lsD r)] = some (.dat (.bool true), [.dat (hallD w ps ts), .dat (lsD r)]) := by
  obtain ⟨v2, lp⟩ := way_loop w (lsD r) R h none
  have s1 : mIfS (mNot (mTru (mOp1 (isiD ["list"]) (mVar 1)))) (mRet (mC (.bool false))) mSkip [some (.dat (hallD w ps ts)), some (.dat (lsD r)), none] = some (.next, [some (.dat (hallD w ps ts)), some (.dat (lsD r)), none]) := by
    generalize hallD w ps ts = HH at *
    unfold lsD
    simp [runF, okArgs, em, mSeq, mIfS, mB, mOp2, mOp1, mPure, mCons, mVar, mC, mNil, frz1, looks, lookS, f1, f2, mSkip, mRet, mRetN, mDrop, gtD, geD, ltD, leD, isD, isnD, addD, subD, mulD, modD, fdivD, powD, negD, fOr, i2, i2c, mSub, finF, outR, outA, mSet, mSetI, toD, esc, escAll, setItemAt, dctAt, setAt, ixD, atI, ixN, setR, mTru, truS, truD, mAnd, mOr, mNot, mAndV, mOrV, mNotV, mIf, mTup, mLst, mAsg, gN, gT, gsCons, gsNil, mChain, mCall, escB, argsOf, slotsOf, putBack, iE, itemsD, mPar2, wipeE, restE, noOwn, mYes, lenD, absD, Mw.intD, listD, tupleD, mSl, oNone, oSome, slD, mMeth, lstAt, fAppend, mSetT, setTAt, mGetT, dttAt, mD0, mD0T, mPar3, noSlot, setN, mIn, isiD, tyD, isTy, eqD_int, neD_int, eqD_bool, neD_bool, eqD_ii, Mw.keyOf, mLc, mFor, mNeverS, revD]
  have i2 : iE (mVar 1) [some (.dat (hallD w ps ts)), some (.dat (lsD r)), none] = some (r.map PyData.str, [some (.dat (hallD w ps ts)), some (.dat (lsD r)), none]) := rfl
  have s2 := (for_ev i2).trans lp
  have s3 : mRet (mOp2 eqD (mOp1 lenD (mSub (mVar 0) (mC (.int 1)))) (mC (.int 0))) [some (.dat (hallD w [] ts')), some (.dat (lsD r)), v2] = some (.ret (.dat (.bool true)), [some (.dat (hallD w [] ts')), some (.dat (lsD r)), v2]) := ret_ev (op2_ev (f := eqD) (d := .int 0) rfl rfl rfl rfl (eqD_int 0 0))
  have all := (seq_next s1).trans ((seq_next s2).trans s3)
  unfold fm_is_way m_is_way runF
  generalize (mSeq (mIfS (mNot (mTru (mOp1 (isiD ["list"]) (mVar 1)))) (mRet (mC (.bool false))) mSkip) _) = MM at all ⊢
  generalize hallD w ps ts = HH at *
  generalize lsD r = RR at *
  simp [okArgs, Mw.em, all, finF, outR, outA]
end Kx

set_option Elab.async false
set_option linter.all false
set_option maxRecDepth 100000
set_option autoImplicit false
namespace Kx
open PySem PySem.Spec PyProof.Rows L2 Mw
theorem free_spec (w : Int) (ps : List Pl) (ts : List Ti) (hz : ps.length < 1000000) : fm__law_free [.dat (hallD w ps ts)] = some (.new (.lst (((ps.filter fun p => free p.2.1 p.2.2).map (·.1)).map PyData.str)), [.dat (hallD w ps ts)]) := by
  have lp : ∀ H : PyData, loopC [1, 2, 3] (gT 3 (gsCons (gN 1) (gsCons (gN 2) (gsCons (gN 3) gsNil)))) (mAnd (mB (mOp2 eqD (mVar 2) (mC (.int 1)))) (mB (mOp2 eqD (mVar 3) (mC (.int 0))))) (mVar 1) (ps.map plD) [] [some (.dat H), none, none, none]
      = some (((ps.filter fun p => free p.2.1 p.2.2).map (·.1)).map PyData.str, [some (.dat H), none, none, none]) := by
    intro H
    have := loopC_map (vs := [1, 2, 3]) (g := gT 3 (gsCons (gN 1) (gsCons (gN 2) (gsCons (gN 3) gsNil)))) (t := mAnd (mB (mOp2 eqD (mVar 2) (mC (.int 1)))) (mB (mOp2 eqD (mVar 3) (mC (.int 0))))) (me := mVar 1) plD (fun p => free p.2.1 p.2.2) (fun p => PyData.str p.1) [some (.dat H), none, none, none] ps [] (by
      intro p hp
      have ht : mAnd (mB (mOp2 eqD (mVar 2) (mC (.int 1)))) (mB (mOp2 eqD (mVar 3) (mC (.int 0)))) [some (.dat H), some (.dat (.str p.1)), some (.dat (.int p.2.1)), some (.dat (.int p.2.2))] = some (free p.2.1 p.2.2, [some (.dat H), some (.dat (.str p.1)), some (.dat (.int p.2.1)), some (.dat (.int p.2.2))]) := by
        unfold free
        by_cases h1 : p.2.1 = 1 <;> by_cases h2 : p.2.2 = 0 <;> simp [runF, okArgs, em, mSeq, mIfS, mB, mOp2, mOp1, mPure, mCons, mVar, mC, mNil, frz1, looks, lookS, f1, f2, mSkip, mRet, mRetN, mDrop, gtD, geD, ltD, leD, isD, isnD, addD, subD, mulD, modD, fdivD, powD, negD, fOr, i2, i2c, mSub, finF, outR, outA, mSet, mSetI, toD, esc, escAll, setItemAt, dctAt, setAt, ixD, atI, ixN, setR, mTru, truS, truD, mAnd, mOr, mNot, mAndV, mOrV, mNotV, mIf, mTup, mLst, mAsg, gN, gT, gsCons, gsNil, mChain, mCall, escB, argsOf, slotsOf, putBack, iE, itemsD, mPar2, wipeE, restE, noOwn, mYes, lenD, absD, Mw.intD, listD, tupleD, mSl, oNone, oSome, slD, mMeth, lstAt, fAppend, mSetT, setTAt, mGetT, dttAt, mD0, mD0T, mPar3, noSlot, setN, mIn, isiD, tyD, isTy, eqD_int, neD_int, eqD_bool, neD_bool, eqD_ii, Mw.keyOf, mLc, mFor, mNeverS, revD, h1, h2]
      refine ⟨_, rfl, ?_⟩
      cases hf : free p.2.1 p.2.2 with
      | true =>
        rw [hf] at ht
        exact .inl ⟨rfl, _, .dat (.str p.1), _, _, ht, rfl, rfl, rfl⟩
      | false =>
        rw [hf] at ht
        exact .inr ⟨rfl, _, ht, rfl⟩)
    rw [this]
    simp
  have i1 : iE (mSub (mVar 0) (mC (.int 1))) [some (.dat (hallD w ps ts)), none, none, none] = some (ps.map plD, [some (.dat (hallD w ps ts)), none, none, none]) := rfl
  have all := ret_ev (lc_ev (vs := [1, 2, 3]) (ρ4 := [some (.dat (hallD w ps ts)), none, none, none]) i1 (by rw [List.length_map]; exact hz) rfl rfl (lp _) rfl)
  unfold fm__law_free m__law_free runF
  generalize mRet _ = MM at all ⊢
  generalize hallD w ps ts = HH at *
  simp [okArgs, Mw.em, all, finF, outR, outA]
noncomputable abbrev afterB : MS := (mSeq (mIfS (mB (mIn false (mVar 7) (mVar 5))) (mPar2 8 9 (mOp2 subD (mC (.int 1)) (mVar 8)) (mCall [] fm__law_round (mCons (mVar 2) (mCons (mOp2 subD (mSub (mVar 5) (mVar 7)) (mVar 9)) mNil)))) mSkip) (mSet 6 (mOp2 addD (mVar 6) (mOp2 mulD (mLst (mCons (mTup (mCons (mVar 7) (mCons (mVar 8) (mCons (mVar 9) mNil)))) mNil)) (mOp1 intD (mOp2 neD (mVar 7) (mVar 1)))))))
theorem after_step (w : Int) (m : Str → Option Int) (D : List (Key × Pd)) (hD : ∀ y, valP D (.inr y) = (m y).map PyData.int) (Y S L : PyData) (x : Str) (hx : TxOk x) (p : Pl) (hp : TxOk p.1) (acc : List Pl) (hz : acc.length < 100000) (e10 : Option DV) : ∃ f7 f8 f9, afterB [some (.dat Y), some (.dat (.str x)), some (.dat (.int w)), some (.dat S), some (.dat L), some (.obj (.dct D)), some (.obj (.lst (acc.map plD))), some (.dat (.str p.1)), some (.dat (.int p.2.1)), some (.dat (.int p.2.2)), e10]
    = some (.next, [some (.dat Y), some (.dat (.str x)), some (.dat (.int w)), some (.dat S), some (.dat L), some (.obj (.dct D)), some (.obj (.lst ((acc ++ (if p.1 ≠ x then [turnP w m p] else [])).map plD))), f7, f8, f9, e10]) := by
  have h0 := hD p.1
  have s1 : mIfS (mB (mIn false (mVar 7) (mVar 5))) (mPar2 8 9 (mOp2 subD (mC (.int 1)) (mVar 8)) (mCall [] fm__law_round (mCons (mVar 2) (mCons (mOp2 subD (mSub (mVar 5) (mVar 7)) (mVar 9)) mNil)))) mSkip [some (.dat Y), some (.dat (.str x)), some (.dat (.int w)), some (.dat S), some (.dat L), some (.obj (.dct D)), some (.obj (.lst (acc.map plD))), some (.dat (.str p.1)), some (.dat (.int p.2.1)), some (.dat (.int p.2.2)), e10]
      = some (.next, [some (.dat Y), some (.dat (.str x)), some (.dat (.int w)), some (.dat S), some (.dat L), some (.obj (.dct D)), some (.obj (.lst (acc.map plD))), some (.dat (.str (turnP w m p).1)), some (.dat (.int (turnP w m p).2.1)), some (.dat (.int (turnP w m p).2.2)), e10]) := by
    unfold turnP
    cases e : m p.1 with
    | none =>
      rw [e] at h0
      simp [runF, okArgs, em, mSeq, mIfS, mB, mOp2, mOp1, mPure, mCons, mVar, mC, mNil, frz1, looks, lookS, f1, f2, mSkip, mRet, mRetN, mDrop, gtD, geD, ltD, leD, isD, isnD, addD, subD, mulD, modD, fdivD, powD, negD, fOr, i2, i2c, mSub, finF, outR, outA, mSet, mSetI, toD, esc, escAll, setItemAt, dctAt, setAt, ixD, atI, ixN, setR, mTru, truS, truD, mAnd, mOr, mNot, mAndV, mOrV, mNotV, mIf, mTup, mLst, mAsg, gN, gT, gsCons, gsNil, mChain, mCall, escB, argsOf, slotsOf, putBack, iE, itemsD, mPar2, wipeE, restE, noOwn, mYes, lenD, absD, Mw.intD, listD, tupleD, mSl, oNone, oSome, slD, mMeth, lstAt, fAppend, mSetT, setTAt, mGetT, dttAt, mD0, mD0T, mPar3, noSlot, setN, mIn, isiD, tyD, isTy, eqD_int, neD_int, eqD_bool, neD_bool, eqD_ii, Mw.keyOf, mLc, mFor, mNeverS, revD, h0]
    | some g =>
      rw [e] at h0
      simp [runF, okArgs, em, mSeq, mIfS, mB, mOp2, mOp1, mPure, mCons, mVar, mC, mNil, frz1, looks, lookS, f1, f2, mSkip, mRet, mRetN, mDrop, gtD, geD, ltD, leD, isD, isnD, addD, subD, mulD, modD, fdivD, powD, negD, fOr, i2, i2c, mSub, finF, outR, outA, mSet, mSetI, toD, esc, escAll, setItemAt, dctAt, setAt, ixD, atI, ixN, setR, mTru, truS, truD, mAnd, mOr, mNot, mAndV, mOrV, mNotV, mIf, mTup, mLst, mAsg, gN, gT, gsCons, gsNil, mChain, mCall, escB, argsOf, slotsOf, putBack, iE, itemsD, mPar2, wipeE, restE, noOwn, mYes, lenD, absD, Mw.intD, listD, tupleD, mSl, oNone, oSome, slD, mMeth, lstAt, fAppend, mSetT, setTAt, mGetT, dttAt, mD0, mD0T, mPar3, noSlot, setN, mIn, isiD, tyD, isTy, eqD_int, neD_int, eqD_bool, neD_bool, eqD_ii, Mw.keyOf, mLc, mFor, mNeverS, revD, h0, round_spec]
  have hl1 : acc.length + 1 ≤ sizeLine := by
    have := few (show acc.length + 1 < 1000000 by omega)
    omega
  have hl0 : acc.length ≤ sizeLine := by omega
  have hfst := turnP_fst w m p
  have s2 : mSet 6 (mOp2 addD (mVar 6) (mOp2 mulD (mLst (mCons (mTup (mCons (mVar 7) (mCons (mVar 8) (mCons (mVar 9) mNil)))) mNil)) (mOp1 intD (mOp2 neD (mVar 7) (mVar 1))))) [some (.dat Y), some (.dat (.str x)), some (.dat (.int w)), some (.dat S), some (.dat L), some (.obj (.dct D)), some (.obj (.lst (acc.map plD))), some (.dat (.str (turnP w m p).1)), some (.dat (.int (turnP w m p).2.1)), some (.dat (.int (turnP w m p).2.2)), e10]
      = some (.next, [some (.dat Y), some (.dat (.str x)), some (.dat (.int w)), some (.dat S), some (.dat L), some (.obj (.dct D)), some (.obj (.lst ((acc ++ (if p.1 ≠ x then [turnP w m p] else [])).map plD))), some (.dat (.str (turnP w m p).1)), some (.dat (.int (turnP w m p).2.1)), some (.dat (.int (turnP w m p).2.2)), e10]) := by
    rw [← hfst]
    have htx : TxOk (turnP w m p).1 := by rw [hfst]; exact hp
    generalize turnP w m p = t at *
    have hne := neD_str htx hx
    by_cases e : t.1 = x
    · have hr : repL (.list [.tuple [.str t.1, .int t.2.1, .int t.2.2]]) (.int 0) = some (.new (.lst [])) := by
        simp [repL]
      rw [decide_eq_true e] at hne
      rw [e] at hne hr
      simp [mSet, mOp2, mPure, mCons, mVar, mLst, mTup, mNil, frz1, escAll, esc, mOp1, looks, lookS, f1, f2, hne, Mw.intD, mulD, fOr, i2c, hr, addD, i2, catS, catL, hl0, setR, e]
    · have hr : repL (.list [.tuple [.str t.1, .int t.2.1, .int t.2.2]]) (.int 1) = some (.new (.lst [.tuple [.str t.1, .int t.2.1, .int t.2.2]])) := by
        have : (1 : Nat) ≤ sizeLine := by omega
        simp [repL, this]
      rw [decide_eq_false e] at hne
      simp [mSet, mOp2, mPure, mCons, mVar, mLst, mTup, mNil, frz1, escAll, esc, mOp1, looks, lookS, f1, f2, hne, Mw.intD, mulD, fOr, i2c, hr, addD, i2, catS, catL, hl1, setR, e, plD]
  exact ⟨_, _, _, (seq_next s1).trans s2⟩
theorem after_loop (w : Int) (m : Str → Option Int) (D : List (Key × Pd)) (hD : ∀ y, valP D (.inr y) = (m y).map PyData.int) (Y S L : PyData) (x : Str) (hx : TxOk x) (e10 : Option DV) : ∀ (ps acc : List Pl) (e7 e8 e9 : Option DV), (∀ p ∈ ps, TxOk p.1) → acc.length + ps.length < 100000 → ∃ f7 f8 f9, loopS (gT 3 (gsCons (gN 7) (gsCons (gN 8) (gsCons (gN 9) gsNil)))) afterB (ps.map plD) [some (.dat Y), some (.dat (.str x)), some (.dat (.int w)), some (.dat S), some (.dat L), some (.obj (.dct D)), some (.obj (.lst (acc.map plD))), e7, e8, e9, e10]
    = some (.next, [some (.dat Y), some (.dat (.str x)), some (.dat (.int w)), some (.dat S), some (.dat L), some (.obj (.dct D)), some (.obj (.lst ((acc ++ (ps.filter fun p => decide (p.1 ≠ x)).map (turnP w m)).map plD))), f7, f8, f9, e10])
  | [], acc, e7, e8, e9, _, _ => ⟨e7, e8, e9, by simp [loopS]⟩
  | p :: ps, acc, e7, e8, e9, h, hz => by
    rw [List.length_cons] at hz
    obtain ⟨f7, f8, f9, s⟩ := after_step w m D hD Y S L x hx p (h p List.mem_cons_self) acc (by omega) e10
    obtain ⟨g7, g8, g9, q⟩ := after_loop w m D hD Y S L x hx e10 ps (acc ++ (if p.1 ≠ x then [turnP w m p] else [])) f7 f8 f9 (fun y hy => h y (List.mem_cons_of_mem _ hy)) (by
      rw [List.length_append]
      split <;> simp <;> omega)
    refine ⟨g7, g8, g9, ?_⟩
    rw [List.map_cons]
    refine (loopS_cons rfl s).trans (q.trans ?_)
    rw [List.filter_cons]
    by_cases e : p.1 = x <;> simp [e]
theorem after_spec (w : Int) {ps : List Pl} {ts : List Ti} (h : WF ps ts) (x : Str) (hx : TxOk x) : fm__law_after [.dat (hallD w ps ts), .dat (.str x)] = some (.dat (hallD w (leftP w ps ts x) (leftT ts x)), [.dat (hallD w ps ts), .dat (.str x)]) := by
  obtain ⟨cs, hp, hb⟩ := beside_spec ts x h.tt hx h.zt (.tuple (ts.map tiD)) (.inr rfl)
  have hv := glass_val h.ap h.ne hp
  have hdict : dictD (.list (cs.map prD)) = some (.new (.dct (mergeP [] (cs.map kvD)))) := by
    simp only [dictD, pairsD_pr]
  generalize mergeP [] (cs.map kvD) = D at hv hdict
  have zp := h.zp
  have zt := h.zt
  have s1 : mAsg (mVar 0) (gT 3 (gsCons (gN 2) (gsCons (gN 3) (gsCons (gN 4) gsNil)))) [some (.dat (hallD w ps ts)), some (.dat (.str x)), none, none, none, none, none, none, none, none, none] = some (.next, [some (.dat (hallD w ps ts)), some (.dat (.str x)), some (.dat (.int w)), some (.dat (.tuple (ps.map plD))), some (.dat (.tuple (ts.map tiD))), none, none, none, none, none, none]) := rfl
  have s2 : mPar2 5 6 (mOp1 dictD (mCall [] fm__law_beside (mCons (mVar 4) (mCons (mVar 1) mNil)))) (mLst mNil) [some (.dat (hallD w ps ts)), some (.dat (.str x)), some (.dat (.int w)), some (.dat (.tuple (ps.map plD))), some (.dat (.tuple (ts.map tiD))), none, none, none, none, none, none] = some (.next, [some (.dat (hallD w ps ts)), some (.dat (.str x)), some (.dat (.int w)), some (.dat (.tuple (ps.map plD))), some (.dat (.tuple (ts.map tiD))), some (.obj (.dct D)), some (.obj (.lst [])), none, none, none, none]) := by
    have c1 := op1_ev (f := dictD) (call2_ev (i := 4) (j := 1) (ρ := [some (.dat (hallD w ps ts)), some (.dat (.str x)), some (.dat (.int w)), some (.dat (.tuple (ps.map plD))), some (.dat (.tuple (ts.map tiD))), none, none, none, none, none, none]) rfl rfl hb) rfl hdict
    generalize mOp1 dictD (mCall [] fm__law_beside (mCons (mVar 4) (mCons (mVar 1) mNil))) = M at c1 ⊢
    generalize hallD w ps ts = HH at *
    generalize (.tuple (ps.map plD) : PyData) = PP at *
    generalize (.tuple (ts.map tiD) : PyData) = TT at *
    simp [mPar2, c1, mLst, mNil, escAll, noSlot, setN]
  obtain ⟨f7, f8, f9, lp⟩ := after_loop w (adj ts x) D hv (hallD w ps ts) (.tuple (ps.map plD)) (.tuple (ts.map tiD)) x hx none ps [] none none none h.tx (by simp; omega)
  have i3 : iE (mVar 3) [some (.dat (hallD w ps ts)), some (.dat (.str x)), some (.dat (.int w)), some (.dat (.tuple (ps.map plD))), some (.dat (.tuple (ts.map tiD))), some (.obj (.dct D)), some (.obj (.lst [])), none, none, none, none] = some (ps.map plD, [some (.dat (hallD w ps ts)), some (.dat (.str x)), some (.dat (.int w)), some (.dat (.tuple (ps.map plD))), some (.dat (.tuple (ts.map tiD))), some (.obj (.dct D)), some (.obj (.lst [])), none, none, none, none]) := rfl
  have s3 := (for_ev i3).trans lp
  have hleft : ([] : List Pl) ++ (ps.filter fun p => decide (p.1 ≠ x)).map (turnP w (adj ts x)) = leftP w ps ts x := rfl
  rw [hleft] at s3
  have l4 : ∀ (HH PP TT : PyData) (o5 o6 e7 e8 e9 : Option DV), loopC [10] (gN 10) (mB (mIn true (mVar 1) (mSl (mVar 10) oNone (oSome (mC (.int 2)))))) (mVar 10) (ts.map tiD) [] [some (.dat HH), some (.dat (.str x)), some (.dat (.int w)), some (.dat PP), some (.dat TT), o5, o6, e7, e8, e9, none] = some ((leftT ts x).map tiD, [some (.dat HH), some (.dat (.str x)), some (.dat (.int w)), some (.dat PP), some (.dat TT), o5, o6, e7, e8, e9, none]) := by
    intro HH PP TT o5 o6 e7 e8 e9
    have := loopC_map (vs := [10]) (g := gN 10) (t := mB (mIn true (mVar 1) (mSl (mVar 10) oNone (oSome (mC (.int 2)))))) (me := mVar 10) tiD (fun t => decide (t.1 ≠ x ∧ t.2.1 ≠ x)) tiD [some (.dat HH), some (.dat (.str x)), some (.dat (.int w)), some (.dat PP), some (.dat TT), o5, o6, e7, e8, e9, none] ts [] (by
      intro t htm
      have ht : mB (mIn true (mVar 1) (mSl (mVar 10) oNone (oSome (mC (.int 2))))) [some (.dat HH), some (.dat (.str x)), some (.dat (.int w)), some (.dat PP), some (.dat TT), o5, o6, e7, e8, e9, some (.dat (tiD t))] = some (decide (t.1 ≠ x ∧ t.2.1 ≠ x), [some (.dat HH), some (.dat (.str x)), some (.dat (.int w)), some (.dat PP), some (.dat TT), o5, o6, e7, e8, e9, some (.dat (tiD t))]) := by
        simp [runF, okArgs, em, mSeq, mIfS, mB, mOp2, mOp1, mPure, mCons, mVar, mC, mNil, frz1, looks, lookS, f1, f2, mSkip, mRet, mRetN, mDrop, gtD, geD, ltD, leD, isD, isnD, addD, subD, mulD, modD, fdivD, powD, negD, fOr, i2, i2c, mSub, finF, outR, outA, mSet, mSetI, toD, esc, escAll, setItemAt, dctAt, setAt, ixD, atI, ixN, setR, mTru, truS, truD, mAnd, mOr, mNot, mAndV, mOrV, mNotV, mIf, mTup, mLst, mAsg, gN, gT, gsCons, gsNil, mChain, mCall, escB, argsOf, slotsOf, putBack, iE, itemsD, mPar2, wipeE, restE, noOwn, mYes, lenD, absD, Mw.intD, listD, tupleD, mSl, oNone, oSome, slD, mMeth, lstAt, fAppend, mSetT, setTAt, mGetT, dttAt, mD0, mD0T, mPar3, noSlot, setN, mIn, isiD, tyD, isTy, eqD_int, neD_int, eqD_bool, neD_bool, eqD_ii, Mw.keyOf, mLc, mFor, mNeverS, revD, tiD, cut2, notIn_ss hx (h.tt t htm).1 (h.tt t htm).2]
      refine ⟨_, rfl, ?_⟩
      cases hd : decide (t.1 ≠ x ∧ t.2.1 ≠ x) with
      | true =>
        rw [hd] at ht
        exact .inl ⟨rfl, _, _, _, _, ht, rfl, rfl, rfl⟩
      | false =>
        rw [hd] at ht
        exact .inr ⟨rfl, _, ht, rfl⟩)
    rw [this]
    simp [leftT]
  have i4 : iE (mVar 4) [some (.dat (hallD w ps ts)), some (.dat (.str x)), some (.dat (.int w)), some (.dat (.tuple (ps.map plD))), some (.dat (.tuple (ts.map tiD))), some (.obj (.dct D)), some (.obj (.lst ((leftP w ps ts x).map plD))), f7, f8, f9, none] = some (ts.map tiD, [some (.dat (hallD w ps ts)), some (.dat (.str x)), some (.dat (.int w)), some (.dat (.tuple (ps.map plD))), some (.dat (.tuple (ts.map tiD))), some (.obj (.dct D)), some (.obj (.lst ((leftP w ps ts x).map plD))), f7, f8, f9, none]) := rfl
  have c4 := lc_ev (vs := [10]) (ρ4 := [some (.dat (hallD w ps ts)), some (.dat (.str x)), some (.dat (.int w)), some (.dat (.tuple (ps.map plD))), some (.dat (.tuple (ts.map tiD))), some (.obj (.dct D)), some (.obj (.lst ((leftP w ps ts x).map plD))), f7, f8, f9, none]) i4 (by rw [List.length_map]; omega) rfl rfl (l4 _ _ _ _ _ _ _ _) rfl
  have s5 : mRet (mTup (mCons (mVar 2) (mCons (mOp1 tupleD (mVar 6)) (mCons (mOp1 tupleD (mLc (iE (mVar 4)) [10] (gN 10) (mB (mIn true (mVar 1) (mSl (mVar 10) oNone (oSome (mC (.int 2)))))) (mVar 10))) mNil)))) [some (.dat (hallD w ps ts)), some (.dat (.str x)), some (.dat (.int w)), some (.dat (.tuple (ps.map plD))), some (.dat (.tuple (ts.map tiD))), some (.obj (.dct D)), some (.obj (.lst ((leftP w ps ts x).map plD))), f7, f8, f9, none] = some (.ret (.dat (hallD w (leftP w ps ts x) (leftT ts x))), [some (.dat (hallD w ps ts)), some (.dat (.str x)), some (.dat (.int w)), some (.dat (.tuple (ps.map plD))), some (.dat (.tuple (ts.map tiD))), some (.obj (.dct D)), some (.obj (.lst ((leftP w ps ts x).map plD))), f7, f8, f9, none]) := by
    generalize mLc (iE (mVar 4)) [10] (gN 10) (mB (mIn true (mVar 1) (mSl (mVar 10) oNone (oSome (mC (.int 2)))))) (mVar 10) = M at c4 ⊢
    generalize hallD w ps ts = HH at *
    simp [mRet, mTup, mCons, mVar, mNil, mOp1, mPure, frz1, looks, lookS, f1, tupleD, c4, escAll, esc, hallD]
  have all := (seq_next s1).trans ((seq_next s2).trans ((seq_next s3).trans s5))
  unfold fm__law_after m__law_after runF
  generalize (mSeq (mAsg (mVar 0) (gT 3 (gsCons (gN 2) (gsCons (gN 3) (gsCons (gN 4) gsNil))))) _) = MM at all ⊢
  generalize hallD w ps ts = HH at *
  simp [okArgs, Mw.em, all, finF, outR, outA]
end Kx

set_option Elab.async false
set_option linter.all false
set_option maxRecDepth 100000
set_option autoImplicit false
namespace Kx
open PySem PySem.Spec PyProof.Rows L2 Mw
theorem depthAll_le {k : Nat} : ∀ {ds : List PyData}, (∀ d ∈ ds, d.depth ≤ k) → PyData.depthAll ds ≤ k
  | [], _ => by simp [PyData.depthAll]
  | d :: ds, h => by
    have h1 := h d List.mem_cons_self
    have h2 := depthAll_le (k := k) (ds := ds) fun x hx => h x (List.mem_cons_of_mem _ hx)
    simp only [PyData.depthAll]
    omega
theorem depth_tup {k : Nat} {ds : List PyData} (h : ∀ d ∈ ds, d.depth ≤ k) : (PyData.tuple ds).depth ≤ k + 1 := by
  have := depthAll_le h
  simp only [PyData.depth]
  omega
theorem depth_hall (w : Int) (ps : List Pl) (ts : List Ti) : (hallD w ps ts).depth ≤ 3 := by
  unfold hallD
  refine depth_tup (k := 2) fun d hd => ?_
  simp only [List.mem_cons, List.not_mem_nil, or_false] at hd
  rcases hd with rfl | rfl | rfl
  · simp [PyData.depth]
  · refine depth_tup (k := 1) fun d hd => ?_
    obtain ⟨p, _, rfl⟩ := List.mem_map.mp hd
    simp [plD, PyData.depth, PyData.depthAll]
  · refine depth_tup (k := 1) fun d hd => ?_
    obtain ⟨t, _, rfl⟩ := List.mem_map.mp hd
    simp [tiD, PyData.depth, PyData.depthAll]
theorem lay_tup {ds : List PyData} (h : ∀ d ∈ ds, d.canLay0 = true) : (PyData.tuple ds).canLay0 = true := by
  simp only [PyData.canLay0]
  exact canLayAll_of h
theorem lay_hall (w : Int) {ps : List Pl} {ts : List Ti} (h : WF ps ts) : (hallD w ps ts).canLay0 = true := by
  unfold hallD
  refine lay_tup fun d hd => ?_
  simp only [List.mem_cons, List.not_mem_nil, or_false] at hd
  rcases hd with rfl | rfl | rfl
  · rfl
  · refine lay_tup fun d hd => ?_
    obtain ⟨p, hp, rfl⟩ := List.mem_map.mp hd
    exact lay_pl (h.tx p hp)
  · refine lay_tup fun d hd => ?_
    obtain ⟨t, ht, rfl⟩ := List.mem_map.mp hd
    exact lay_ti (h.tt t ht).1 (h.tt t ht).2
theorem ne_bare {ds : List PyData} (h1 : ∀ d ∈ ds, d.canLay0 = true) (h2 : ∀ d ∈ ds, d.depth ≤ 60) : neD (.list ds) (.list []) = some (.dat (.bool (!ds.isEmpty))) := by
  have h3 := canLayAll_of h1
  have h4 := depthAll_le h2
  unfold neD
  rw [if_pos (by simp [SeqAt.shaped, PyData.canLay0, PyData.canLayAll0, h3, PyData.depth, PyData.depthAll]; omega)]
  cases ds with
  | nil => simp [PyData.eqv, PyData.eqvAll]
  | cons x r => simp [PyData.eqv, PyData.eqvAll]
theorem eq_bareT {ds : List PyData} (h1 : ∀ d ∈ ds, d.canLay0 = true) (h2 : ∀ d ∈ ds, d.depth ≤ 60) : eqD (.tuple ds) (.tuple []) = some (.dat (.bool ds.isEmpty)) := by
  have h3 := canLayAll_of h1
  have h4 := depthAll_le h2
  unfold eqD
  rw [if_pos (by simp [SeqAt.shaped, PyData.canLay0, PyData.canLayAll0, h3, PyData.depth, PyData.depthAll]; omega)]
  cases ds with
  | nil => simp [PyData.eqv, PyData.eqvAll]
  | cons x r => simp [PyData.eqv, PyData.eqvAll]
/-! ### all rows of goings -/
abbrev Itm := List Str × List Pl × List Ti
def tupS (p : List Str) : PyData := .tuple (p.map PyData.str)
def itD (w : Int) (i : Itm) : PyData := .tuple [tupS i.1, hallD w i.2.1 i.2.2]
def gW : Nat → Nat
  | 0 => 1
  | n + 1 => (n + 1) * gW n + 1
theorem gW_pos : ∀ n, 0 < gW n
  | 0 => by decide
  | n + 1 => by simp [gW]
theorem gW_mono (n : Nat) : gW n ≤ gW (n + 1) := by
  have := Nat.le_mul_of_pos_left (gW n) (show 0 < n + 1 by omega)
  show gW n ≤ (n + 1) * gW n + 1
  omega
theorem gW_le {m n : Nat} (h : m ≤ n) : gW m ≤ gW n := by
  induction h with
  | refl => exact Nat.le_refl _
  | step _ ih => exact Nat.le_trans ih (gW_mono _)
def wtI (i : Itm) : Nat := gW i.2.1.length
def wtS (l : List Itm) : Nat := (l.map wtI).sum
theorem wtS_app (a b : List Itm) : wtS (a ++ b) = wtS a + wtS b := by
  unfold wtS
  rw [List.map_append, List.sum_append]
theorem wtS_len : ∀ l : List Itm, l.length ≤ wtS l
  | [] => Nat.le_refl _
  | i :: l => by
    have := wtS_len l
    have := gW_pos i.2.1.length
    show l.length + 1 ≤ wtI i + wtS l
    unfold wtI
    omega
theorem wtS_le {k : Nat} : ∀ l : List Itm, (∀ i ∈ l, wtI i ≤ k) → wtS l ≤ l.length * k
  | [], _ => by simp [wtS]
  | i :: l, h => by
    have h1 := h i List.mem_cons_self
    have h2 := wtS_le l fun j hj => h j (List.mem_cons_of_mem _ hj)
    show wtI i + wtS l ≤ (l.length + 1) * k
    rw [Nat.add_mul, Nat.one_mul]
    omega
theorem lay_it (w : Int) {i : Itm} (h1 : ∀ x ∈ i.1, TxOk x) (h2 : WF i.2.1 i.2.2) : (itD w i).canLay0 = true := by
  refine lay_tup fun d hd => ?_
  simp only [List.mem_cons, List.not_mem_nil, or_false] at hd
  rcases hd with rfl | rfl
  · refine lay_tup fun d hd => ?_
    obtain ⟨x, hx, rfl⟩ := List.mem_map.mp hd
    exact h1 x hx
  · exact lay_hall w h2
theorem depth_it (w : Int) (i : Itm) : (itD w i).depth ≤ 60 := by
  refine Nat.le_trans (depth_tup (k := 3) fun d hd => ?_) (by decide)
  simp only [List.mem_cons, List.not_mem_nil, or_false] at hd
  rcases hd with rfl | rfl
  · refine Nat.le_trans (depth_tup (k := 0) fun d hd => ?_) (by decide)
    obtain ⟨x, hx, rfl⟩ := List.mem_map.mp hd
    simp [PyData.depth]
  · exact depth_hall _ _ _
theorem Run.txs {w : Int} {ps ps' : List Pl} {ts ts' : List Ti} {r : List Str} (h : Run w ps ts r ps' ts') : ∀ x ∈ r, TxOk x := by
  induction h with
  | nil => intro x hx; cases hx
  | cons h1 _ _ ih =>
    intro x hx
    rcases List.mem_cons.mp hx with rfl | hx
    · exact h1
    · exact ih x hx
def nexts (w : Int) (i : Itm) : List Itm := (frs i.2.1).map fun x => (i.1 ++ [x], leftP w i.2.1 i.2.2 x, leftT i.2.2 x)
theorem nexts_wt (w : Int) (i : Itm) (h : WF i.2.1 i.2.2) : wtS (nexts w i) + 1 ≤ wtI i := by
  have hl : (nexts w i).length ≤ i.2.1.length := by
    unfold nexts frs
    rw [List.length_map, List.length_map]
    exact List.length_filter_le _ _
  cases hn : i.2.1.length with
  | zero =>
    have : nexts w i = [] := List.eq_nil_of_length_eq_zero (by omega)
    rw [this]
    unfold wtI
    rw [hn]
    decide
  | succ n =>
    have each : ∀ j ∈ nexts w i, wtI j ≤ gW n := by
      intro j hj
      obtain ⟨x, hx, rfl⟩ := List.mem_map.mp hj
      have := leftP_lt (w := w) (ts := i.2.2) (frs_free h hx).2.2
      exact gW_le (by dsimp only; omega)
    have h2 := wtS_le _ each
    have h3 : (nexts w i).length * gW n ≤ (n + 1) * gW n := Nat.mul_le_mul_right _ (by omega)
    unfold wtI
    rw [hn]
    simp only [gW]
    omega
theorem consN_ev {m : ME} {ρ ρ1 : En} {ds : List PyData} (h : m ρ = some (.new (.lst ds), ρ1)) : mCons m mNil ρ = some ([.dat (.list ds)], ρ1) := by
  simp only [mCons, h, frz1, mNil]
noncomputable abbrev waysB : MS := (mSeq (mAsg (mMeth fPop (mVar 2) mNil) (gT 2 (gsCons (gN 3) (gsCons (gN 4) gsNil)))) (mSeq (mIfS (mB (mOp2 eqD (mSub (mVar 4) (mC (.int 1))) (mTup mNil))) (mDrop (mMeth fAppend (mVar 1) (mCons (mVar 3) mNil))) mSkip) (mDrop (mMeth fExtend (mVar 2) (mCons (mLc (iE (mCall [] fm__law_free (mCons (mVar 4) mNil))) [5] (gN 5) mYes (mTup (mCons (mOp2 addD (mVar 3) (mTup (mCons (mVar 5) mNil))) (mCons (mCall [] fm__law_after (mCons (mVar 4) (mCons (mVar 5) mNil))) mNil)))) mNil)))))
theorem ways_body (w : Int) (Y : PyData) (i : Itm) (hi1 : ∀ x ∈ i.1, TxOk x) (h : WF i.2.1 i.2.2) (hl : i.1.length < 1000) (Fd : List (List Str)) (Lf : List Itm) (hF : Fd.length < 100000) (hL : Lf.length + i.2.1.length < 100000) (x3 x4 : Option PyData) : waysB [some (.dat Y), some (.obj (.lst (Fd.map tupS))), some (.obj (.lst ((Lf ++ [i]).map (itD w)))), od x3, od x4, none]
    = some (.next, [some (.dat Y), some (.obj (.lst ((Fd ++ (if i.2.1.isEmpty then [i.1] else [])).map tupS))), some (.obj (.lst ((Lf ++ nexts w i).map (itD w)))), some (.dat (tupS i.1)), some (.dat (hallD w i.2.1 i.2.2)), none]) := by
  have hpop : fPop ((Lf ++ [i]).map (itD w)) [] = some (itD w i, Lf.map (itD w)) := by simp [fPop]
  have s1 := asg_ev (g := gT 2 (gsCons (gN 3) (gsCons (gN 4) gsNil))) (meth_ev (f := fPop) (mo := mVar 2) (j := 2) (ms := mNil) (ρ := [some (.dat Y), some (.obj (.lst (Fd.map tupS))), some (.obj (.lst ((Lf ++ [i]).map (itD w)))), od x3, od x4, none]) rfl rfl rfl rfl rfl hpop) rfl
  have eqb := eq_bareT (ds := i.2.1.map plD) (fun d hd => by
    obtain ⟨p, hp, rfl⟩ := List.mem_map.mp hd
    exact lay_pl (h.tx p hp)) (fun d hd => by
    obtain ⟨p, hp, rfl⟩ := List.mem_map.mp hd
    exact Nat.le_trans (depth_tup (k := 0) (fun d hd => by
      simp only [List.mem_cons, List.not_mem_nil, or_false] at hd
      rcases hd with rfl | rfl | rfl <;> simp [PyData.depth])) (by decide))
  rw [List.isEmpty_map] at eqb
  have t2 : mB (mOp2 eqD (mSub (mVar 4) (mC (.int 1))) (mTup mNil)) [some (.dat Y), some (.obj (.lst (Fd.map tupS))), some (.obj (.lst (Lf.map (itD w)))), some (.dat (tupS i.1)), some (.dat (hallD w i.2.1 i.2.2)), none] = some (i.2.1.isEmpty, [some (.dat Y), some (.obj (.lst (Fd.map tupS))), some (.obj (.lst (Lf.map (itD w)))), some (.dat (tupS i.1)), some (.dat (hallD w i.2.1 i.2.2)), none]) := by
    have e := op2_ev (f := eqD) (ma := mSub (mVar 4) (mC (.int 1))) (mb := mTup mNil) (ρ := [some (.dat Y), some (.obj (.lst (Fd.map tupS))), some (.obj (.lst (Lf.map (itD w)))), some (.dat (tupS i.1)), some (.dat (hallD w i.2.1 i.2.2)), none]) (d := .tuple (i.2.1.map plD)) (e := .tuple []) rfl rfl rfl rfl eqb
    simp only [mB, e]
  have s2 : mIfS (mB (mOp2 eqD (mSub (mVar 4) (mC (.int 1))) (mTup mNil))) (mDrop (mMeth fAppend (mVar 1) (mCons (mVar 3) mNil))) mSkip [some (.dat Y), some (.obj (.lst (Fd.map tupS))), some (.obj (.lst (Lf.map (itD w)))), some (.dat (tupS i.1)), some (.dat (hallD w i.2.1 i.2.2)), none] = some (.next, [some (.dat Y), some (.obj (.lst ((Fd ++ (if i.2.1.isEmpty then [i.1] else [])).map tupS))), some (.obj (.lst (Lf.map (itD w)))), some (.dat (tupS i.1)), some (.dat (hallD w i.2.1 i.2.2)), none]) := by
    cases he : i.2.1.isEmpty with
    | false =>
      rw [he] at t2
      rw [ifS_false t2]
      simp [mSkip]
    | true =>
      rw [he] at t2
      rw [ifS_true t2]
      have hap : fAppend (Fd.map tupS) [tupS i.1] = some (.none, (Fd ++ [i.1]).map tupS) := by
        have : Fd.length < sizeLine := few (by omega)
        simp [fAppend, this]
      rw [if_pos rfl]
      exact drop_ev (meth_ev (f := fAppend) (mo := mVar 1) (j := 1) (ρ := [some (.dat Y), some (.obj (.lst (Fd.map tupS))), some (.obj (.lst (Lf.map (itD w)))), some (.dat (tupS i.1)), some (.dat (hallD w i.2.1 i.2.2)), none]) rfl rfl (cons1_ev (m := mVar 3) rfl) rfl rfl hap)
  have fr := free_spec w i.2.1 i.2.2 (Nat.lt_trans h.zp (by decide))
  have hfr : ((i.2.1.filter fun p => free p.2.1 p.2.2).map (·.1)) = frs i.2.1 := rfl
  rw [hfr] at fr
  have lp : ∀ (o1 o2 : OB), loopC [5] (gN 5) mYes (mTup (mCons (mOp2 addD (mVar 3) (mTup (mCons (mVar 5) mNil))) (mCons (mCall [] fm__law_after (mCons (mVar 4) (mCons (mVar 5) mNil))) mNil))) ((frs i.2.1).map PyData.str) [] [some (.dat Y), some (.obj o1), some (.obj o2), some (.dat (tupS i.1)), some (.dat (hallD w i.2.1 i.2.2)), none]
      = some ((nexts w i).map (itD w), [some (.dat Y), some (.obj o1), some (.obj o2), some (.dat (tupS i.1)), some (.dat (hallD w i.2.1 i.2.2)), none]) := by
    intro o1 o2
    have := loopC_map (vs := [5]) (g := gN 5) (t := mYes) (me := mTup (mCons (mOp2 addD (mVar 3) (mTup (mCons (mVar 5) mNil))) (mCons (mCall [] fm__law_after (mCons (mVar 4) (mCons (mVar 5) mNil))) mNil))) PyData.str (fun _ => true) (fun x => itD w (i.1 ++ [x], leftP w i.2.1 i.2.2 x, leftT i.2.2 x)) [some (.dat Y), some (.obj o1), some (.obj o2), some (.dat (tupS i.1)), some (.dat (hallD w i.2.1 i.2.2)), none] (frs i.2.1) [] (by
      intro x hx
      have tx := (frs_free h hx).1
      have hadd : addD (tupS i.1) (.tuple [.str x]) = some (.dat (tupS (i.1 ++ [x]))) := by
        have : i.1.length + 1 ≤ sizeLine := by
          have := few (show i.1.length + 1 < 1000000 by omega)
          omega
        simp [addD, fOr, i2, catS, catL, catT, tupS, this]
      have k1 := op2_ev (f := addD) (ma := mVar 3) (mb := mTup (mCons (mVar 5) mNil)) (ρ := [some (.dat Y), some (.obj o1), some (.obj o2), some (.dat (tupS i.1)), some (.dat (hallD w i.2.1 i.2.2)), some (.dat (.str x))]) (d := tupS i.1) (e := .tuple [.str x]) rfl rfl rfl rfl hadd
      have k2 := call2_ev (i := 4) (j := 5) (ρ := [some (.dat Y), some (.obj o1), some (.obj o2), some (.dat (tupS i.1)), some (.dat (hallD w i.2.1 i.2.2)), some (.dat (.str x))]) rfl rfl (after_spec w h x tx)
      exact ⟨_, rfl, .inl ⟨rfl, _, _, _, _, rfl, tup2_ev k1 k2, rfl, rfl⟩⟩)
    rw [this, List.filter_eq_self.mpr (by simp)]
    unfold nexts
    rw [List.map_map]
    rfl
  have hnl : (nexts w i).length ≤ i.2.1.length := by
    unfold nexts frs
    rw [List.length_map, List.length_map]
    exact List.length_filter_le _ _
  have zp := h.zp
  have i3 : ∀ (o1 o2 : OB), iE (mCall [] fm__law_free (mCons (mVar 4) mNil)) [some (.dat Y), some (.obj o1), some (.obj o2), some (.dat (tupS i.1)), some (.dat (hallD w i.2.1 i.2.2)), none] = some ((frs i.2.1).map PyData.str, [some (.dat Y), some (.obj o1), some (.obj o2), some (.dat (tupS i.1)), some (.dat (hallD w i.2.1 i.2.2)), none]) := fun o1 o2 => iE_call (call1_ev rfl fr)
  have hfl : (frs i.2.1).length ≤ i.2.1.length := by
    unfold frs
    rw [List.length_map]
    exact List.length_filter_le _ _
  have c3 := fun (o1 o2 : OB) => lc_ev (vs := [5]) (ρ4 := [some (.dat Y), some (.obj o1), some (.obj o2), some (.dat (tupS i.1)), some (.dat (hallD w i.2.1 i.2.2)), none]) (i3 o1 o2) (by rw [List.length_map]; omega) rfl rfl (lp o1 o2) rfl
  have hex : fExtend (Lf.map (itD w)) [.list ((nexts w i).map (itD w))] = some (.none, (Lf ++ nexts w i).map (itD w)) := by
    have : Lf.length + (nexts w i).length ≤ sizeLine := Nat.le_of_lt (few (by omega))
    simp [fExtend, this]
  have s3 := drop_ev (meth_ev (f := fExtend) (mo := mVar 2) (j := 2) (as := [.list ((nexts w i).map (itD w))]) (ρ := [some (.dat Y), some (.obj (.lst ((Fd ++ (if i.2.1.isEmpty then [i.1] else [])).map tupS))), some (.obj (.lst (Lf.map (itD w)))), some (.dat (tupS i.1)), some (.dat (hallD w i.2.1 i.2.2)), none]) rfl rfl (consN_ev (c3 _ _)) rfl rfl hex)
  exact (seq_next s1).trans ((seq_next s2).trans s3)
end Kx

set_option Elab.async false
set_option linter.all false
set_option maxRecDepth 100000
set_option autoImplicit false
namespace Kx
open PySem PySem.Spec PyProof.Rows L2 Mw
def wtD : PyData → Nat
  | .tuple [_, .tuple [_, .tuple l, _]] => gW l.length
  | _ => 0
def muV (ρ : En) : Nat := match (ρ[2]? : Option (Option DV)) with
  | some (some (.obj (.lst l))) => (l.map wtD).sum
  | _ => 0
theorem wtD_it (w : Int) (l : List Itm) : ((l.map (itD w)).map wtD).sum = wtS l := by
  unfold wtS
  rw [List.map_map]
  congr 1
  refine List.map_congr_left fun i _ => ?_
  show gW (i.2.1.map plD).length = gW i.2.1.length
  rw [List.length_map]
def AllIn (w : Int) (ps0 : List Pl) (ts0 : List Ti) (Fd : List (List Str)) (Lf : List Itm) : Prop :=
  (∀ p ∈ Fd, ∃ ts', Run w ps0 ts0 p [] ts') ∧ (∀ i ∈ Lf, Run w ps0 ts0 i.1 i.2.1 i.2.2) ∧ Fd.length + wtS Lf ≤ gW ps0.length
theorem run_len {w : Int} {ps0 ps : List Pl} {ts0 ts : List Ti} {r : List Str} (hH : Hall w ps0 ts0) (h : Run w ps0 ts0 r ps ts) : r.length ≤ ps0.length := by
  have nd := h.nodup hH
  have sub : ∀ x ∈ r, x ∈ ps0.map (·.1) := by
    intro x hx
    obtain ⟨pre, post, e, _, _⟩ := split_at hx
    obtain ⟨p, hp, rfl, _, _⟩ := h.face hH e
    exact List.mem_map.mpr ⟨p, hp, rfl⟩
  have := nd.length_le_of_subset sub
  simpa using this
theorem ways_loop (w : Int) {ps0 : List Pl} {ts0 : List Ti} (hH : Hall w ps0 ts0) (hn : ps0.length ≤ 6) (Y : PyData) : ∃ (Fd : List (List Str)) (x3 x4 : Option PyData), (∀ p ∈ Fd, ∃ ts', Run w ps0 ts0 p [] ts') ∧ Fd.length ≤ 2000 ∧
    mWhile (mB (mOp2 neD (mVar 2) (mLst mNil))) waysB [some (.dat Y), some (.obj (.lst [])), some (.obj (.lst [itD w ([], ps0, ts0)])), none, none, none] = some (.next, [some (.dat Y), some (.obj (.lst (Fd.map tupS))), some (.obj (.lst [])), od x3, od x4, none]) := by
  have g6 : gW ps0.length ≤ 1957 := Nat.le_trans (gW_le hn) (by decide)
  have h0 := hH.wf
  obtain ⟨n, fl, ρ', e, rfl, Fd, x3, x4, a1, a2, rfl⟩ := loopW_inv (t := mB (mOp2 neD (mVar 2) (mLst mNil))) (body := waysB)
    (fun ρ => ∃ (Fd : List (List Str)) (Lf : List Itm) (x3 x4 : Option PyData), AllIn w ps0 ts0 Fd Lf ∧ ρ = [some (.dat Y), some (.obj (.lst (Fd.map tupS))), some (.obj (.lst (Lf.map (itD w)))), od x3, od x4, none]) muV
    (fun fl ρ => fl = .next ∧ ∃ (Fd : List (List Str)) (x3 x4 : Option PyData), (∀ p ∈ Fd, ∃ ts', Run w ps0 ts0 p [] ts') ∧ Fd.length ≤ 2000 ∧ ρ = [some (.dat Y), some (.obj (.lst (Fd.map tupS))), some (.obj (.lst [])), od x3, od x4, none])
    (by
      rintro ρ ⟨Fd, Lf, x3, x4, ⟨b1, b2, b3⟩, rfl⟩
      have hne := ne_bare (ds := Lf.map (itD w)) (fun d hd => by
        obtain ⟨i, hi, rfl⟩ := List.mem_map.mp hd
        exact lay_it w (b2 i hi).txs ((b2 i hi).wf h0)) (fun d hd => by
        obtain ⟨i, hi, rfl⟩ := List.mem_map.mp hd
        exact depth_it w i)
      rw [List.isEmpty_map] at hne
      have t1 : mB (mOp2 neD (mVar 2) (mLst mNil)) [some (.dat Y), some (.obj (.lst (Fd.map tupS))), some (.obj (.lst (Lf.map (itD w)))), od x3, od x4, none] = some (!Lf.isEmpty, [some (.dat Y), some (.obj (.lst (Fd.map tupS))), some (.obj (.lst (Lf.map (itD w)))), od x3, od x4, none]) := by
        simp [mB, mOp2, mPure, mCons, mVar, mLst, mNil, escAll, frz1, looks, lookS, f2, hne]
      refine ⟨_, _, t1, ?_⟩
      cases hL : Lf.isEmpty with
      | true =>
        have hL' : Lf = [] := List.isEmpty_iff.mp hL
        subst hL'
        exact .inl ⟨rfl, rfl, Fd, x3, x4, b1, by omega, rfl⟩
      | false =>
        have hne' : Lf ≠ [] := fun z => by rw [z] at hL; cases hL
        obtain ⟨L1, i, rfl⟩ : ∃ L1 i, Lf = L1 ++ [i] := ⟨Lf.dropLast, Lf.getLast hne', (List.dropLast_concat_getLast hne').symm⟩
        have hR := b2 i (by simp)
        have hw := hR.wf h0
        have hwt := nexts_wt w i hw
        have zp := hw.zp
        rw [wtS_app] at b3
        have e1 : wtS [i] = wtI i := by simp [wtS]
        rw [e1] at b3
        have ln := wtS_len L1
        have rl := run_len hH hR
        have body := ways_body w Y i hR.txs hw (by omega) Fd L1 (by omega) (by omega) x3 x4
        refine .inr ⟨rfl, _, .inl ⟨.inl body, ⟨_, L1 ++ nexts w i, some (tupS i.1), some (hallD w i.2.1 i.2.2), ⟨?_, ?_, ?_⟩, rfl⟩, ?_⟩⟩
        · intro p hp
          rcases List.mem_append.mp hp with hp | hp
          · exact b1 p hp
          · cases hemp : i.2.1.isEmpty with
            | false => rw [hemp] at hp; cases hp
            | true =>
              rw [hemp, if_pos rfl, List.mem_singleton] at hp
              subst hp
              have : i.2.1 = [] := List.isEmpty_iff.mp hemp
              rw [this] at hR
              exact ⟨_, hR⟩
        · intro j hj
          rcases List.mem_append.mp hj with hj | hj
          · exact b2 j (List.mem_append_left _ hj)
          · obtain ⟨x, hx, rfl⟩ := List.mem_map.mp hj
            obtain ⟨q1, q2, _⟩ := frs_free hw hx
            exact hR.snoc q1 q2
        · rw [List.length_append, wtS_app]
          split <;> simp <;> omega
        · show (((L1 ++ nexts w i).map (itD w)).map wtD).sum < (((L1 ++ [i]).map (itD w)).map wtD).sum
          rw [wtD_it, wtD_it, wtS_app, wtS_app, e1]
          omega)
    (gW ps0.length) [some (.dat Y), some (.obj (.lst [])), some (.obj (.lst [itD w ([], ps0, ts0)])), none, none, none] ⟨[], [([], ps0, ts0)], none, none, ⟨by simp, fun i hi => by
      rw [List.mem_singleton] at hi
      subst hi
      exact .nil, by simp [wtS, wtI]⟩, rfl⟩ (by
      show (([([], ps0, ts0)].map (itD w)).map wtD).sum ≤ _
      rw [wtD_it]
      simp [wtS, wtI])
  exact ⟨Fd, x3, x4, a1, a2, mWhile_some e⟩
theorem alike_tupS (p q : List Str) : PySem.W.alike (tupS p) (tupS q) = true := by
  have : ∀ p q : List Str, PySem.W.alikeAll (p.map PyData.str) (q.map PyData.str) = true := by
    intro p
    induction p with
    | nil => intro q; simp [PySem.W.alikeAll]
    | cons x p ih =>
      intro q
      cases q with
      | nil => simp [PySem.W.alikeAll]
      | cons y q => simp [PySem.W.alikeAll, PySem.W.alike, ih q]
  simp [tupS, PySem.W.alike, this]
theorem ways_spec (w : Int) {ps : List Pl} {ts : List Ti} (hH : Hall w ps ts) (hn : ps.length ≤ 6) (h1 : ps ≠ []) : ∃ Ws : List (List Str), (∀ p ∈ Ws, ∃ ts', Run w ps ts p [] ts') ∧ Ws.length ≤ 2000 ∧ fm__law_ways [.dat (hallD w ps ts)] = some (.new (.lst (Ws.map tupS)), [.dat (hallD w ps ts)]) := by
  obtain ⟨Fd, x3, x4, a1, a2, lp⟩ := ways_loop w hH hn (hallD w ps ts)
  have ne : ∀ p ∈ Fd, p ≠ [] := fun p hp z => by
    obtain ⟨ts', R⟩ := a1 p hp
    subst z
    cases R
    exact h1 rfl
  have txs : ∀ p ∈ Fd, ∀ x ∈ p, TxOk x := fun p hp => by
    obtain ⟨ts', R⟩ := a1 p hp
    exact R.txs
  obtain ⟨Ws, hp, hs⟩ : ∃ Ws : List (List Str), Ws.Perm Fd ∧ sortedD (.list (Fd.map tupS)) = some (.new (.lst (Ws.map tupS))) := by
    obtain ⟨cs, e1, e2⟩ := perm_map_inv tupS _ Fd (List.mergeSort_perm (Fd.map tupS) (PySem.W.dataLe false id))
    refine ⟨cs, e1, ?_⟩
    rw [e2]
    unfold sortedD
    dsimp only
    have hl' : PyData.canLayAll0 (Fd.map tupS) = true := canLayAll_of fun d hd => by
      obtain ⟨p, hp, rfl⟩ := List.mem_map.mp hd
      refine lay_tup fun d hd => ?_
      obtain ⟨x, hx, rfl⟩ := List.mem_map.mp hd
      exact txs p hp x hx
    have hd' : ∀ d ∈ Fd.map tupS, d.depth ≤ 62 := fun d hd => by
      obtain ⟨p, hp, rfl⟩ := List.mem_map.mp hd
      refine Nat.le_trans (depth_tup (k := 0) fun d hd => ?_) (by decide)
      obtain ⟨x, hx, rfl⟩ := List.mem_map.mp hd
      simp [PyData.depth]
    have hsrt : PySem.W.Sortable (Fd.map tupS) := .inl fun d hd => by
      obtain ⟨p, hp, rfl⟩ := List.mem_map.mp hd
      cases p with
      | nil => exact absurd rfl (ne _ hp)
      | cons x r => exact ⟨_, _, rfl⟩
    rw [if_pos ⟨PySem.W.AllAlike.of alike_tupS, hsrt, hl', by rw [List.length_map]; exact Nat.le_of_lt (few (by omega)), hd'⟩]
  refine ⟨Ws, fun p hq => a1 p (hp.mem_iff.mp hq), by rw [hp.length_eq]; exact a2, ?_⟩
  have s1 : mPar2 1 2 (mLst mNil) (mLst (mCons (mTup (mCons (mTup mNil) (mCons (mVar 0) mNil))) mNil)) [some (.dat (hallD w ps ts)), none, none, none, none, none] = some (.next, [some (.dat (hallD w ps ts)), some (.obj (.lst [])), some (.obj (.lst [itD w ([], ps, ts)])), none, none, none]) := rfl
  have s3 : mRet (mOp1 sortedD (mVar 1)) [some (.dat (hallD w ps ts)), some (.obj (.lst (Fd.map tupS))), some (.obj (.lst [])), od x3, od x4, none] = some (.ret (.new (.lst (Ws.map tupS))), [some (.dat (hallD w ps ts)), some (.obj (.lst (Fd.map tupS))), some (.obj (.lst [])), od x3, od x4, none]) := by
    generalize hallD w ps ts = HH
    simp [mRet, mOp1, mPure, mCons, mVar, mNil, frz1, looks, lookS, f1, hs]
  have all := (seq_next s1).trans ((seq_next lp).trans s3)
  unfold fm__law_ways m__law_ways runF
  generalize (mSeq (mPar2 1 2 (mLst mNil) _) _) = MM at all ⊢
  generalize hallD w ps ts = HH at *
  simp [okArgs, Mw.em, all, finF, outR, outA]
end Kx

set_option Elab.async false
set_option linter.all false
set_option maxRecDepth 100000
set_option autoImplicit false
namespace Kx
open PySem PySem.Spec PyProof.Rows L2 Mw
theorem glass_at (i : Nat) (w a b c : Int) (rest : En) (hw : (some (box a b c) :: rest)[i]? = some (some (.dat (.int w)))) : ∃ g a' c', mCall [] fm__law_round (mCons (mVar i) (mCons (mOp2 subD (mCall [0] fm__law_take (mCons (mVar 0) (mCons (mC (.int 60)) mNil))) (mC (.int 20))) mNil)) (some (box a b c) :: rest) = some (.dat (.int (cnt w g)), some (box a' b c') :: rest) := by
  obtain ⟨r, a1, c1, t, _, _⟩ := take_c a b c 60 rest (by decide) (by decide)
  refine ⟨r - 20, a1, c1, ?_⟩
  have h2 := op2_ev (f := subD) t rfl (show mC (.int 20) (some (box a1 b c1) :: rest) = some (.dat (.int 20), some (box a1 b c1) :: rest) from rfl) rfl (sub_int r 20)
  have hv : mVar i (some (box a b c) :: rest) = some (.dat (.int w), some (box a b c) :: rest) := by
    unfold mVar
    rw [hw]
  have hc : mCons (mVar i) (mCons (mOp2 subD (mCall [0] fm__law_take (mCons (mVar 0) (mCons (mC (.int 60)) mNil))) (mC (.int 20))) mNil) (some (box a b c) :: rest) = some ([.dat (.int w), .dat (.int (r - 20))], some (box a1 b c1) :: rest) := by
    simp only [mCons, hv, h2, mNil, frz1]
  exact call_of hc (round_spec w (r - 20))
theorem any_loop (w b : Int) (A N : PyData) : ∀ (xs : List Str) (acc : List PyData) (a c : Int), ∃ (ps : List Pl) (a' c' : Int), ps.map (·.1) = xs ∧ (∀ p ∈ ps, PlOk w p) ∧ loopC [5] (gN 5) mYes (mTup (mCons (mVar 5) (mCons (mCall [0] fm__law_take (mCons (mVar 0) (mCons (mC (.int 2)) mNil))) (mCons (mCall [] fm__law_round (mCons (mVar 2) (mCons (mOp2 subD (mCall [0] fm__law_take (mCons (mVar 0) (mCons (mC (.int 60)) mNil))) (mC (.int 20))) mNil))) mNil)))) (xs.map PyData.str) acc [some (box a b c), some (.dat A), some (.dat (.int w)), some (.dat N), none, none]
    = some (acc ++ ps.map plD, [some (box a' b c'), some (.dat A), some (.dat (.int w)), some (.dat N), none, none])
  | [], acc, a, c => ⟨[], a, c, rfl, (fun p hp => nomatch hp), by simp [loopC]⟩
  | x :: xs, acc, a, c => by
    obtain ⟨f, a1, c1, t1, hf0, hf1⟩ := take_c a b c 2 [some (.dat A), some (.dat (.int w)), some (.dat N), none, some (.dat (.str x))] (by decide) (by decide)
    obtain ⟨g, a2, c2, t2⟩ := glass_at 2 w a1 b c1 [some (.dat A), some (.dat (.int w)), some (.dat N), none, some (.dat (.str x))] rfl
    have e : mTup (mCons (mVar 5) (mCons (mCall [0] fm__law_take (mCons (mVar 0) (mCons (mC (.int 2)) mNil))) (mCons (mCall [] fm__law_round (mCons (mVar 2) (mCons (mOp2 subD (mCall [0] fm__law_take (mCons (mVar 0) (mCons (mC (.int 60)) mNil))) (mC (.int 20))) mNil))) mNil))) [some (box a b c), some (.dat A), some (.dat (.int w)), some (.dat N), none, some (.dat (.str x))] = some (.dat (plD (x, f, cnt w g)), [some (box a2 b c2), some (.dat A), some (.dat (.int w)), some (.dat N), none, some (.dat (.str x))]) := by
      generalize (mCall [] fm__law_round (mCons (mVar 2) (mCons (mOp2 subD (mCall [0] fm__law_take (mCons (mVar 0) (mCons (mC (.int 60)) mNil))) (mC (.int 20))) mNil))) = M2 at t2 ⊢
      generalize (mCall [0] fm__law_take (mCons (mVar 0) (mCons (mC (.int 2)) mNil))) = M1 at t1 ⊢
      simp [mTup, mCons, mVar, t1, t2, frz1, mNil, escAll, esc, plD]
    obtain ⟨ps, a3, c3, h1, h2, h3⟩ := any_loop w b A N xs (acc ++ [plD (x, f, cnt w g)]) a2 c2
    refine ⟨(x, f, cnt w g) :: ps, a3, c3, by rw [List.map_cons, h1], fun p hp => ?_, ?_⟩
    · rcases List.mem_cons.mp hp with rfl | hp
      · exact ⟨by dsimp only; omega, g, rfl⟩
      · exact h2 p hp
    · rw [List.map_cons, List.map_cons]
      have st : loopC [5] (gN 5) mYes (mTup (mCons (mVar 5) (mCons (mCall [0] fm__law_take (mCons (mVar 0) (mCons (mC (.int 2)) mNil))) (mCons (mCall [] fm__law_round (mCons (mVar 2) (mCons (mOp2 subD (mCall [0] fm__law_take (mCons (mVar 0) (mCons (mC (.int 60)) mNil))) (mC (.int 20))) mNil))) mNil)))) (.str x :: xs.map PyData.str) acc [some (box a b c), some (.dat A), some (.dat (.int w)), some (.dat N), none, none] = loopC [5] (gN 5) mYes (mTup (mCons (mVar 5) (mCons (mCall [0] fm__law_take (mCons (mVar 0) (mCons (mC (.int 2)) mNil))) (mCons (mCall [] fm__law_round (mCons (mVar 2) (mCons (mOp2 subD (mCall [0] fm__law_take (mCons (mVar 0) (mCons (mC (.int 60)) mNil))) (mC (.int 20))) mNil))) mNil)))) (xs.map PyData.str) (acc ++ [plD (x, f, cnt w g)]) [some (box a2 b c2), some (.dat A), some (.dat (.int w)), some (.dat N), none, none] := by
        generalize (mTup (mCons (mVar 5) (mCons (mCall [0] fm__law_take (mCons (mVar 0) (mCons (mC (.int 2)) mNil))) (mCons (mCall [] fm__law_round (mCons (mVar 2) (mCons (mOp2 subD (mCall [0] fm__law_take (mCons (mVar 0) (mCons (mC (.int 60)) mNil))) (mC (.int 20))) mNil))) mNil)))) = M at e ⊢
        simp [loopC, gN, mYes, e, toD, frz1, esc, wipeE]
      rw [st, h3, List.append_assoc]
      rfl
theorem any_spec (a b c : Int) (n : Nat) (hn : n ≤ 26) : ∃ (w : Int) (ps : List Pl) (ts : List Ti) (a' b' c' : Int), Hall w ps ts ∧ ps.length = n ∧ fm__law_any_yard [box a b c, .dat (.int n)] = some (.dat (hallD w ps ts), [box a' b' c', .dat (.int n)]) := by
  obtain ⟨r, a1, c1, t1, hr0, hr1⟩ := take_c a b c 7 [some (.dat (.int n)), none, none, none, none] (by decide) (by decide)
  obtain ⟨r', rfl⟩ := Int.eq_ofNat_of_zero_le hr0
  obtain ⟨w, p1⟩ : ∃ w : Int, mSub (mLst (mCons (mC (.int 0)) (mCons (mC (.int 1)) (mCons (mC (.int 2)) (mCons (mC (.int 3)) (mCons (mC (.int 5)) (mCons (mC (.int 12)) (mCons (mC (.int 60)) mNil)))))))) (mCall [0] fm__law_take (mCons (mVar 0) (mCons (mC (.int 7)) mNil))) [some (box a b c), some (.dat (.int n)), none, none, none, none]
      = some (.dat (.int w), [some (box a1 b c1), some (.dat (.int n)), none, none, none, none]) := by
    have h := sub_new (ma := mLst (mCons (mC (.int 0)) (mCons (mC (.int 1)) (mCons (mC (.int 2)) (mCons (mC (.int 3)) (mCons (mC (.int 5)) (mCons (mC (.int 12)) (mCons (mC (.int 60)) mNil)))))))) (ds := [.int 0, .int 1, .int 2, .int 3, .int 5, .int 12, .int 60]) rfl t1 (show r' < 7 by omega)
    rw [h]
    have hr' : r' = 0 ∨ r' = 1 ∨ r' = 2 ∨ r' = 3 ∨ r' = 4 ∨ r' = 5 ∨ r' = 6 := by omega
    rcases hr' with rfl | rfl | rfl | rfl | rfl | rfl | rfl <;> exact ⟨_, rfl⟩
  obtain ⟨names, a2, b2, c2, hlen, nd, tx, hcall⟩ := callings_spec a1 b c1 n hn
  have p2 := callB_ev (ρ := [some (box a1 b c1), some (.dat (.int n)), none, none, none, none]) (m := mVar 1) rfl rfl hcall
  have s1 := par2_dn (i := 2) (j := 3) p1 p2 (by simp)
  obtain ⟨ps, a3, c3, hps, hok, l2⟩ := any_loop w b2 (.int n) (.list (names.map PyData.str)) names [] a2 c2
  rw [List.nil_append] at l2
  have i2 : iE (mVar 3) [some (box a2 b2 c2), some (.dat (.int n)), some (.dat (.int w)), some (.obj (.lst (names.map PyData.str))), none, none] = some (names.map PyData.str, [some (box a2 b2 c2), some (.dat (.int n)), some (.dat (.int w)), some (.dat (.list (names.map PyData.str))), none, none]) := rfl
  have s2 := set_new (i := 4) (lc_ev (vs := [5]) i2 (by rw [List.length_map]; omega) rfl rfl l2 rfl) (by simp [restE])
  obtain ⟨ts, a4, b4, c4, hT, hlk⟩ := links_spec names nd tx (by omega) w 8 (by decide) (by decide) a3 b2 c3
  have hpl : ps.length = names.length := by rw [← hps, List.length_map]
  have htx : ∀ p ∈ ps, TxOk p.1 := fun p hp => tx _ (by rw [← hps]; exact List.mem_map.mpr ⟨p, hp, rfl⟩)
  obtain ⟨cs, hp, hs⟩ := sorted_ev plD ps alike_pl (fun b => ⟨_, _, rfl⟩) (fun p hq => lay_pl (htx p hq)) depth_pl (Nat.le_of_lt (few (by omega)))
  have s3 : mRet (mTup (mCons (mVar 2) (mCons (mOp1 tupleD (mOp1 sortedD (mVar 4))) (mCons (mOp1 tupleD (mCall [0] fm__law_links (mCons (mVar 0) (mCons (mVar 2) (mCons (mVar 3) (mCons (mC (.int 8)) mNil)))))) mNil)))) [some (box a3 b2 c3), some (.dat (.int n)), some (.dat (.int w)), some (.dat (.list (names.map PyData.str))), some (.obj (.lst (ps.map plD))), none]
      = some (.ret (.dat (hallD w cs ts)), [some (box a4 b4 c4), some (.dat (.int n)), some (.dat (.int w)), some (.dat (.list (names.map PyData.str))), some (.obj (.lst (ps.map plD))), none]) := by
    have k : mCall [0] fm__law_links (mCons (mVar 0) (mCons (mVar 2) (mCons (mVar 3) (mCons (mC (.int 8)) mNil)))) [some (box a3 b2 c3), some (.dat (.int n)), some (.dat (.int w)), some (.dat (.list (names.map PyData.str))), some (.obj (.lst (ps.map plD))), none] = some (.new (.lst (ts.map tiD)), [some (box a4 b4 c4), some (.dat (.int n)), some (.dat (.int w)), some (.dat (.list (names.map PyData.str))), some (.obj (.lst (ps.map plD))), none]) := by
      generalize (.list (names.map PyData.str) : PyData) = NN at *
      simp [mCall, mCons, mVar, mC, mNil, frz1, escB, esc, argsOf, slotsOf, hlk, putBack]
    generalize mCall [0] fm__law_links (mCons (mVar 0) (mCons (mVar 2) (mCons (mVar 3) (mCons (mC (.int 8)) mNil)))) = M at k ⊢
    simp [mRet, mTup, mCons, mVar, mNil, mOp1, mPure, frz1, looks, lookS, f1, tupleD, hs, k, escAll, esc, hallD]
  refine ⟨w, cs, ts, a4, b4, c4, ⟨⟨?_, fun p hq => htx p (hp.mem_iff.mp hq), fun t ht => ⟨tx _ (hT.mem t ht).1, tx _ (hT.mem t ht).2.1⟩, fun t ht => (hT.mem t ht).2.2, hT.ap, by rw [hp.length_eq]; omega, by have := hT.len; omega⟩, fun p hq => hok p (hp.mem_iff.mp hq), fun t ht => ?_, hT.wood⟩, by rw [hp.length_eq]; omega, ?_⟩
  · rw [(hp.map (·.1)).nodup_iff, hps]
    exact nd
  · rw [(hp.map (·.1)).mem_iff, (hp.map (·.1)).mem_iff, hps]
    exact ⟨(hT.mem t ht).1, (hT.mem t ht).2.1⟩
  · have all := (seq_next s1).trans ((seq_next s2).trans s3)
    unfold fm__law_any_yard m__law_any_yard runF
    generalize (mSeq (mPar2 2 3 _ _) _) = MM at all ⊢
    simp [okArgs, Mw.em, all, finF, outR, outA]
end Kx

set_option Elab.async false
set_option linter.all false
set_option maxRecDepth 100000
set_option autoImplicit false
namespace Kx
open PySem PySem.Spec PyProof.Rows L2 Mw
/-! ### lights that are left -/
/-- sums over any list -/
def sl {α : Type} (l : List α) (f : α → Nat) : Nat := (l.map f).sum
theorem sl_cons {α : Type} (x : α) (l : List α) (f : α → Nat) : sl (x :: l) f = f x + sl l f := rfl
theorem sl_zero {α : Type} (l : List α) : sl l (fun _ => 0) = 0 := by
  induction l with
  | nil => rfl
  | cons x l ih => rw [sl_cons, ih]
theorem sl_add {α : Type} (l : List α) (f g : α → Nat) : sl l (fun x => f x + g x) = sl l f + sl l g := by
  induction l with
  | nil => rfl
  | cons x l ih =>
    rw [sl_cons, sl_cons, sl_cons, ih]
    omega
theorem sl_congr {α : Type} {l : List α} {f g : α → Nat} (h : ∀ x ∈ l, f x = g x) : sl l f = sl l g := by
  unfold sl
  rw [List.map_congr_left h]
theorem sl_swap {α β : Type} (l : List α) (k : List β) (f : α → β → Nat) : sl l (fun x => sl k (f x)) = sl k (fun y => sl l (fun x => f x y)) := by
  induction l with
  | nil =>
    show 0 = sl k (fun _ => 0)
    rw [sl_zero]
  | cons x l ih =>
    rw [sl_cons, ih, ← sl_add]
    rfl
theorem sl_filter {α : Type} (l : List α) (p : α → Bool) : sl l (fun y => ind (p y)) = (l.filter p).length := by
  induction l with
  | nil => rfl
  | cons x l ih =>
    rw [sl_cons, ih, List.filter_cons]
    cases p x <;> simp [ind]
    omega
theorem sl_at {ps : List Pl} (nd : (ps.map (·.1)).Nodup) (q : Str → Bool) (z : Str) : sl ps (fun p => ind (decide (p.1 = z) && q p.1)) = ind (decide (z ∈ ps.map (·.1)) && q z) := by
  induction ps with
  | nil => simp [sl, ind]
  | cons p ps ih =>
    rw [List.map_cons, List.nodup_cons] at nd
    rw [sl_cons, ih nd.2]
    by_cases e : p.1 = z
    · subst e
      simp [ind, nd.1]
    · have e' : ¬ z = p.1 := fun h => e h.symm
      have hm : decide (z ∈ (p :: ps).map (·.1)) = decide (z ∈ ps.map (·.1)) := decide_eq_decide.mpr (by
        rw [List.map_cons, List.mem_cons]
        exact ⟨fun h => h.resolve_left e', .inr⟩)
      rw [hm, decide_eq_false e]
      simp [ind]
/-- how many of the row a place is tied to, by ties -/
theorem deg_eq {ts : List Ti} (ha : ts.Pairwise Apart) (hn : ∀ t ∈ ts, t.1 ≠ t.2.1) {path : List Str} (nd : path.Nodup) (x : Str) (hx : x ∉ path) : (gls ts path x).length = sl ts (fun t => ind (decide (t.1 = x) && decide (t.2.1 ∈ path)) + ind (decide (t.2.1 = x) && decide (t.1 ∈ path))) := by
  rw [gls_len]
  have h1 : (path.filter fun y => (adj ts y x).isSome).length = sl path (fun y => sl ts (fun t => ind (between y x t))) := by
    rw [← sl_filter]
    refine sl_congr fun y _ => ?_
    rw [sl_filter]
    cases e : adj ts y x with
    | none =>
      have : ts.filter (between y x) = [] := by
        rw [List.filter_eq_nil_iff]
        intro t ht hb
        have := (adj_some ha).mpr ⟨t, ht, hb, rfl⟩
        rw [e] at this
        cases this
      rw [this]
      rfl
    | some g =>
      obtain ⟨t, ht, hb, _⟩ := (adj_some ha).mp e
      have : (ts.filter (between y x)).length = 1 := by
        have hm : t ∈ ts.filter (between y x) := List.mem_filter.mpr ⟨ht, hb⟩
        have un : ∀ s ∈ ts.filter (between y x), s = t := fun s hs => apart_uniq ha (List.mem_filter.mp hs).1 ht (List.mem_filter.mp hs).2 hb
        have ndf : (ts.filter (between y x)).Pairwise Apart := ha.filter _
        cases hl : ts.filter (between y x) with
        | nil => rw [hl] at hm; cases hm
        | cons a r =>
          cases r with
          | nil => rfl
          | cons b r =>
            rw [hl] at un ndf
            have ea := un a (by simp)
            have eb := un b (by simp)
            have := List.rel_of_pairwise_cons ndf (List.mem_cons_self : b ∈ b :: r)
            rw [ea, eb] at this
            exact absurd (.inl ⟨rfl, rfl⟩) this
      rw [this]
      rfl
  rw [h1, sl_swap]
  refine sl_congr fun t ht => ?_
  have hne := hn t ht
  have key : ∀ z : Str, sl path (fun y => ind (decide (y = z))) = ind (decide (z ∈ path)) := fun z => sm_eq nd z
  by_cases e1 : t.1 = x
  · have e2 : ¬ t.2.1 = x := fun h => hne (e1.trans h.symm)
    have : sl path (fun y => ind (between y x t)) = sl path (fun y => ind (decide (y = t.2.1))) := sl_congr fun y hy => by
      have hyx : ¬ y = x := fun h => hx (h ▸ hy)
      congr 1
      unfold between
      refine decide_eq_decide.mpr ?_
      constructor
      · rintro (⟨q1, q2⟩ | ⟨q1, q2⟩)
        · exact absurd q2 e2
        · exact q2.symm
      · intro q
        exact .inr ⟨e1, q.symm⟩
    rw [this, key]
    simp [ind, e1, e2]
  · by_cases e2 : t.2.1 = x
    · have : sl path (fun y => ind (between y x t)) = sl path (fun y => ind (decide (y = t.1))) := sl_congr fun y hy => by
        congr 1
        unfold between
        refine decide_eq_decide.mpr ?_
        constructor
        · rintro (⟨q1, q2⟩ | ⟨q1, q2⟩)
          · exact q1.symm
          · exact absurd q1 e1
        · intro q
          exact .inl ⟨q.symm, e2⟩
      rw [this, key]
      simp [ind, e1, e2]
    · have : sl path (fun y => ind (between y x t)) = sl path (fun _ => 0) := sl_congr fun y hy => by
        unfold between
        simp [ind, e1, e2]
      rw [this, sl_zero]
      simp [ind, e1, e2]
/-- the ties of which just one end went -/
def sev (ts : List Ti) (path : List Str) : Nat := (ts.filter fun t => decide (t.1 ∈ path) != decide (t.2.1 ∈ path)).length
theorem sev_eq {ps : List Pl} {ts : List Ti} (hwf : WF ps ts) (hm : ∀ t ∈ ts, t.1 ∈ ps.map (·.1) ∧ t.2.1 ∈ ps.map (·.1)) {path : List Str} (nd : path.Nodup) : sl (ps.filter fun p => decide (p.1 ∉ path)) (fun p => (gls ts path p.1).length) = sev ts path := by
  have h1 : sl (ps.filter fun p => decide (p.1 ∉ path)) (fun p => (gls ts path p.1).length) = sl (ps.filter fun p => decide (p.1 ∉ path)) (fun p => sl ts (fun t => ind (decide (t.1 = p.1) && decide (t.2.1 ∈ path)) + ind (decide (t.2.1 = p.1) && decide (t.1 ∈ path)))) := sl_congr fun p hp => by
    have := (List.mem_filter.mp hp).2
    exact deg_eq hwf.ap hwf.ne nd p.1 (by simpa using this)
  rw [h1, sl_swap]
  unfold sev
  rw [← sl_filter]
  refine sl_congr fun t ht => ?_
  have ndf : ((ps.filter fun p => decide (p.1 ∉ path)).map (·.1)).Nodup := List.Nodup.sublist (List.Sublist.map _ List.filter_sublist) hwf.nd
  have key : ∀ (z : Str) (b : Bool), z ∈ ps.map (·.1) → sl (ps.filter fun p => decide (p.1 ∉ path)) (fun p => ind (decide (z = p.1) && b)) = ind (decide (z ∉ path) && b) := by
    intro z b hz
    have e1 : sl (ps.filter fun p => decide (p.1 ∉ path)) (fun p => ind (decide (z = p.1) && b)) = sl (ps.filter fun p => decide (p.1 ∉ path)) (fun p => ind (decide (p.1 = z) && (fun _ => b) p.1)) := sl_congr fun p _ => by
      congr 2
      exact decide_eq_decide.mpr eq_comm
    refine e1.trans ((sl_at ndf (fun _ => b) z).trans ?_)
    congr 2
    refine decide_eq_decide.mpr ?_
    obtain ⟨p, hp, rfl⟩ := List.mem_map.mp hz
    constructor
    · intro h
      obtain ⟨q, hq, e⟩ := List.mem_map.mp h
      have := (List.mem_filter.mp hq).2
      rw [← e]
      simpa using this
    · intro h
      exact List.mem_map.mpr ⟨p, List.mem_filter.mpr ⟨hp, by simpa using h⟩, rfl⟩
  rw [sl_add, key t.1 _ (hm t ht).1, key t.2.1 _ (hm t ht).2]
  by_cases a1 : t.1 ∈ path <;> by_cases a2 : t.2.1 ∈ path <;> simp [ind, a1, a2]
end Kx

set_option Elab.async false
set_option linter.all false
set_option maxRecDepth 100000
set_option autoImplicit false
namespace Kx
open PySem PySem.Spec PyProof.Rows L2 Mw
theorem sl_part {α : Type} (l : List α) (p : α → Bool) (f : α → Nat) : sl l f = sl (l.filter p) f + sl (l.filter fun x => !p x) f := by
  induction l with
  | nil => rfl
  | cons x l ih =>
    rw [sl_cons, ih, List.filter_cons, List.filter_cons]
    cases p x <;> simp [sl_cons] <;> omega
theorem sl_perm {α : Type} {l k : List α} (h : l.Perm k) (f : α → Nat) : sl l f = sl k f := by
  unfold sl
  exact (h.map f).sum_nat
theorem sl_map {α β : Type} (g : α → β) (l : List α) (f : β → Nat) : sl (l.map g) f = sl l (fun x => f (g x)) := by
  unfold sl
  rw [List.map_map]
  rfl
theorem sl_mod {α : Type} (l : List α) (f : α → Nat) : sl l f % 2 = sl l (fun x => f x % 2) % 2 := by
  induction l with
  | nil => rfl
  | cons x l ih =>
    rw [sl_cons, sl_cons]
    omega
def fN (p : Pl) : Nat := p.2.1.toNat
theorem faceN_of {ps : List Pl} (nd : (ps.map (·.1)).Nodup) {p : Pl} (hp : p ∈ ps) : faceN ps p.1 = fN p := by
  unfold faceN fN
  rw [cardOf_of_mem nd hp]
/-- the lights that are left and the ties that went tell one another -/
theorem rows_even {w : Int} {ps ps' : List Pl} {ts ts' : List Ti} {path : List Str} (hH : Hall w ps ts) (R : Run w ps ts path ps' ts') : (sl ps fN + sev ts path) % 2 = (sm path (faceN ps) + sl ps' fN) % 2 := by
  have nd := R.nodup hH
  have hwf := hH.wf
  have sub : ∀ x ∈ path, x ∈ ps.map (·.1) := by
    intro x hx
    obtain ⟨pre, post, e, _, _⟩ := split_at hx
    obtain ⟨p, hp, rfl, _, _⟩ := R.face hH e
    exact List.mem_map.mpr ⟨p, hp, rfl⟩
  have h1 := sl_part ps (fun p => decide (p.1 ∈ path)) fN
  have h2 : sl (ps.filter fun p => decide (p.1 ∈ path)) fN = sm path (faceN ps) := by
    have e1 : sl (ps.filter fun p => decide (p.1 ∈ path)) fN = sl ((ps.filter fun p => decide (p.1 ∈ path)).map (·.1)) (faceN ps) := by
      rw [sl_map]
      refine sl_congr fun p hp => ?_
      exact (faceN_of hwf.nd (List.mem_filter.mp hp).1).symm
    rw [e1]
    refine sl_perm ((List.perm_ext_iff_of_nodup (List.Nodup.sublist (List.Sublist.map _ List.filter_sublist) hwf.nd) nd).mpr fun x => ?_) _
    constructor
    · intro h
      obtain ⟨p, hp, rfl⟩ := List.mem_map.mp h
      simpa using (List.mem_filter.mp hp).2
    · intro h
      obtain ⟨p, hp, rfl⟩ := List.mem_map.mp (sub x h)
      exact List.mem_map.mpr ⟨p, List.mem_filter.mpr ⟨hp, by simpa using h⟩, rfl⟩
  have h3 : (ps.filter fun x => !decide (x.1 ∈ path)) = ps.filter fun p => decide (p.1 ∉ path) := by
    congr 1
    funext p
    simp
  rw [h3] at h1
  have h4 : sl ps' fN = sl (ps.filter fun p => decide (p.1 ∉ path)) (fun p => (fN p + (gls ts path p.1).length) % 2) := by
    rw [R.now.1]
    unfold psAt
    rw [sl_map]
    refine sl_congr fun p hp => ?_
    obtain ⟨hf, m, hm⟩ := hH.ok p (List.mem_filter.mp hp).1
    have e := tns_eq w ts path p.1 p.2.1 p.2.2 m hm
    rw [face_eq p.2.1 hf] at e
    have e' : path.foldl (tn w ts) p = (p.1, (p.2.1 + ((gls ts path p.1).length : Int)).fmod 2, cnt w (alt m (gls ts path p.1))) := e
    unfold fN
    rw [e']
    dsimp only
    rw [Int.fmod_eq_emod_of_nonneg _ (by decide)]
    omega
  have h5 := sl_mod (ps.filter fun p => decide (p.1 ∉ path)) (fun p => fN p + (gls ts path p.1).length)
  have h6 := sl_add (ps.filter fun p => decide (p.1 ∉ path)) fN (fun p => (gls ts path p.1).length)
  rw [sev_eq hwf hH.mem nd] at h6
  rw [h2] at h1
  omega
/-! ### what the law looks at -/
theorem in_strs {x : Str} {xs : List Str} (hx : TxOk x) (hxs : ∀ y ∈ xs, TxOk y) : inD false (.str x) (.tuple (xs.map PyData.str)) = some (.dat (.bool (decide (x ∈ xs)))) := by
  have h1 : PyData.canLayAll0 (xs.map PyData.str) = true := canLayAll_of fun d hd => by
    obtain ⟨y, hy, rfl⟩ := List.mem_map.mp hd
    exact hxs y hy
  have h2 : SeqAt.shaped (.tuple (xs.map PyData.str)) = true := by
    simp [SeqAt.shaped, PyData.canLay0, h1, PyData.depth, depth_strs]
  unfold inD
  simp only [shaped_str hx, h2, Bool.and_self, if_true]
  have : ((xs.map PyData.str).any fun z => PyData.eqv z (.str x)) = decide (x ∈ xs) := by
    clear h1 h2 hxs
    induction xs with
    | nil => rfl
    | cons y r ih =>
      rw [List.map_cons, List.any_cons, ih]
      by_cases e : y = x
      · subst e
        simp [PyData.eqv]
      · have e' : ¬ x = y := fun h => e h.symm
        simp [PyData.eqv, e, e']
  rw [this]
  rfl
theorem eqv_ti (s t : Ti) : PyData.eqv (tiD s) (tiD t) = decide (s = t) := by
  obtain ⟨a, b, c⟩ := s
  obtain ⟨a', b', c'⟩ := t
  simp only [tiD, PyData.eqv, PyData.eqvAll, Bool.and_true]
  by_cases h1 : a = a' <;> by_cases h2 : b = b' <;> by_cases h3 : c = c' <;> simp [h1, h2, h3]
theorem notIn_ties {t : Ti} {ts : List Ti} (ht : TxOk t.1 ∧ TxOk t.2.1) (hts : ∀ s ∈ ts, TxOk s.1 ∧ TxOk s.2.1) : inD true (tiD t) (.tuple (ts.map tiD)) = some (.dat (.bool (decide (t ∉ ts)))) := by
  have h0 : SeqAt.shaped (tiD t) = true := by
    have := lay_ti ht.1 ht.2
    simp [SeqAt.shaped, this, tiD, PyData.depth, PyData.depthAll] at this ⊢
  have h1 : PyData.canLayAll0 (ts.map tiD) = true := canLayAll_of fun d hd => by
    obtain ⟨y, hy, rfl⟩ := List.mem_map.mp hd
    exact lay_ti (hts y hy).1 (hts y hy).2
  have h3 : PyData.depthAll (ts.map tiD) ≤ 1 := depthAll_le fun d hd => by
    obtain ⟨y, hy, rfl⟩ := List.mem_map.mp hd
    simp [tiD, PyData.depth, PyData.depthAll]
  have h2 : SeqAt.shaped (.tuple (ts.map tiD)) = true := by
    simp [SeqAt.shaped, PyData.canLay0, h1, PyData.depth]
    omega
  have hany : ((ts.map tiD).any fun z => PyData.eqv z (tiD t)) = decide (t ∈ ts) := by
    clear h1 h2 h3 hts
    induction ts with
    | nil => rfl
    | cons y r ih =>
      rw [List.map_cons, List.any_cons, ih, eqv_ti]
      by_cases e : y = t
      · subst e
        simp
      · have e' : ¬ t = y := fun h => e h.symm
        simp [e, e']
  have hu : ∀ D : PyData, D = tiD t → inD true D (.tuple (ts.map tiD)) = some (.dat (.bool (decide (t ∉ ts)))) := by
    intro D hD
    have hs : SeqAt.shaped D = true := hD ▸ h0
    have ha : ((ts.map tiD).any fun z => PyData.eqv z D) = decide (t ∈ ts) := hD ▸ hany
    cases D with
    | tuple l =>
      simp only [inD, hs, h2, Bool.and_self, if_true, ha]
      simp
    | _ => cases hD
  exact hu _ rfl
/-- how many of those ahead in the row a place is tied to, by its neighbours -/
theorem ahead_len {ts : List Ti} (ha : ts.Pairwise Apart) (hn : ∀ t ∈ ts, t.1 ≠ t.2.1) {x : Str} {cs : List Pr} (hp : cs.Perm (besideL ts x)) {pre : List Str} (nd : pre.Nodup) : (cs.filter fun c => decide (c.1 ∈ pre)).length = (gls ts pre x).length := by
  rw [gls_len]
  have e1 : (cs.filter fun c => decide (c.1 ∈ pre)).length = ((cs.map (·.1)).filter fun y => decide (y ∈ pre)).length := by
    rw [List.filter_map, List.length_map]
    rfl
  rw [e1]
  have ndc : (cs.map (·.1)).Nodup := (hp.map _).nodup_iff.mpr (beside_nd ha hn x)
  refine List.Perm.length_eq ((List.perm_ext_iff_of_nodup (ndc.filter _) (nd.filter _)).mpr fun y => ?_)
  rw [List.mem_filter, List.mem_filter, decide_eq_true_eq, adj_isSome ha]
  constructor
  · rintro ⟨h1, h2⟩
    obtain ⟨c, hc, rfl⟩ := List.mem_map.mp h1
    obtain ⟨t, ht, hb, _⟩ := mem_beside.mp (hp.mem_iff.mp hc)
    exact ⟨h2, Adj.symm ⟨t, ht, hb⟩⟩
  · rintro ⟨h1, h2⟩
    obtain ⟨t, ht, hb⟩ := Adj.symm h2
    exact ⟨List.mem_map.mpr ⟨(y, t.2.2), hp.mem_iff.mpr (mem_beside.mpr ⟨t, ht, hb, rfl⟩), rfl⟩, h1⟩
end Kx

set_option Elab.async false
set_option linter.all false
set_option maxRecDepth 100000
set_option autoImplicit false
namespace Kx
open PySem PySem.Spec PyProof.Rows L2 Mw
theorem faces_loop (Y T : PyData) (ps : List Pl) : loopC [4, 10, 11] (gT 3 (gsCons (gN 4) (gsCons (gN 10) (gsCons (gN 11) gsNil)))) mYes (mTup (mCons (mVar 4) (mCons (mVar 10) mNil))) (ps.map plD) [] [some (.dat Y), some (.dat T), none, none, none, none, none, none, none, none, none, none, none, none, none, none]
    = some ((ps.map fun p => (p.1, p.2.1)).map prD, [some (.dat Y), some (.dat T), none, none, none, none, none, none, none, none, none, none, none, none, none, none]) := by
  have := loopC_map (vs := [4, 10, 11]) (g := gT 3 (gsCons (gN 4) (gsCons (gN 10) (gsCons (gN 11) gsNil)))) (t := mYes) (me := mTup (mCons (mVar 4) (mCons (mVar 10) mNil))) plD (fun _ => true) (fun p => prD (p.1, p.2.1)) [some (.dat Y), some (.dat T), none, none, none, none, none, none, none, none, none, none, none, none, none, none] ps [] (fun p hp => ⟨_, rfl, .inl ⟨rfl, _, _, _, _, rfl, rfl, rfl, rfl⟩⟩)
  rw [this, List.filter_eq_self.mpr (by simp), List.map_map]
  rfl
theorem faces_val {ps : List Pl} (nd : (ps.map (·.1)).Nodup) {p : Pl} (hp : p ∈ ps) : valP (mergeP [] ((ps.map fun p => (p.1, p.2.1)).map kvD)) (.inr p.1) = some (.int p.2.1) := by
  have nd0 : ((ps.map fun p => (p.1, p.2.1)).map (·.1)).Nodup := by
    rw [List.map_map]
    exact nd
  rw [merge_val p.1 _ nd0]
  have := find_of_mem nd0 (c := (p.1, p.2.1)) (List.mem_map.mpr ⟨p, hp, rfl⟩)
  dsimp only at this
  rw [this]
noncomputable abbrev rowB : MS := (mSeq (mSet 5 (mOp1 lenD (mLc (iE (mCall [] fm__law_beside (mCons (mSub (mVar 0) (mC (.int 2))) (mCons (mVar 4) mNil)))) [12, 13] (gT 2 (gsCons (gN 12) (gsCons (gN 13) gsNil))) (mB (mIn false (mVar 12) (mSl (mVar 1) oNone (oSome (mVar 3))))) (mVar 12)))) (mIfS (mB (mOp2 neD (mOp2 modD (mOp2 addD (mSub (mVar 2) (mVar 4)) (mVar 5)) (mC (.int 2))) (mC (.int 1)))) (mRet (mC (.bool false))) mSkip))
theorem row_turn (w : Int) {ps ps' : List Pl} {ts ts' : List Ti} {path pre post : List Str} {x : Str} (hH : Hall w ps ts) (R : Run w ps ts path ps' ts') (e : path = pre ++ x :: post) (D : List (Key × Pd)) (hD : ∀ p ∈ ps, valP D (.inr p.1) = some (.int p.2.1)) (e5 : Option DV) : ∃ f5, rowB [some (.dat (hallD w ps ts)), some (.dat (tupS path)), some (.obj (.dct D)), some (.dat (.int pre.length)), some (.dat (.str x)), e5, none, none, none, none, none, none, none, none, none, none]
    = some (.next, [some (.dat (hallD w ps ts)), some (.dat (tupS path)), some (.obj (.dct D)), some (.dat (.int pre.length)), some (.dat (.str x)), f5, none, none, none, none, none, none, none, none, none, none]) := by
  obtain ⟨p, hp, hpx, hodd, hnot⟩ := R.face hH e
  have h := hH.wf
  have tx : TxOk x := hpx ▸ h.tx p hp
  have txs := R.txs
  have nd := R.nodup hH
  have ndp : pre.Nodup := by
    rw [e, List.nodup_append] at nd
    exact nd.1
  have txp : ∀ y ∈ pre, TxOk y := fun y hy => txs y (by rw [e]; exact List.mem_append_left _ hy)
  obtain ⟨cs, hc, hb⟩ := beside_spec ts x h.tt tx h.zt (.tuple (ts.map tiD)) (.inr rfl)
  have hcl : cs.length < 10000 := by
    rw [hc.length_eq]
    unfold besideL
    rw [List.length_append, List.length_map, List.length_map]
    have h1 := List.length_filter_le (fun t : Ti => decide (t.1 = x)) ts
    have h2 := List.length_filter_le (fun t : Ti => decide (t.2.1 = x)) ts
    have h3 := h.zt
    omega
  have txc : ∀ c ∈ cs, TxOk c.1 := fun c hcm => by
    obtain ⟨t, ht, hb, _⟩ := mem_beside.mp (hc.mem_iff.mp hcm)
    unfold between at hb
    simp only [decide_eq_true_eq] at hb
    rcases hb with ⟨_, q⟩ | ⟨q, _⟩
    · exact q ▸ (h.tt t ht).2
    · exact q ▸ (h.tt t ht).1
  have hcut : Mw.cutD (path.map PyData.str) none (some (pre.length : Int)) = pre.map PyData.str := by
    rw [cut_take, e, List.map_append, List.take_left' (by simp)]
  have lp : ∀ (Y : PyData) (o2 : OB) (K : Option DV), loopC [12, 13] (gT 2 (gsCons (gN 12) (gsCons (gN 13) gsNil))) (mB (mIn false (mVar 12) (mSl (mVar 1) oNone (oSome (mVar 3))))) (mVar 12) (cs.map prD) [] [some (.dat Y), some (.dat (tupS path)), some (.obj o2), some (.dat (.int pre.length)), some (.dat (.str x)), K, none, none, none, none, none, none, none, none, none, none]
      = some (((cs.filter fun c => decide (c.1 ∈ pre)).map (·.1)).map PyData.str, [some (.dat Y), some (.dat (tupS path)), some (.obj o2), some (.dat (.int pre.length)), some (.dat (.str x)), K, none, none, none, none, none, none, none, none, none, none]) := by
    intro Y o2 K
    have := loopC_map (vs := [12, 13]) (g := gT 2 (gsCons (gN 12) (gsCons (gN 13) gsNil))) (t := mB (mIn false (mVar 12) (mSl (mVar 1) oNone (oSome (mVar 3))))) (me := mVar 12) prD (fun c => decide (c.1 ∈ pre)) (fun c => PyData.str c.1) [some (.dat Y), some (.dat (tupS path)), some (.obj o2), some (.dat (.int pre.length)), some (.dat (.str x)), K, none, none, none, none, none, none, none, none, none, none] cs [] (by
      intro c hcm
      have hin := in_strs (txc c hcm) txp
      have sl : mSl (mVar 1) oNone (oSome (mVar 3)) [some (.dat Y), some (.dat (tupS path)), some (.obj o2), some (.dat (.int pre.length)), some (.dat (.str x)), K, none, none, none, none, none, none, some (.dat (.str c.1)), some (.dat (.int c.2)), none, none] = some (.dat (.tuple (pre.map PyData.str)), [some (.dat Y), some (.dat (tupS path)), some (.obj o2), some (.dat (.int pre.length)), some (.dat (.str x)), K, none, none, none, none, none, none, some (.dat (.str c.1)), some (.dat (.int c.2)), none, none]) := by
        unfold tupS
        simp [mSl, mVar, frz1, oNone, oSome, lookS, slD, hcut]
      have ht : mB (mIn false (mVar 12) (mSl (mVar 1) oNone (oSome (mVar 3)))) [some (.dat Y), some (.dat (tupS path)), some (.obj o2), some (.dat (.int pre.length)), some (.dat (.str x)), K, none, none, none, none, none, none, some (.dat (.str c.1)), some (.dat (.int c.2)), none, none] = some (decide (c.1 ∈ pre), [some (.dat Y), some (.dat (tupS path)), some (.obj o2), some (.dat (.int pre.length)), some (.dat (.str x)), K, none, none, none, none, none, none, some (.dat (.str c.1)), some (.dat (.int c.2)), none, none]) := by
        generalize mSl (mVar 1) oNone (oSome (mVar 3)) = M at sl ⊢
        simp [mB, mIn, mCons, mVar, sl, mNil, frz1, dctAt, setAt, looks, lookS, hin]
      refine ⟨_, rfl, ?_⟩
      cases hd : decide (c.1 ∈ pre) with
      | true =>
        rw [hd] at ht
        exact .inl ⟨rfl, _, _, _, _, ht, rfl, rfl, rfl⟩
      | false =>
        rw [hd] at ht
        exact .inr ⟨rfl, _, ht, rfl⟩)
    rw [this]
    simp
  have i1 : iE (mCall [] fm__law_beside (mCons (mSub (mVar 0) (mC (.int 2))) (mCons (mVar 4) mNil))) [some (.dat (hallD w ps ts)), some (.dat (tupS path)), some (.obj (.dct D)), some (.dat (.int pre.length)), some (.dat (.str x)), e5, none, none, none, none, none, none, none, none, none, none] = some (cs.map prD, [some (.dat (hallD w ps ts)), some (.dat (tupS path)), some (.obj (.dct D)), some (.dat (.int pre.length)), some (.dat (.str x)), e5, none, none, none, none, none, none, none, none, none, none]) := iE_call (callMM_ev (m1 := mSub (mVar 0) (mC (.int 2))) (m2 := mVar 4) rfl rfl hb)
  have c1 := lc_ev (vs := [12, 13]) (ρ4 := [some (.dat (hallD w ps ts)), some (.dat (tupS path)), some (.obj (.dct D)), some (.dat (.int pre.length)), some (.dat (.str x)), e5, none, none, none, none, none, none, none, none, none, none]) i1 (by rw [List.length_map]; omega) rfl rfl (lp _ _ _) rfl
  have hal := ahead_len h.ap h.ne hc ndp
  have hlen : lenD (.list (((cs.filter fun c => decide (c.1 ∈ pre)).map (·.1)).map PyData.str)) = some (.dat (.int ((gls ts pre x).length : Int))) := by
    simp only [lenD, List.length_map, hal]
  have s1 := set_dat (i := 5) (op1_ev (f := lenD) c1 rfl hlen)
  have hDx := hD p hp
  rw [hpx] at hDx
  have s2 : mIfS (mB (mOp2 neD (mOp2 modD (mOp2 addD (mSub (mVar 2) (mVar 4)) (mVar 5)) (mC (.int 2))) (mC (.int 1)))) (mRet (mC (.bool false))) mSkip [some (.dat (hallD w ps ts)), some (.dat (tupS path)), some (.obj (.dct D)), some (.dat (.int pre.length)), some (.dat (.str x)), some (.dat (.int ((gls ts pre x).length : Int))), none, none, none, none, none, none, none, none, none, none] = some (.next, [some (.dat (hallD w ps ts)), some (.dat (tupS path)), some (.obj (.dct D)), some (.dat (.int pre.length)), some (.dat (.str x)), some (.dat (.int ((gls ts pre x).length : Int))), none, none, none, none, none, none, none, none, none, none]) := by
    generalize hallD w ps ts = HH
    generalize tupS path = TT
    simp [runF, okArgs, em, mSeq, mIfS, mB, mOp2, mOp1, mPure, mCons, mVar, mC, mNil, frz1, looks, lookS, f1, f2, mSkip, mRet, mRetN, mDrop, gtD, geD, ltD, leD, isD, isnD, addD, subD, mulD, modD, fdivD, powD, negD, fOr, i2, i2c, mSub, finF, outR, outA, mSet, mSetI, toD, esc, escAll, setItemAt, dctAt, setAt, ixD, atI, ixN, setR, mTru, truS, truD, mAnd, mOr, mNot, mAndV, mOrV, mNotV, mIf, mTup, mLst, mAsg, gN, gT, gsCons, gsNil, mChain, mCall, escB, argsOf, slotsOf, putBack, iE, itemsD, mPar2, wipeE, restE, noOwn, mYes, lenD, absD, Mw.intD, listD, tupleD, mSl, oNone, oSome, slD, mMeth, lstAt, fAppend, mSetT, setTAt, mGetT, dttAt, mD0, mD0T, mPar3, noSlot, setN, mIn, isiD, tyD, isTy, eqD_int, neD_int, eqD_bool, neD_bool, eqD_ii, Mw.keyOf, mLc, mFor, mNeverS, revD, hDx, cModB, hodd]
  exact ⟨_, (seq_next s1).trans s2⟩
theorem row_loop (w : Int) {ps ps' : List Pl} {ts ts' : List Ti} {path : List Str} (hH : Hall w ps ts) (R : Run w ps ts path ps' ts') (D : List (Key × Pd)) (hD : ∀ p ∈ ps, valP D (.inr p.1) = some (.int p.2.1)) : ∀ (post pre : List Str), path = pre ++ post → ∀ (e3 : Option DV) (y4 : Option PyData) (e5 : Option DV), ∃ (f3 : Option DV) (z4 : Option PyData) (f5 : Option DV), loopS (gT 2 (gsCons (gN 3) (gsCons (gN 4) gsNil))) rowB ((post.zipIdx pre.length).map fun q => PyData.tuple [.int (q.2 : Nat), .str q.1]) [some (.dat (hallD w ps ts)), some (.dat (tupS path)), some (.obj (.dct D)), e3, od y4, e5, none, none, none, none, none, none, none, none, none, none]
    = some (.next, [some (.dat (hallD w ps ts)), some (.dat (tupS path)), some (.obj (.dct D)), f3, od z4, f5, none, none, none, none, none, none, none, none, none, none])
  | [], pre, _, e3, e4, e5 => ⟨e3, e4, e5, rfl⟩
  | x :: post, pre, e, e3, e4, e5 => by
    obtain ⟨f5, s⟩ := row_turn w hH R e D hD e5
    obtain ⟨g3, g4, g5, q⟩ := row_loop w hH R D hD post (pre ++ [x]) (by simpa using e) (some (.dat (.int pre.length))) (some (.str x)) f5
    rw [List.length_append, List.length_singleton] at q
    refine ⟨g3, g4, g5, ?_⟩
    rw [List.zipIdx_cons, List.map_cons]
    exact (loopS_cons rfl s).trans q
end Kx

set_option Elab.async false
set_option linter.all false
set_option maxRecDepth 100000
set_option autoImplicit false
namespace Kx
open PySem PySem.Spec PyProof.Rows L2 Mw
theorem enumD_strs (l : List Str) : enumD (l.map PyData.str) = (l.zipIdx 0).map fun q => PyData.tuple [.int (q.2 : Nat), .str q.1] := by
  unfold enumD
  rw [List.zipIdx_map, List.map_map]
  rfl
theorem sev_loop {ps ps' : List Pl} {ts : List Ti} (w : Int) (hwf : WF ps ts) {path : List Str} (txs : ∀ x ∈ path, TxOk x) (h6 : PyData) (hh6 : h6 = hallD w ps' (tsAt ts path)) (Y : PyData) (o2 : OB) (e3 : Option DV) (y4 : Option PyData) (e5 : Option DV) : loopC [14] (gN 14) (mAnd (mB (mIn true (mVar 14) (mSub (mVar 6) (mC (.int 2))))) (mB (mOp2 neD (mIn false (mSub (mVar 14) (mC (.int 0))) (mVar 1)) (mIn false (mSub (mVar 14) (mC (.int 1))) (mVar 1))))) (mVar 14) (ts.map tiD) [] [some (.dat Y), some (.dat (tupS path)), some (.obj o2), e3, od y4, e5, some (.dat h6), none, none, none, none, none, none, none, none, none]
    = some ((ts.filter fun t => decide (t.1 ∈ path) != decide (t.2.1 ∈ path)).map tiD, [some (.dat Y), some (.dat (tupS path)), some (.obj o2), e3, od y4, e5, some (.dat h6), none, none, none, none, none, none, none, none, none]) := by
  have hsub : ∀ t ∈ tsAt ts path, TxOk t.1 ∧ TxOk t.2.1 := fun t ht => hwf.tt t (List.mem_filter.mp ht).1
  have := loopC_map (vs := [14]) (g := gN 14) (t := mAnd (mB (mIn true (mVar 14) (mSub (mVar 6) (mC (.int 2))))) (mB (mOp2 neD (mIn false (mSub (mVar 14) (mC (.int 0))) (mVar 1)) (mIn false (mSub (mVar 14) (mC (.int 1))) (mVar 1))))) (me := mVar 14) tiD (fun t => decide (t.1 ∈ path) != decide (t.2.1 ∈ path)) tiD [some (.dat Y), some (.dat (tupS path)), some (.obj o2), e3, od y4, e5, some (.dat h6), none, none, none, none, none, none, none, none, none] ts [] (by
    intro t ht
    have hn := notIn_ties (hwf.tt t ht) hsub
    have i1 := in_strs (hwf.tt t ht).1 txs
    have i2 := in_strs (hwf.tt t ht).2 txs
    have k0 : mSub (mVar 6) (mC (.int 2)) [some (.dat Y), some (.dat (tupS path)), some (.obj o2), e3, od y4, e5, some (.dat h6), none, none, none, none, none, none, none, some (.dat (tiD t)), none] = some (.dat (.tuple ((tsAt ts path).map tiD)), [some (.dat Y), some (.dat (tupS path)), some (.obj o2), e3, od y4, e5, some (.dat h6), none, none, none, none, none, none, none, some (.dat (tiD t)), none]) := by
      subst hh6
      rfl
    have t1 : mB (mIn true (mVar 14) (mSub (mVar 6) (mC (.int 2)))) [some (.dat Y), some (.dat (tupS path)), some (.obj o2), e3, od y4, e5, some (.dat h6), none, none, none, none, none, none, none, some (.dat (tiD t)), none] = some (decide (t ∉ tsAt ts path), [some (.dat Y), some (.dat (tupS path)), some (.obj o2), e3, od y4, e5, some (.dat h6), none, none, none, none, none, none, none, some (.dat (tiD t)), none]) := by
      generalize mSub (mVar 6) (mC (.int 2)) = M at k0 ⊢
      generalize tiD t = TD at *
      simp [mB, mIn, mCons, mVar, k0, mNil, frz1, dctAt, setAt, looks, lookS, hn]
    have t2 : mB (mOp2 neD (mIn false (mSub (mVar 14) (mC (.int 0))) (mVar 1)) (mIn false (mSub (mVar 14) (mC (.int 1))) (mVar 1))) [some (.dat Y), some (.dat (tupS path)), some (.obj o2), e3, od y4, e5, some (.dat h6), none, none, none, none, none, none, none, some (.dat (tiD t)), none] = some (decide (t.1 ∈ path) != decide (t.2.1 ∈ path), [some (.dat Y), some (.dat (tupS path)), some (.obj o2), e3, od y4, e5, some (.dat h6), none, none, none, none, none, none, none, some (.dat (tiD t)), none]) := by
      have a1 : mIn false (mSub (mVar 14) (mC (.int 0))) (mVar 1) [some (.dat Y), some (.dat (tupS path)), some (.obj o2), e3, od y4, e5, some (.dat h6), none, none, none, none, none, none, none, some (.dat (tiD t)), none] = some (.dat (.bool (decide (t.1 ∈ path))), [some (.dat Y), some (.dat (tupS path)), some (.obj o2), e3, od y4, e5, some (.dat h6), none, none, none, none, none, none, none, some (.dat (tiD t)), none]) := by
        unfold tiD tupS
        simp [mIn, mCons, mSub, mVar, mC, mNil, frz1, dctAt, setAt, looks, lookS, ixD, atI, ixN, i1]
      have a2 : mIn false (mSub (mVar 14) (mC (.int 1))) (mVar 1) [some (.dat Y), some (.dat (tupS path)), some (.obj o2), e3, od y4, e5, some (.dat h6), none, none, none, none, none, none, none, some (.dat (tiD t)), none] = some (.dat (.bool (decide (t.2.1 ∈ path))), [some (.dat Y), some (.dat (tupS path)), some (.obj o2), e3, od y4, e5, some (.dat h6), none, none, none, none, none, none, none, some (.dat (tiD t)), none]) := by
        unfold tiD tupS
        simp [mIn, mCons, mSub, mVar, mC, mNil, frz1, dctAt, setAt, looks, lookS, ixD, atI, ixN, i2]
      have a3 := op2_ev (f := neD) a1 rfl a2 rfl (neD_bool _ _)
      simp only [mB, a3]
      rfl
    have tt : mAnd (mB (mIn true (mVar 14) (mSub (mVar 6) (mC (.int 2))))) (mB (mOp2 neD (mIn false (mSub (mVar 14) (mC (.int 0))) (mVar 1)) (mIn false (mSub (mVar 14) (mC (.int 1))) (mVar 1)))) [some (.dat Y), some (.dat (tupS path)), some (.obj o2), e3, od y4, e5, some (.dat h6), none, none, none, none, none, none, none, some (.dat (tiD t)), none] = some (decide (t.1 ∈ path) != decide (t.2.1 ∈ path), [some (.dat Y), some (.dat (tupS path)), some (.obj o2), e3, od y4, e5, some (.dat h6), none, none, none, none, none, none, none, some (.dat (tiD t)), none]) := by
      by_cases hm : t ∈ tsAt ts path
      · have := (List.mem_filter.mp hm).2
        simp only [decide_eq_true_eq] at this
        rw [decide_eq_false (fun q => q hm)] at t1
        simp only [mAnd, t1]
        simp [this.1, this.2]
      · rw [decide_eq_true hm] at t1
        rw [and_ev t1, t2]
    refine ⟨_, rfl, ?_⟩
    cases hd : decide (t.1 ∈ path) != decide (t.2.1 ∈ path) with
    | true =>
      rw [hd] at tt
      exact .inl ⟨rfl, _, _, _, _, tt, rfl, rfl, rfl⟩
    | false =>
      rw [hd] at tt
      exact .inr ⟨rfl, _, tt, rfl⟩)
  rw [this]
  simp
theorem sum_fN {w : Int} : ∀ {ps : List Pl}, (∀ p ∈ ps, p.2.1 = 0 ∨ p.2.1 = 1) → (ps.map (·.2.1)).sum = (sl ps fN : Int)
  | [], _ => rfl
  | p :: ps, h => by
    have h1 := h p List.mem_cons_self
    rw [List.map_cons, List.sum_cons, sum_fN (w := w) fun q hq => h q (List.mem_cons_of_mem _ hq), sl_cons]
    unfold fN
    omega
end Kx

set_option Elab.async false
set_option linter.all false
set_option maxRecDepth 100000
set_option autoImplicit false
namespace Kx
open PySem PySem.Spec PyProof.Rows L2 Mw
theorem psAt_face {w : Int} {ps : List Pl} {ts : List Ti} (hH : Hall w ps ts) (path : List Str) : ∀ q ∈ psAt w ps ts path, q.2.1 = 0 ∨ q.2.1 = 1 := by
  intro q hq
  obtain ⟨p, hp, _, hq2, _⟩ := mem_psAt hq
  obtain ⟨hf, m, hm⟩ := hH.ok p hp
  have e := tns_eq w ts path p.1 p.2.1 p.2.2 m hm
  rw [face_eq p.2.1 hf] at e
  have e' := hq2.trans e
  have hb := fm_bd (p.2.1 + ((gls ts path p.1).length : Int)) 2 (by decide)
  rw [e']
  dsimp only
  omega
theorem rows_spec (w : Int) {ps ps' : List Pl} {ts ts' : List Ti} {path : List Str} (hH : Hall w ps ts) (R : Run w ps ts path ps' ts') : fm__law_rows_right [.dat (hallD w ps ts), .dat (tupS path)] = some (.dat (.bool true), [.dat (hallD w ps ts), .dat (tupS path)]) := by
  have h := hH.wf
  have h' := R.wf h
  have txs := R.txs
  have nd := R.nodup hH
  have zp := h.zp
  have zt := h.zt
  have rl := run_len hH R
  obtain ⟨hps', hts'⟩ := R.now
  -- the faces
  have i0 : iE (mSub (mVar 0) (mC (.int 1))) [some (.dat (hallD w ps ts)), some (.dat (tupS path)), none, none, none, none, none, none, none, none, none, none, none, none, none, none] = some (ps.map plD, [some (.dat (hallD w ps ts)), some (.dat (tupS path)), none, none, none, none, none, none, none, none, none, none, none, none, none, none]) := rfl
  have c0 := lc_ev (vs := [4, 10, 11]) (ρ4 := [some (.dat (hallD w ps ts)), some (.dat (tupS path)), none, none, none, none, none, none, none, none, none, none, none, none, none, none]) i0 (by rw [List.length_map]; omega) rfl rfl (faces_loop _ _ ps) rfl
  have hdict : dictD (.list ((ps.map fun p => (p.1, p.2.1)).map prD)) = some (.new (.dct (mergeP [] ((ps.map fun p => (p.1, p.2.1)).map kvD)))) := by
    simp only [dictD, pairsD_pr]
  have hD : ∀ p ∈ ps, valP (mergeP [] ((ps.map fun p => (p.1, p.2.1)).map kvD)) (.inr p.1) = some (.int p.2.1) := fun p hp => faces_val h.nd hp
  have s0 := set_new (i := 2) (op1_ev (f := dictD) c0 rfl hdict) (by simp)
  generalize mergeP [] ((ps.map fun p => (p.1, p.2.1)).map kvD) = D at *
  -- each at its turn
  obtain ⟨f3, z4, f5, l1⟩ := row_loop w hH R D hD path [] rfl none none none
  rw [List.length_nil, ← enumD_strs] at l1
  have i1 : iEnA (mVar 1) [some (.dat (hallD w ps ts)), some (.dat (tupS path)), some (.obj (.dct D)), none, none, none, none, none, none, none, none, none, none, none, none, none] = some (enumD (path.map PyData.str), [some (.dat (hallD w ps ts)), some (.dat (tupS path)), some (.obj (.dct D)), none, none, none, none, none, none, none, none, none, none, none, none, none]) := by
    generalize hallD w ps ts = HH
    unfold tupS
    simp [iEnA, mVar, toD, frz1, esc]
  have s1 := (for_ev i1).trans l1
  -- behind them
  have hb := behind_spec w R h (.list (path.map PyData.str)) (.inl rfl)
  have s2 := set_dat (i := 6) (callM_ev (i := 0) (m := mOp1 listD (mVar 1)) (ρ := [some (.dat (hallD w ps ts)), some (.dat (tupS path)), some (.obj (.dct D)), f3, od z4, f5, none, none, none, none, none, none, none, none, none, none]) rfl rfl rfl hb)
  -- the ties that went
  have l3 := sev_loop (ps := ps) (ps' := ps') (ts := ts) w h txs (hallD w ps' ts') (by rw [hts']) (hallD w ps ts) (.dct D) f3 z4 f5
  have i3 : iE (mSub (mVar 0) (mC (.int 2))) [some (.dat (hallD w ps ts)), some (.dat (tupS path)), some (.obj (.dct D)), f3, od z4, f5, some (.dat (hallD w ps' ts')), none, none, none, none, none, none, none, none, none] = some (ts.map tiD, [some (.dat (hallD w ps ts)), some (.dat (tupS path)), some (.obj (.dct D)), f3, od z4, f5, some (.dat (hallD w ps' ts')), none, none, none, none, none, none, none, none, none]) := rfl
  have c3 := lc_ev (vs := [14]) (ρ4 := [some (.dat (hallD w ps ts)), some (.dat (tupS path)), some (.obj (.dct D)), f3, od z4, f5, some (.dat (hallD w ps' ts')), none, none, none, none, none, none, none, none, none]) i3 (by rw [List.length_map]; omega) rfl rfl l3 rfl
  have hlen3 : lenD (.list ((ts.filter fun t => decide (t.1 ∈ path) != decide (t.2.1 ∈ path)).map tiD)) = some (.dat (.int (sev ts path : Int))) := by
    simp only [lenD, List.length_map]
    rfl
  have s3 := set_dat (i := 7) (op1_ev (f := lenD) c3 rfl hlen3)
  -- the lights
  have inner : ∀ (Y T H6 : PyData) (o2 : OB) (e3 : Option DV) (e5 : Option DV) (v7 : PyData) (qs : List Pl) (W : Int) (us : List Ti), qs.length < 1000 → mOp1 sumD (mLc (iE (mSub (mVar 15) (mC (.int 1)))) [4, 10, 11] (gT 3 (gsCons (gN 4) (gsCons (gN 10) (gsCons (gN 11) gsNil)))) mYes (mVar 10)) [some (.dat Y), some (.dat T), some (.obj o2), e3, od z4, e5, some (.dat H6), some (.dat v7), none, none, none, none, none, none, none, some (.dat (hallD W qs us))] = some (.dat (.int ((qs.map (·.2.1)).sum)), [some (.dat Y), some (.dat T), some (.obj o2), e3, od z4, e5, some (.dat H6), some (.dat v7), none, none, none, none, none, none, none, some (.dat (hallD W qs us))]) := by
    intro Y T H6 o2 e3 e5 v7 qs W us hq
    have lp := loopC_map (vs := [4, 10, 11]) (g := gT 3 (gsCons (gN 4) (gsCons (gN 10) (gsCons (gN 11) gsNil)))) (t := mYes) (me := mVar 10) plD (fun _ => true) (fun p => PyData.int p.2.1) [some (.dat Y), some (.dat T), some (.obj o2), e3, none, e5, some (.dat H6), some (.dat v7), none, none, none, none, none, none, none, some (.dat (hallD W qs us))] qs [] (fun p hp => ⟨_, rfl, .inl ⟨rfl, _, _, _, _, rfl, rfl, rfl, rfl⟩⟩)
    rw [List.filter_eq_self.mpr (by simp), List.nil_append] at lp
    have i : iE (mSub (mVar 15) (mC (.int 1))) [some (.dat Y), some (.dat T), some (.obj o2), e3, od z4, e5, some (.dat H6), some (.dat v7), none, none, none, none, none, none, none, some (.dat (hallD W qs us))] = some (qs.map plD, [some (.dat Y), some (.dat T), some (.obj o2), e3, od z4, e5, some (.dat H6), some (.dat v7), none, none, none, none, none, none, none, some (.dat (hallD W qs us))]) := rfl
    have c := lc_ev (vs := [4, 10, 11]) (ρ4 := [some (.dat Y), some (.dat T), some (.obj o2), e3, od z4, e5, some (.dat H6), some (.dat v7), none, none, none, none, none, none, none, some (.dat (hallD W qs us))]) i (by rw [List.length_map]; omega) (by cases z4 <;> rfl) rfl lp rfl
    refine op1_ev (f := sumD) c rfl ?_
    have : (qs.map fun p => PyData.int p.2.1) = (qs.map (·.2.1)).map PyData.int := by rw [List.map_map]; rfl
    rw [this]
    simp only [sumD, intsD_map]
  have s4 : mSet 8 (mLc (iE (mTup (mCons (mVar 0) (mCons (mVar 6) mNil)))) [15] (gN 15) mYes (mOp1 sumD (mLc (iE (mSub (mVar 15) (mC (.int 1)))) [4, 10, 11] (gT 3 (gsCons (gN 4) (gsCons (gN 10) (gsCons (gN 11) gsNil)))) mYes (mVar 10)))) [some (.dat (hallD w ps ts)), some (.dat (tupS path)), some (.obj (.dct D)), f3, od z4, f5, some (.dat (hallD w ps' ts')), some (.dat (.int (sev ts path : Int))), none, none, none, none, none, none, none, none]
      = some (.next, [some (.dat (hallD w ps ts)), some (.dat (tupS path)), some (.obj (.dct D)), f3, od z4, f5, some (.dat (hallD w ps' ts')), some (.dat (.int (sev ts path : Int))), some (.obj (.lst [.int ((ps.map (·.2.1)).sum), .int ((ps'.map (·.2.1)).sum)])), none, none, none, none, none, none, none]) := by
    have e1 := inner (hallD w ps ts) (tupS path) (hallD w ps' ts') (.dct D) f3 f5 (.int (sev ts path : Int)) ps w ts (by omega)
    have e2 := inner (hallD w ps ts) (tupS path) (hallD w ps' ts') (.dct D) f3 f5 (.int (sev ts path : Int)) ps' w ts' h'.zp
    generalize mOp1 sumD (mLc (iE (mSub (mVar 15) (mC (.int 1)))) [4, 10, 11] (gT 3 (gsCons (gN 4) (gsCons (gN 10) (gsCons (gN 11) gsNil)))) mYes (mVar 10)) = M at e1 e2 ⊢
    generalize hallD w ps ts = HH at *
    generalize hallD w ps' ts' = HH' at *
    generalize tupS path = TT at *
    have lp : loopC [15] (gN 15) mYes M [HH, HH'] [] [some (.dat HH), some (.dat TT), some (.obj (.dct D)), f3, od z4, f5, some (.dat HH'), some (.dat (.int (sev ts path : Int))), none, none, none, none, none, none, none, none] = some ([.int ((ps.map (·.2.1)).sum), .int ((ps'.map (·.2.1)).sum)], [some (.dat HH), some (.dat TT), some (.obj (.dct D)), f3, od z4, f5, some (.dat HH'), some (.dat (.int (sev ts path : Int))), none, none, none, none, none, none, none, none]) := by
      simp [loopC, gN, mYes, e1, e2, toD, frz1, esc, wipeE]
    have i : iE (mTup (mCons (mVar 0) (mCons (mVar 6) mNil))) [some (.dat HH), some (.dat TT), some (.obj (.dct D)), f3, od z4, f5, some (.dat HH'), some (.dat (.int (sev ts path : Int))), none, none, none, none, none, none, none, none] = some ([HH, HH'], [some (.dat HH), some (.dat TT), some (.obj (.dct D)), f3, od z4, f5, some (.dat HH'), some (.dat (.int (sev ts path : Int))), none, none, none, none, none, none, none, none]) := rfl
    exact set_new (i := 8) (lc_ev (vs := [15]) (ρ4 := [some (.dat HH), some (.dat TT), some (.obj (.dct D)), f3, od z4, f5, some (.dat HH'), some (.dat (.int (sev ts path : Int))), none, none, none, none, none, none, none, none]) i (by simp) rfl rfl lp rfl) (by simp)
  -- their own
  have sub : ∀ x ∈ path, ∃ p ∈ ps, p.1 = x := fun x hx => by
    obtain ⟨pre, post, e, _, _⟩ := split_at hx
    obtain ⟨p, hp, he, _, _⟩ := R.face hH e
    exact ⟨p, hp, he⟩
  have l5 := loopC_map (vs := [4]) (g := gN 4) (t := mYes) (me := mSub (mVar 2) (mVar 4)) PyData.str (fun _ => true) (fun x => PyData.int (faceI ps x)) [some (.dat (hallD w ps ts)), some (.dat (tupS path)), some (.obj (.dct D)), f3, none, f5, some (.dat (hallD w ps' ts')), some (.dat (.int (sev ts path : Int))), some (.obj (.lst [.int ((ps.map (·.2.1)).sum), .int ((ps'.map (·.2.1)).sum)])), none, none, none, none, none, none, none] path [] (by
    intro x hx
    obtain ⟨p, hp, he⟩ := sub x hx
    have hv := hD p hp
    rw [he] at hv
    have hf : faceI ps x = p.2.1 := by
      unfold faceI
      rw [← he, cardOf_of_mem h.nd hp]
    refine ⟨_, rfl, .inl ⟨rfl, _, .dat (.int (faceI ps x)), [some (.dat (hallD w ps ts)), some (.dat (tupS path)), some (.obj (.dct D)), f3, some (.dat (.str x)), f5, some (.dat (hallD w ps' ts')), some (.dat (.int (sev ts path : Int))), some (.obj (.lst [.int ((ps.map (·.2.1)).sum), .int ((ps'.map (·.2.1)).sum)])), none, none, none, none, none, none, none], _, rfl, ?_, rfl, rfl⟩⟩
    rw [hf]
    generalize hallD w ps ts = HH
    generalize hallD w ps' ts' = HH'
    generalize tupS path = TT
    simp [mSub, mCons, mVar, mNil, frz1, dctAt, lookS, Mw.keyOf, hv])
  rw [List.filter_eq_self.mpr (by simp), List.nil_append] at l5
  have i5 : iE (mVar 1) [some (.dat (hallD w ps ts)), some (.dat (tupS path)), some (.obj (.dct D)), f3, od z4, f5, some (.dat (hallD w ps' ts')), some (.dat (.int (sev ts path : Int))), some (.obj (.lst [.int ((ps.map (·.2.1)).sum), .int ((ps'.map (·.2.1)).sum)])), none, none, none, none, none, none, none] = some (path.map PyData.str, [some (.dat (hallD w ps ts)), some (.dat (tupS path)), some (.obj (.dct D)), f3, od z4, f5, some (.dat (hallD w ps' ts')), some (.dat (.int (sev ts path : Int))), some (.obj (.lst [.int ((ps.map (·.2.1)).sum), .int ((ps'.map (·.2.1)).sum)])), none, none, none, none, none, none, none]) := rfl
  have c5 := lc_ev (vs := [4]) (ρ4 := [some (.dat (hallD w ps ts)), some (.dat (tupS path)), some (.obj (.dct D)), f3, od z4, f5, some (.dat (hallD w ps' ts')), some (.dat (.int (sev ts path : Int))), some (.obj (.lst [.int ((ps.map (·.2.1)).sum), .int ((ps'.map (·.2.1)).sum)])), none, none, none, none, none, none, none]) i5 (by rw [List.length_map]; omega) (by cases z4 <;> rfl) rfl l5 rfl
  have hs5 : sumD (.list (path.map fun x => PyData.int (faceI ps x))) = some (.dat (.int (sm path (faceN ps) : Int))) := by
    have : (path.map fun x => PyData.int (faceI ps x)) = (path.map (faceI ps)).map PyData.int := by rw [List.map_map]; rfl
    rw [this]
    simp only [sumD, intsD_map, sum_faceI hH.ok]
  have s5 := set_dat (i := 9) (op1_ev (f := sumD) c5 rfl hs5)
  -- the end
  have f0 : (ps.map (·.2.1)).sum = (sl ps fN : Int) := sum_fN (w := w) fun p hp => (hH.ok p hp).1
  have f1' : (ps'.map (·.2.1)).sum = (sl ps' fN : Int) := sum_fN (w := w) (by rw [hps']; exact psAt_face hH path)
  have even := rows_even hH R
  have s6 : mRet (mOp2 eqD (mOp2 modD (mOp2 subD (mOp2 addD (mOp2 subD (mSub (mVar 8) (mC (.int 0))) (mVar 9)) (mVar 7)) (mSub (mVar 8) (mC (.int 1)))) (mC (.int 2))) (mC (.int 0))) [some (.dat (hallD w ps ts)), some (.dat (tupS path)), some (.obj (.dct D)), f3, od z4, f5, some (.dat (hallD w ps' ts')), some (.dat (.int (sev ts path : Int))), some (.obj (.lst [.int ((ps.map (·.2.1)).sum), .int ((ps'.map (·.2.1)).sum)])), some (.dat (.int (sm path (faceN ps) : Int))), none, none, none, none, none, none] = some (.ret (.dat (.bool true)), [some (.dat (hallD w ps ts)), some (.dat (tupS path)), some (.obj (.dct D)), f3, od z4, f5, some (.dat (hallD w ps' ts')), some (.dat (.int (sev ts path : Int))), some (.obj (.lst [.int ((ps.map (·.2.1)).sum), .int ((ps'.map (·.2.1)).sum)])), some (.dat (.int (sm path (faceN ps) : Int))), none, none, none, none, none, none]) := by
    rw [f0, f1']
    have hz : ((sl ps fN : Int) - (sm path (faceN ps) : Int) + (sev ts path : Int) - (sl ps' fN : Int)).fmod 2 = 0 := by
      rw [Int.fmod_eq_emod_of_nonneg _ (by decide)]
      omega
    generalize hallD w ps ts = HH
    generalize hallD w ps' ts' = HH'
    generalize tupS path = TT
    simp [runF, okArgs, em, mSeq, mIfS, mB, mOp2, mOp1, mPure, mCons, mVar, mC, mNil, frz1, looks, lookS, f1, f2, mSkip, mRet, mRetN, mDrop, gtD, geD, ltD, leD, isD, isnD, addD, subD, mulD, modD, fdivD, powD, negD, fOr, i2, i2c, mSub, finF, outR, outA, mSet, mSetI, toD, esc, escAll, setItemAt, dctAt, setAt, ixD, atI, ixN, setR, mTru, truS, truD, mAnd, mOr, mNot, mAndV, mOrV, mNotV, mIf, mTup, mLst, mAsg, gN, gT, gsCons, gsNil, mChain, mCall, escB, argsOf, slotsOf, putBack, iE, itemsD, mPar2, wipeE, restE, noOwn, mYes, lenD, absD, Mw.intD, listD, tupleD, mSl, oNone, oSome, slD, mMeth, lstAt, fAppend, mSetT, setTAt, mGetT, dttAt, mD0, mD0T, mPar3, noSlot, setN, mIn, isiD, tyD, isTy, eqD_int, neD_int, eqD_bool, neD_bool, eqD_ii, Mw.keyOf, mLc, mFor, mNeverS, revD, cModB, hz]
  have all := (seq_next s0).trans ((seq_next s1).trans ((seq_next s2).trans ((seq_next s3).trans ((seq_next s4).trans ((seq_next s5).trans s6)))))
  unfold fm__law_rows_right m__law_rows_right runF
  generalize (mSeq (mSet 2 _) _) = MM at all ⊢
  generalize hallD w ps ts = HH at *
  generalize tupS path = TT at *
  simp [okArgs, Mw.em, all, finF, outR, outA]
end Kx

set_option Elab.async false
set_option linter.all false
set_option maxRecDepth 100000
set_option autoImplicit false
namespace Kx
open PySem PySem.Spec PyProof.Rows L2 Mw
noncomputable def gT1 : MT := mB (mOp2 neD (mCall [] fm_may_go (mCons (mVar 3) mNil)) (mLst mNil))
noncomputable def gB : MS := (mSeq (mSet 4 (mCall [] fm_may_go (mCons (mVar 3) mNil))) (mSeq (mDrop (mMeth fAppend (mVar 2) (mCons (mSub (mVar 4) (mCall [0] fm__law_take (mCons (mVar 0) (mCons (mOp1 lenD (mVar 4)) mNil)))) mNil))) (mSet 3 (mCall [] fm_behind (mCons (mVar 3) (mCons (mSl (mVar 2) (oSome (mOp1 negD (mC (.int 1)))) oNone) mNil))))))
theorem g_test (w : Int) (Y : PyData) {ps : List Pl} {ts : List Ti} (h : WF ps ts) (B : DV) (P : OB) (e4 : Option DV) : ∃ t, (t = true → frs ps ≠ []) ∧ gT1 [some B, some (.dat Y), some (.obj P), some (.dat (hallD w ps ts)), e4] = some (t, [some B, some (.dat Y), some (.obj P), some (.dat (hallD w ps ts)), e4]) := by
  have hm := may_go_spec w ps ts (Nat.lt_trans h.zp (by decide))
  have m1 := call1_ev (i := 3) (ρ := [some B, some (.dat Y), some (.obj P), some (.dat (hallD w ps ts)), e4]) rfl hm
  have hfr : ((ps.filter fun p => free p.2.1 p.2.2).map (·.1)) = frs ps := rfl
  rw [hfr] at m1
  have hn := ne_nil (frs ps) (fun x hx => (frs_free h hx).1)
  have o := op2_ev (f := neD) (mb := mLst mNil) m1 rfl rfl rfl hn
  refine ⟨!(frs ps).isEmpty, fun z e => ?_, ?_⟩
  · rw [e] at z
    cases z
  · unfold gT1 mB
    rw [o]
theorem g_body (w : Int) (Y : PyData) {ps : List Pl} {ts : List Ti} (h : WF ps ts) (hne : frs ps ≠ []) (path : List Str) (hpl : path.length < 100000) (a b c : Int) (e4 : Option DV) : ∃ (x : Str) (a' c' : Int) (f4 : Option DV), TxOk x ∧ cardOf ps x = some (1, 0) ∧ x ∈ ps.map (·.1) ∧ gB [some (box a b c), some (.dat Y), some (.obj (.lst (path.map PyData.str))), some (.dat (hallD w ps ts)), e4]
    = some (.next, [some (box a' b c'), some (.dat Y), some (.obj (.lst ((path ++ [x]).map PyData.str))), some (.dat (hallD w (leftP w ps ts x) (leftT ts x))), f4]) := by
  have hm := may_go_spec w ps ts (Nat.lt_trans h.zp (by decide))
  have m1 := call1_ev (i := 3) (ρ := [some (box a b c), some (.dat Y), some (.obj (.lst (path.map PyData.str))), some (.dat (hallD w ps ts)), e4]) rfl hm
  have hfr : ((ps.filter fun p => free p.2.1 p.2.2).map (·.1)) = frs ps := rfl
  rw [hfr] at m1
  have s1 := set_new (i := 4) m1 (by simp)
  have hfl : (frs ps).length < 1000 := by
    unfold frs
    rw [List.length_map]
    exact Nat.lt_of_le_of_lt (List.length_filter_le _ _) h.zp
  have hpos : 0 < (frs ps).length := List.length_pos_iff.mpr hne
  obtain ⟨r, a1, c1, t1, hr0, hr1⟩ := take_ev (m := mOp1 lenD (mVar 4)) a b c (frs ps).length [some (.dat Y), some (.obj (.lst (path.map PyData.str))), some (.dat (hallD w ps ts)), some (.obj (.lst ((frs ps).map PyData.str)))] (by omega) (by omega) (by simp [mOp1, mPure, mCons, mVar, mNil, frz1, looks, lookS, f1, lenD])
  obtain ⟨r', rfl⟩ := Int.eq_ofNat_of_zero_le hr0
  have hr' : r' < (frs ps).length := by omega
  have sb := sub_slot (i := 4) (r := r') (ds := (frs ps).map PyData.str) rfl t1 rfl (by rw [List.length_map]; exact hr')
  rw [List.getElem_map] at sb
  obtain ⟨hx1, hx2, hx3⟩ := frs_free h (List.getElem_mem hr')
  generalize (frs ps)[r'] = x at *
  have hap : fAppend (path.map PyData.str) [.str x] = some (.none, (path ++ [x]).map PyData.str) := by
    have : path.length < sizeLine := few (by omega)
    simp [fAppend, this]
  have s2 := drop_ev (meth_ev (f := fAppend) (mo := mVar 2) (j := 2) (ρ := [some (box a b c), some (.dat Y), some (.obj (.lst (path.map PyData.str))), some (.dat (hallD w ps ts)), some (.obj (.lst ((frs ps).map PyData.str)))]) rfl rfl (cons1_ev sb) rfl rfl hap)
  have run : Run w ps ts [x] (leftP w ps ts x) (leftT ts x) := .cons hx1 hx2 .nil
  have hb := behind_spec w run h (.list ([x].map PyData.str)) (.inl rfl)
  have sl : mSl (mVar 2) (oSome (mOp1 negD (mC (.int 1)))) oNone [some (box a1 b c1), some (.dat Y), some (.obj (.lst ((path ++ [x]).map PyData.str))), some (.dat (hallD w ps ts)), some (.obj (.lst ((frs ps).map PyData.str)))] = some (.new (.lst [.str x]), [some (box a1 b c1), some (.dat Y), some (.obj (.lst ((path ++ [x]).map PyData.str))), some (.dat (hallD w ps ts)), some (.obj (.lst ((frs ps).map PyData.str)))]) := by
    have e : Mw.cutD ((path ++ [x]).map PyData.str) (some (-1)) none = [.str x] := by
      rw [List.map_append]
      exact cut_last _ _
    simp only [List.map_append] at e ⊢
    simp [mSl, mVar, frz1, oSome, mOp1, mPure, mCons, mC, mNil, looks, lookS, f1, negD, oNone, slD]
    simpa using e
  have s3 := set_dat (i := 3) (callM_ev (i := 3) rfl sl rfl hb)
  exact ⟨x, a1, c1, some (.obj (.lst ((frs ps).map PyData.str))), hx1, hx2, hx3, (seq_next s1).trans ((seq_next s2).trans s3)⟩
def muW (ρ : En) : Nat := match (ρ[3]? : Option (Option DV)) with
  | some (some (.dat (.tuple [_, .tuple l, _]))) => l.length
  | _ => 0
theorem g_loop (w : Int) {ps0 : List Pl} {ts0 : List Ti} (h0 : WF ps0 ts0) (Y : PyData) (a b c : Int) : ∃ (path : List Str) (ps : List Pl) (ts : List Ti) (a' c' : Int) (e4 : Option DV), Run w ps0 ts0 path ps ts ∧ path.length + ps.length ≤ ps0.length ∧
    mWhile gT1 gB [some (box a b c), some (.dat Y), some (.obj (.lst [])), some (.dat (hallD w ps0 ts0)), none] = some (.next, [some (box a' b c'), some (.dat Y), some (.obj (.lst (path.map PyData.str))), some (.dat (hallD w ps ts)), e4]) := by
  obtain ⟨n, fl, ρ', e, rfl, path, ps, ts, a', c', e4, hR, hl, rfl⟩ := loopW_inv (t := gT1) (body := gB)
    (fun ρ => ∃ (path : List Str) (ps : List Pl) (ts : List Ti) (a c : Int) (e4 : Option DV), Run w ps0 ts0 path ps ts ∧ path.length + ps.length ≤ ps0.length ∧ ρ = [some (box a b c), some (.dat Y), some (.obj (.lst (path.map PyData.str))), some (.dat (hallD w ps ts)), e4]) muW
    (fun fl ρ => fl = .next ∧ ∃ (path : List Str) (ps : List Pl) (ts : List Ti) (a c : Int) (e4 : Option DV), Run w ps0 ts0 path ps ts ∧ path.length + ps.length ≤ ps0.length ∧ ρ = [some (box a b c), some (.dat Y), some (.obj (.lst (path.map PyData.str))), some (.dat (hallD w ps ts)), e4])
    (by
      rintro ρ ⟨path, ps, ts, a, c, e4, hR, hl, rfl⟩
      have hw := hR.wf h0
      obtain ⟨t, ht, e1⟩ := g_test w Y hw (box a b c) (.lst (path.map PyData.str)) e4
      refine ⟨t, _, e1, ?_⟩
      cases t with
      | false => exact .inl ⟨rfl, rfl, path, ps, ts, a, c, e4, hR, hl, rfl⟩
      | true =>
        have := h0.zp
        obtain ⟨x, a2, c2, f4, hx1, hx2, hx3, e2⟩ := g_body w Y hw (ht rfl) path (by omega) a b c e4
        have lt := leftP_lt (w := w) (ts := ts) hx3
        refine .inr ⟨rfl, _, .inl ⟨.inl e2, ⟨path ++ [x], _, _, a2, c2, f4, hR.snoc hx1 hx2, by rw [List.length_append, List.length_singleton]; omega, rfl⟩, ?_⟩⟩
        show ((leftP w ps ts x).map plD).length < (ps.map plD).length
        rw [List.length_map, List.length_map]
        exact lt)
    ps0.length [some (box a b c), some (.dat Y), some (.obj (.lst [])), some (.dat (hallD w ps0 ts0)), none] ⟨[], ps0, ts0, a, c, none, .nil, by simp, rfl⟩ (by
      show (ps0.map plD).length ≤ _
      rw [List.length_map]
      exact Nat.le_refl _)
  exact ⟨path, ps, ts, a', c', e4, hR, hl, mWhile_some e⟩
theorem great_spec (w : Int) {ps : List Pl} {ts : List Ti} (hH : Hall w ps ts) (a b c : Int) : ∃ a' b' c', fm__law_great_right [box a b c, .dat (hallD w ps ts)] = some (.dat (.bool true), [box a' b' c', .dat (hallD w ps ts)]) := by
  obtain ⟨path, ps1, ts1, a1, c1, e4, hR, hl, lw⟩ := g_loop w hH.wf (hallD w ps ts) a b c
  have := hH.wf.zp
  have s0 : mPar2 2 3 (mLst mNil) (mVar 1) [some (box a b c), some (.dat (hallD w ps ts)), none, none, none] = some (.next, [some (box a b c), some (.dat (hallD w ps ts)), some (.obj (.lst [])), some (.dat (hallD w ps ts)), none]) := rfl
  refine ⟨a1, b, c1, ?_⟩
  have hR2 : ∃ p2 t2, Run w ps ts (path.take (path.length / 2)) p2 t2 := by
    rw [← List.take_append_drop (path.length / 2) path] at hR
    obtain ⟨p2, t2, q, _⟩ := Run.split hR
    exact ⟨p2, t2, q⟩
  obtain ⟨p2, t2, hR2⟩ := hR2
  have q1 := rows_spec w hH hR
  have q2 := rows_spec w hH hR2
  have v1 : mOp1 tupleD (mVar 2) [some (box a1 b c1), some (.dat (hallD w ps ts)), some (.obj (.lst (path.map PyData.str))), some (.dat (hallD w ps1 ts1)), e4] = some (.dat (tupS path), [some (box a1 b c1), some (.dat (hallD w ps ts)), some (.obj (.lst (path.map PyData.str))), some (.dat (hallD w ps1 ts1)), e4]) := by
    generalize hallD w ps ts = Y
    generalize hallD w ps1 ts1 = Z
    simp [mOp1, mPure, mCons, mVar, mNil, frz1, looks, lookS, f1, tupleD, tupS]
  have v2 : mOp1 tupleD (mSl (mVar 2) oNone (oSome (mOp2 fdivD (mOp1 lenD (mVar 2)) (mC (.int 2))))) [some (box a1 b c1), some (.dat (hallD w ps ts)), some (.obj (.lst (path.map PyData.str))), some (.dat (hallD w ps1 ts1)), e4] = some (.dat (tupS (path.take (path.length / 2))), [some (box a1 b c1), some (.dat (hallD w ps ts)), some (.obj (.lst (path.map PyData.str))), some (.dat (hallD w ps1 ts1)), e4]) := by
    generalize hallD w ps ts = Y
    generalize hallD w ps1 ts1 = Z
    have hd : fdivD (.int (path.length : Int)) (.int 2) = some (.dat (.int ((path.length / 2 : Nat) : Int))) := by
      have e1 : cDivB (path.length : Int) 2 = true := by simp [cDivB]
      have e2 : (path.length : Int).fdiv 2 = ((path.length / 2 : Nat) : Int) := by
        rw [Int.fdiv_eq_ediv_of_nonneg _ (by decide)]
        omega
      show i2c cDivB (fun i j => PyData.int (i.fdiv j)) (PyData.int path.length) (PyData.int 2) = _
      simp only [i2c, e1, e2]
      simp
    have hc := cut_take (path.map PyData.str) (path.length / 2)
    simp [mOp1, mOp2, mC, mPure, mCons, mVar, mNil, frz1, looks, lookS, f1, f2, mSl, oNone, oSome, lenD, hd, slD, tupleD, tupS]
    rw [Int.natCast_ediv] at hc
    exact hc
  have en := ret_ev ((andV_ev (n := mCall [] fm__law_rows_right (mCons (mVar 1) (mCons (mOp1 tupleD (mSl (mVar 2) oNone (oSome (mOp2 fdivD (mOp1 lenD (mVar 2)) (mC (.int 2)))))) mNil))) (callMM_ev (m1 := mVar 1) rfl v1 q1)).trans (callMM_ev (m1 := mVar 1) rfl v2 q2))
  have all := (seq_next (m2 := mSeq (mWhile gT1 gB) _) s0).trans ((seq_next lw).trans en)
  have all2 : m__law_great_right [some (box a b c), some (.dat (hallD w ps ts)), none, none, none] = _ := all
  unfold fm__law_great_right runF
  generalize m__law_great_right = MM at all2 ⊢
  generalize hallD w ps ts = Y at *
  simp [okArgs, Mw.em, all2, finF, outR, outA]
end Kx

set_option Elab.async false
set_option linter.all false
set_option maxRecDepth 100000
set_option autoImplicit false
namespace Kx
open PySem PySem.Spec PyProof.Rows L2 Mw
theorem par2_nn {i j : Nat} {ma mb : ME} {ρ ρ1 ρ2 : En} {o p : OB} (h1 : ma ρ = some (.new o, ρ1)) (h2 : mb ρ1 = some (.new p, ρ2)) (hi : i < ρ2.length) (hj : j < ρ2.length) : mPar2 i j ma mb ρ = some (.next, (ρ2.set i (some (.obj o))).set j (some (.obj p))) := by
  simp [mPar2, h1, h2, noSlot, setN, hi, hj]
theorem depth_bools : ∀ bs : List Bool, PyData.depthAll (bs.map PyData.bool) = 0
  | [] => by simp [PyData.depthAll]
  | x :: xs => by simp [PyData.depthAll, depth_bools xs, PyData.depth]
theorem shaped_bools (bs : List Bool) : SeqAt.shaped (.list (bs.map PyData.bool)) = true := by
  have h1 : PyData.canLayAll0 (bs.map PyData.bool) = true := canLayAll_of fun d hd => by
    obtain ⟨y, hy, rfl⟩ := List.mem_map.mp hd
    simp [PyData.canLay0]
  simp [SeqAt.shaped, PyData.canLay0, h1, PyData.depth, depth_bools]
theorem in_bools (bs : List Bool) : inD false (.bool false) (.list (bs.map PyData.bool)) = some (.dat (.bool (decide (false ∈ bs)))) := by
  have h1 : SeqAt.shaped (.bool false) = true := by simp [SeqAt.shaped, PyData.canLay0, PyData.depth]
  unfold inD
  simp only [h1, shaped_bools, Bool.and_self, if_true]
  have : ((bs.map PyData.bool).any fun z => PyData.eqv z (.bool false)) = decide (false ∈ bs) := by
    induction bs with
    | nil => rfl
    | cons y r ih =>
      rw [List.map_cons, List.any_cons, ih]
      cases y <;> simp [PyData.eqv]
  rw [this]
  rfl
theorem eqvAll_bools : ∀ bs : List Bool, PyData.eqvAll (bs.map PyData.bool) (bs.map PyData.bool) = true
  | [] => by simp [PyData.eqvAll]
  | b :: bs => by
    rw [List.map_cons]
    simp only [PyData.eqvAll, eqvAll_bools bs, Bool.and_true]
    cases b <;> simp [PyData.eqv]
theorem eq_bools (bs : List Bool) : eqD (.list (bs.map PyData.bool)) (.list (bs.map PyData.bool)) = some (.dat (.bool true)) := by
  unfold eqD
  rw [if_pos (by rw [shaped_bools]; rfl)]
  simp only [PyData.eqv, eqvAll_bools]
theorem in_list {x : Str} {xs : List Str} (hx : TxOk x) (hxs : ∀ y ∈ xs, TxOk y) : inD false (.str x) (lsD xs) = some (.dat (.bool (decide (x ∈ xs)))) := by
  have h1 : PyData.canLayAll0 (xs.map PyData.str) = true := canLayAll_of fun d hd => by
    obtain ⟨y, hy, rfl⟩ := List.mem_map.mp hd
    exact hxs y hy
  have h2 : SeqAt.shaped (.list (xs.map PyData.str)) = true := by
    simp [SeqAt.shaped, PyData.canLay0, h1, PyData.depth, depth_strs]
  unfold lsD inD
  simp only [shaped_str hx, h2, Bool.and_self, if_true]
  have : ((xs.map PyData.str).any fun z => PyData.eqv z (.str x)) = decide (x ∈ xs) := by
    clear h1 h2 hxs
    induction xs with
    | nil => rfl
    | cons y r ih =>
      rw [List.map_cons, List.any_cons, ih]
      by_cases e : y = x
      · subst e
        simp [PyData.eqv]
      · have e' : ¬ x = y := fun h => e h.symm
        simp [PyData.eqv, e, e']
  rw [this]
  rfl
theorem lights_sum {w : Int} {ps : List Pl} {ts : List Ti} (hH : Hall w ps ts) {P : List Str} (nd : P.Nodup) (sub : ∀ x ∈ P, x ∈ ps.map (·.1)) : ((ps.filter fun p => decide (p.1 ∈ P)).map (·.2.1)).sum = (sm P (faceN ps) : Int) := by
  have hwf := hH.wf
  have h2 : sl (ps.filter fun p => decide (p.1 ∈ P)) fN = sm P (faceN ps) := by
    have e1 : sl (ps.filter fun p => decide (p.1 ∈ P)) fN = sl ((ps.filter fun p => decide (p.1 ∈ P)).map (·.1)) (faceN ps) := by
      rw [sl_map]
      refine sl_congr fun p hp => ?_
      exact (faceN_of hwf.nd (List.mem_filter.mp hp).1).symm
    rw [e1]
    refine sl_perm ((List.perm_ext_iff_of_nodup (List.Nodup.sublist (List.Sublist.map _ List.filter_sublist) hwf.nd) nd).mpr fun x => ?_) _
    constructor
    · intro h
      obtain ⟨p, hp, rfl⟩ := List.mem_map.mp h
      simpa using (List.mem_filter.mp hp).2
    · intro h
      obtain ⟨p, hp, rfl⟩ := List.mem_map.mp (sub x h)
      exact List.mem_map.mpr ⟨p, List.mem_filter.mpr ⟨hp, by simpa using h⟩, rfl⟩
  rw [sum_fN (w := w) (fun p hp => (hH.ok p (List.mem_filter.mp hp).1).1), h2]
theorem cut_mem {ds : List PyData} {lo hi : Option Int} {d : PyData} (h : d ∈ Mw.cutD ds lo hi) : d ∈ ds := List.mem_of_mem_drop (List.mem_of_mem_take h)
theorem cut_len (ds : List PyData) (lo hi : Option Int) : (Mw.cutD ds lo hi).length ≤ ds.length := by
  unfold Mw.cutD
  rw [List.length_take, List.length_drop]
  omega
end Kx

set_option Elab.async false
set_option linter.all false
set_option maxRecDepth 100000
set_option autoImplicit false
namespace Kx
open PySem PySem.Spec PyProof.Rows L2 Mw
theorem or_ev {m n : MT} {ρ ρ1 : En} (h : m ρ = some (false, ρ1)) : mOr m n ρ = n ρ1 := by
  simp only [mOr, h]
def oddB (ps : List Pl) (P : List Str) : Bool := decide (sm P (faceN ps) % 2 = 1)
theorem small_spec (w : Int) {ps : List Pl} {ts : List Ti} (hH : Hall w ps ts) (hn : ps.length ≤ 6) (h1 : ps ≠ []) (a b c : Int) : fm__law_small_right [box a b c, .dat (hallD w ps ts)] = some (.dat (.bool true), [box a b c, .dat (hallD w ps ts)]) := by
  have h := hH.wf
  obtain ⟨Ws, hW, hWl, q1⟩ := ways_spec w hH hn h1
  obtain ⟨Ps, hP, _, hPz0, q2⟩ := pieces_spec w h (by omega) hH.mem
  have hPl : ∀ P ∈ Ps, P.length ≤ ps.length := fun P hp => by
    have := (hP P hp).1.length_le_of_subset (hP P hp).2.1
    simpa using this
  have txn : ∀ P ∈ Ps, ∀ x ∈ P, TxOk x := fun P hp x hx => by
    obtain ⟨p, hp', rfl⟩ := List.mem_map.mp ((hP P hp).2.1 x hx)
    exact h.tx p hp'
  have hPz : Ps.length < 1000000 := by omega
  -- where a way is, each piece is odd
  have hodd : Ws ≠ [] → ¬ false ∈ Ps.map (oddB ps) := fun hne hf => by
    obtain ⟨W, hw⟩ := List.exists_mem_of_ne_nil _ hne
    obtain ⟨ts', R⟩ := hW W hw
    obtain ⟨P, hp, e⟩ := List.mem_map.mp hf
    have := way_odd hH R (hP P hp)
    unfold oddB at e
    rw [this] at e
    cases e
  -- the odd ones
  have lp0 : ∀ (B : DV), loopC [6] (gN 6) mYes (mCall [] fm_is_odd (mCons (mVar 1) (mCons (mVar 6) mNil))) (Ps.map lsD) [] [some B, some (.dat (hallD w ps ts)), none, none, none, none, none, none, none, none] = some ((Ps.map (oddB ps)).map PyData.bool, [some B, some (.dat (hallD w ps ts)), none, none, none, none, none, none, none, none]) := by
    intro B
    have := loopC_map (vs := [6]) (g := gN 6) (t := mYes) (me := mCall [] fm_is_odd (mCons (mVar 1) (mCons (mVar 6) mNil))) lsD (fun _ => true) (fun P => PyData.bool (oddB ps P)) [some B, some (.dat (hallD w ps ts)), none, none, none, none, none, none, none, none] Ps [] (fun P hp => ⟨_, rfl, .inl ⟨rfl, _, _, _, _, rfl, call2_ev (i := 1) (j := 6) rfl rfl (is_odd_spec w hH P (hP P hp).2.1 (by have := hPl P hp; omega)), rfl, rfl⟩⟩)
    rw [this, List.filter_eq_self.mpr (by simp), List.map_map]
    rfl
  have i0 := iE_call (call1_ev (i := 1) (ρ := [some (box a b c), some (.dat (hallD w ps ts)), none, none, none, none, none, none, none, none]) rfl q2)
  have c0 := lc_ev (vs := [6]) (ρ4 := [some (box a b c), some (.dat (hallD w ps ts)), none, none, none, none, none, none, none, none]) i0 (by rw [List.length_map]; exact hPz) rfl rfl (lp0 _) rfl
  have s0 := par2_nn (i := 2) (j := 3) (call1_ev (i := 1) (ρ := [some (box a b c), some (.dat (hallD w ps ts)), none, none, none, none, none, none, none, none]) rfl q1) c0 (by simp) (by simp)
  -- is one not odd
  have tin : ∀ (e4 : Option DV) (HH : PyData), mB (mIn false (mC (.bool false)) (mVar 3)) [some (box a b c), some (.dat HH), some (.obj (.lst (Ws.map tupS))), some (.obj (.lst ((Ps.map (oddB ps)).map PyData.bool))), e4, none, none, none, none, none] = some (decide (false ∈ Ps.map (oddB ps)), [some (box a b c), some (.dat HH), some (.obj (.lst (Ws.map tupS))), some (.obj (.lst ((Ps.map (oddB ps)).map PyData.bool))), e4, none, none, none, none, none]) := by
    intro e4 HH
    have := in_bools (Ps.map (oddB ps))
    generalize (Ps.map (oddB ps)).map PyData.bool = L at *
    simp [mB, mIn, mCons, mC, mVar, mNil, frz1, dctAt, setAt, looks, lookS, this]
  have s1 : mIfS (mAnd (mB (mIn false (mC (.bool false)) (mVar 3))) (mB (mOp2 neD (mVar 2) (mLst mNil)))) (mRet (mC (.bool false))) mSkip [some (box a b c), some (.dat (hallD w ps ts)), some (.obj (.lst (Ws.map tupS))), some (.obj (.lst ((Ps.map (oddB ps)).map PyData.bool))), none, none, none, none, none, none] = some (.next, [some (box a b c), some (.dat (hallD w ps ts)), some (.obj (.lst (Ws.map tupS))), some (.obj (.lst ((Ps.map (oddB ps)).map PyData.bool))), none, none, none, none, none, none]) := by
    have t := tin none (hallD w ps ts)
    by_cases hf : false ∈ Ps.map (oddB ps)
    · have hW0 : Ws = [] := Classical.byContradiction fun z => hodd z hf
      subst hW0
      rw [decide_eq_true hf] at t
      have t2 : mB (mOp2 neD (mVar 2) (mLst mNil)) [some (box a b c), some (.dat (hallD w ps ts)), some (.obj (.lst (([] : List (List Str)).map tupS))), some (.obj (.lst ((Ps.map (oddB ps)).map PyData.bool))), none, none, none, none, none, none] = some (false, [some (box a b c), some (.dat (hallD w ps ts)), some (.obj (.lst (([] : List (List Str)).map tupS))), some (.obj (.lst ((Ps.map (oddB ps)).map PyData.bool))), none, none, none, none, none, none]) := by
        generalize hallD w ps ts = HH
        have := ne_nil [] (by simp)
        simp only [List.map_nil] at this ⊢
        simp [mB, mOp2, mPure, mCons, mVar, mLst, mNil, frz1, escAll, looks, lookS, f2, this]
      exact (ifS_false ((and_ev t).trans t2)).trans rfl
    · rw [decide_eq_false hf] at t
      refine (ifS_false ?_).trans rfl
      unfold mAnd
      rw [t]
  -- some of the ways
  have i2 : iE (mOp2 addD (mSl (mVar 2) oNone (oSome (mC (.int 6)))) (mSl (mVar 2) (oSome (mOp1 negD (mC (.int 1)))) oNone)) [some (box a b c), some (.dat (hallD w ps ts)), some (.obj (.lst (Ws.map tupS))), some (.obj (.lst ((Ps.map (oddB ps)).map PyData.bool))), none, none, none, none, none, none] = some (Mw.cutD (Ws.map tupS) none (some 6) ++ Mw.cutD (Ws.map tupS) (some (-1)) none, [some (box a b c), some (.dat (hallD w ps ts)), some (.obj (.lst (Ws.map tupS))), some (.obj (.lst ((Ps.map (oddB ps)).map PyData.bool))), none, none, none, none, none, none]) := by
    generalize hallD w ps ts = HH
    have l1 := cut_len (Ws.map tupS) none (some 6)
    have l2 := cut_len (Ws.map tupS) (some (-1)) none
    rw [List.length_map] at l1 l2
    generalize hA : Mw.cutD (Ws.map tupS) none (some 6) = A at *
    generalize hB : Mw.cutD (Ws.map tupS) (some (-1)) none = B at *
    have hl : A.length + B.length ≤ sizeLine := Nat.le_of_lt (few (by omega))
    have hadd : addD (.list A) (.list B) = some (.new (.lst (A ++ B))) := by
      simp [addD, fOr, Mw.i2, catS, catL, hl]
    generalize Ws.map tupS = WW at *
    refine iE_call (op2_ev (f := addD) (ma := mSl (mVar 2) oNone (oSome (mC (.int 6)))) (r1 := .new (.lst A)) (ρ1 := [some (box a b c), some (.dat HH), some (.obj (.lst WW)), some (.obj (.lst ((Ps.map (oddB ps)).map PyData.bool))), none, none, none, none, none, none]) ?_ rfl (r2 := .new (.lst B)) ?_ rfl hadd)
    · simp [mSl, mVar, frz1, oSome, mOp1, mPure, mCons, mC, mNil, looks, lookS, f1, negD, oNone, slD, hA]
    · simp [mSl, mVar, frz1, oSome, mOp1, mPure, mCons, mC, mNil, looks, lookS, f1, negD, oNone, slD, hB]
  obtain ⟨ρ', lp2, -, e4, rfl⟩ := loopS_all (g := gN 4) (body := mIfS (mOr (mB (mOp2 isnD (mCall [] fm_is_way (mCons (mVar 1) (mCons (mOp1 listD (mVar 4)) mNil))) (mC (.bool true)))) (mOr (mNot (mTru (mCall [] fm__law_rows_right (mCons (mVar 1) (mCons (mVar 4) mNil))))) (mB (mIn false (mC (.bool false)) (mVar 3))))) (mRet (mC (.bool false))) mSkip)
    (fun ds ρ => (∀ d ∈ ds, d ∈ Ws.map tupS) ∧ ∃ e4 : Option DV, ρ = [some (box a b c), some (.dat (hallD w ps ts)), some (.obj (.lst (Ws.map tupS))), some (.obj (.lst ((Ps.map (oddB ps)).map PyData.bool))), e4, none, none, none, none, none]) (Mw.cutD (Ws.map tupS) none (some 6) ++ Mw.cutD (Ws.map tupS) (some (-1)) none) [some (box a b c), some (.dat (hallD w ps ts)), some (.obj (.lst (Ws.map tupS))), some (.obj (.lst ((Ps.map (oddB ps)).map PyData.bool))), none, none, none, none, none, none] ⟨fun d hd => (List.mem_append.mp hd).elim cut_mem cut_mem, none, rfl⟩ (by
      rintro d ds ρ ⟨hd, e4, rfl⟩
      obtain ⟨W, hw, rfl⟩ := List.mem_map.mp (hd d List.mem_cons_self)
      obtain ⟨ts', R⟩ := hW W hw
      refine ⟨_, [some (box a b c), some (.dat (hallD w ps ts)), some (.obj (.lst (Ws.map tupS))), some (.obj (.lst ((Ps.map (oddB ps)).map PyData.bool))), some (.dat (tupS W)), none, none, none, none, none], rfl, .inl ?_, fun d hd' => hd d (List.mem_cons_of_mem _ hd'), _, rfl⟩
      have x1 := callM_ev (i := 1) (m := mOp1 listD (mVar 4)) (ρ := [some (box a b c), some (.dat (hallD w ps ts)), some (.obj (.lst (Ws.map tupS))), some (.obj (.lst ((Ps.map (oddB ps)).map PyData.bool))), some (.dat (tupS W)), none, none, none, none, none]) rfl rfl rfl (is_way_spec w R h)
      have x2 := op2_ev (f := isnD) (mb := mC (.bool true)) x1 rfl rfl rfl (r := .dat (.bool false)) rfl
      have x3 := call2_ev (i := 1) (j := 4) (ρ := [some (box a b c), some (.dat (hallD w ps ts)), some (.obj (.lst (Ws.map tupS))), some (.obj (.lst ((Ps.map (oddB ps)).map PyData.bool))), some (.dat (tupS W)), none, none, none, none, none]) rfl rfl (rows_spec w hH R)
      have x4 := tin (some (.dat (tupS W))) (hallD w ps ts)
      rw [decide_eq_false (hodd (List.ne_nil_of_mem hw))] at x4
      refine (ifS_false (ρ1 := [some (box a b c), some (.dat (hallD w ps ts)), some (.obj (.lst (Ws.map tupS))), some (.obj (.lst ((Ps.map (oddB ps)).map PyData.bool))), some (.dat (tupS W)), none, none, none, none, none]) ?_).trans rfl
      generalize mB (mIn false (mC (.bool false)) (mVar 3)) = M4 at *
      generalize mCall [] fm__law_rows_right (mCons (mVar 1) (mCons (mVar 4) mNil)) = M3 at *
      generalize mOp2 isnD (mCall [] fm_is_way (mCons (mVar 1) (mCons (mOp1 listD (mVar 4)) mNil))) (mC (.bool true)) = M2 at *
      have z2 : mB M2 [some (box a b c), some (.dat (hallD w ps ts)), some (.obj (.lst (Ws.map tupS))), some (.obj (.lst ((Ps.map (oddB ps)).map PyData.bool))), some (.dat (tupS W)), none, none, none, none, none] = some (false, [some (box a b c), some (.dat (hallD w ps ts)), some (.obj (.lst (Ws.map tupS))), some (.obj (.lst ((Ps.map (oddB ps)).map PyData.bool))), some (.dat (tupS W)), none, none, none, none, none]) := by
        unfold mB
        rw [x2]
      have z3 : mNot (mTru M3) [some (box a b c), some (.dat (hallD w ps ts)), some (.obj (.lst (Ws.map tupS))), some (.obj (.lst ((Ps.map (oddB ps)).map PyData.bool))), some (.dat (tupS W)), none, none, none, none, none] = some (false, [some (box a b c), some (.dat (hallD w ps ts)), some (.obj (.lst (Ws.map tupS))), some (.obj (.lst ((Ps.map (oddB ps)).map PyData.bool))), some (.dat (tupS W)), none, none, none, none, none]) := by
        unfold mNot mTru
        rw [x3]
        rfl
      exact (or_ev z2).trans ((or_ev z3).trans x4))
  have s2 := (for_ev i2).trans lp2
  -- the lights
  have lp3 : ∀ (HH : PyData) (o2 o3 : OB) (e4 : Option DV), HH = hallD w ps ts → loopC [6] (gN 6) mYes (mOp2 eqD (mOp2 modD (mOp1 sumD (mLc (iE (mSub (mVar 1) (mC (.int 1)))) [7, 8, 9] (gT 3 (gsCons (gN 7) (gsCons (gN 8) (gsCons (gN 9) gsNil)))) (mB (mIn false (mVar 7) (mVar 6))) (mVar 8))) (mC (.int 2))) (mC (.int 1))) (Ps.map lsD) [] [some (box a b c), some (.dat HH), some (.obj o2), some (.obj o3), e4, none, none, none, none, none] = some ((Ps.map (oddB ps)).map PyData.bool, [some (box a b c), some (.dat HH), some (.obj o2), some (.obj o3), e4, none, none, none, none, none]) := by
    intro HH o2 o3 e4 hHH
    have := loopC_map (vs := [6]) (g := gN 6) (t := mYes) (me := mOp2 eqD (mOp2 modD (mOp1 sumD (mLc (iE (mSub (mVar 1) (mC (.int 1)))) [7, 8, 9] (gT 3 (gsCons (gN 7) (gsCons (gN 8) (gsCons (gN 9) gsNil)))) (mB (mIn false (mVar 7) (mVar 6))) (mVar 8))) (mC (.int 2))) (mC (.int 1))) lsD (fun _ => true) (fun P => PyData.bool (oddB ps P)) [some (box a b c), some (.dat HH), some (.obj o2), some (.obj o3), e4, none, none, none, none, none] Ps [] (fun P hp => by
      refine ⟨_, rfl, .inl ⟨rfl, [some (box a b c), some (.dat HH), some (.obj o2), some (.obj o3), e4, none, some (.dat (lsD P)), none, none, none], .dat (.bool (oddB ps P)), [some (box a b c), some (.dat HH), some (.obj o2), some (.obj o3), e4, none, some (.dat (lsD P)), none, none, none], [some (box a b c), some (.dat HH), some (.obj o2), some (.obj o3), e4, none, some (.dat (lsD P)), none, none, none], rfl, ?_, rfl, rfl⟩⟩
      have inner := loopC_map (vs := [7, 8, 9]) (g := gT 3 (gsCons (gN 7) (gsCons (gN 8) (gsCons (gN 9) gsNil)))) (t := mB (mIn false (mVar 7) (mVar 6))) (me := mVar 8) plD (fun p => decide (p.1 ∈ P)) (fun p => PyData.int p.2.1) [some (box a b c), some (.dat HH), some (.obj o2), some (.obj o3), e4, none, some (.dat (lsD P)), none, none, none] ps [] (fun p hpp => by
        have hin := in_list (h.tx p hpp) (txn P hp)
        have ht : mB (mIn false (mVar 7) (mVar 6)) [some (box a b c), some (.dat HH), some (.obj o2), some (.obj o3), e4, none, some (.dat (lsD P)), some (.dat (.str p.1)), some (.dat (.int p.2.1)), some (.dat (.int p.2.2))] = some (decide (p.1 ∈ P), [some (box a b c), some (.dat HH), some (.obj o2), some (.obj o3), e4, none, some (.dat (lsD P)), some (.dat (.str p.1)), some (.dat (.int p.2.1)), some (.dat (.int p.2.2))]) := by
          generalize lsD P = L at *
          simp [mB, mIn, mCons, mVar, mNil, frz1, dctAt, setAt, looks, lookS, hin]
        refine ⟨_, rfl, ?_⟩
        by_cases hm : p.1 ∈ P
        · rw [decide_eq_true hm] at ht
          exact .inl ⟨decide_eq_true hm, _, _, _, _, ht, rfl, rfl, rfl⟩
        · rw [decide_eq_false hm] at ht
          exact .inr ⟨decide_eq_false hm, _, ht, rfl⟩)
      rw [List.nil_append] at inner
      have i : iE (mSub (mVar 1) (mC (.int 1))) [some (box a b c), some (.dat HH), some (.obj o2), some (.obj o3), e4, none, some (.dat (lsD P)), none, none, none] = some (ps.map plD, [some (box a b c), some (.dat HH), some (.obj o2), some (.obj o3), e4, none, some (.dat (lsD P)), none, none, none]) := by
        subst hHH
        rfl
      have c1 := lc_ev (vs := [7, 8, 9]) (ρ4 := [some (box a b c), some (.dat HH), some (.obj o2), some (.obj o3), e4, none, some (.dat (lsD P)), none, none, none]) i (by rw [List.length_map]; omega) rfl rfl inner rfl
      have hs : sumD (.list ((ps.filter fun p => decide (p.1 ∈ P)).map fun p => PyData.int p.2.1)) = some (.dat (.int (sm P (faceN ps) : Int))) := by
        have e : ((ps.filter fun p => decide (p.1 ∈ P)).map fun p => PyData.int p.2.1) = ((ps.filter fun p => decide (p.1 ∈ P)).map (·.2.1)).map PyData.int := by rw [List.map_map]; rfl
        rw [e]
        simp only [sumD, intsD_map, lights_sum hH (hP P hp).1 (hP P hp).2.1]
      have hmod : modD (.int (sm P (faceN ps) : Int)) (.int 2) = some (.dat (.int ((sm P (faceN ps) : Int).fmod 2))) := by simp [modD, i2c, cModB]
      have c2 := op2_ev (f := eqD) (op2_ev (f := modD) (op1_ev c1 rfl hs) rfl (mb := mC (.int 2)) rfl rfl hmod) rfl (mb := mC (.int 1)) rfl rfl (eqD_int _ _)
      have hb : decide ((sm P (faceN ps) : Int).fmod 2 = 1) = oddB ps P := by
        rw [Int.fmod_eq_emod_of_nonneg _ (by decide)]
        exact decide_eq_decide.mpr (by omega)
      rw [hb] at c2
      exact c2)
    rw [this, List.filter_eq_self.mpr (by simp), List.map_map]
    rfl
  have i3 := iE_call (call1_ev (i := 1) (ρ := [some (box a b c), some (.dat (hallD w ps ts)), some (.obj (.lst (Ws.map tupS))), some (.obj (.lst ((Ps.map (oddB ps)).map PyData.bool))), e4, none, none, none, none, none]) rfl q2)
  have c3 := lc_ev (vs := [6]) (ρ4 := [some (box a b c), some (.dat (hallD w ps ts)), some (.obj (.lst (Ws.map tupS))), some (.obj (.lst ((Ps.map (oddB ps)).map PyData.bool))), e4, none, none, none, none, none]) i3 (by rw [List.length_map]; exact hPz) rfl rfl (lp3 _ _ _ _ rfl) rfl
  have s3 := set_new (i := 5) c3 (by simp)
  have s4 : mRet (mOp2 eqD (mVar 3) (mVar 5)) [some (box a b c), some (.dat (hallD w ps ts)), some (.obj (.lst (Ws.map tupS))), some (.obj (.lst ((Ps.map (oddB ps)).map PyData.bool))), e4, some (.obj (.lst ((Ps.map (oddB ps)).map PyData.bool))), none, none, none, none] = some (.ret (.dat (.bool true)), [some (box a b c), some (.dat (hallD w ps ts)), some (.obj (.lst (Ws.map tupS))), some (.obj (.lst ((Ps.map (oddB ps)).map PyData.bool))), e4, some (.obj (.lst ((Ps.map (oddB ps)).map PyData.bool))), none, none, none, none]) := by
    have := eq_bools (Ps.map (oddB ps))
    generalize hallD w ps ts = HH
    generalize (Ps.map (oddB ps)).map PyData.bool = L at *
    simp [mRet, mOp2, mPure, mCons, mVar, mNil, frz1, looks, lookS, f2, this]
  have all : m__law_small_right [some (box a b c), some (.dat (hallD w ps ts)), none, none, none, none, none, none, none, none] = _ := (seq_next s0).trans ((seq_next s1).trans ((seq_next s2).trans ((seq_next s3).trans s4)))
  unfold fm__law_small_right runF
  generalize m__law_small_right = MM at all ⊢
  generalize hallD w ps ts = Y at *
  simp [okArgs, Mw.em, all, finF, outR, outA]
end Kx

set_option Elab.async false
set_option linter.all false
set_option maxRecDepth 100000
set_option autoImplicit false
namespace Kx
open PySem PySem.Spec PyProof.Rows L2 Mw
theorem run_right {M : MS} {o o' : OB} {d : PyData} {e1 e2 e3 : Option DV} (h : M [some (.obj o), none, none, none] = some (.ret (.dat d), [some (.obj o'), e1, e2, e3])) : runF 1 4 [0] M [.obj o] = some (.dat d, [.obj o']) := by
  unfold runF
  simp [okArgs, Mw.em, h, finF, outR, outA]
theorem ifE_true {t : MT} {a b : ME} {ρ ρ1 : En} (h : t ρ = some (true, ρ1)) : mIf t a b ρ = a ρ1 := by
  simp only [mIf, h]
theorem ifE_false {t : MT} {a b : ME} {ρ ρ1 : En} (h : t ρ = some (false, ρ1)) : mIf t a b ρ = b ρ1 := by
  simp only [mIf, h]
/-- a yard of some size, homely or any -/
theorem yard_ev {t : MT} {bt : Bool} {m : ME} {o0 : OB} (x y z : Int) (n : Nat) (hn : n ≤ 26) (rest : En) (ht : t (some (box x y z) :: rest) = some (bt, some (box x y z) :: rest)) (hm : m (some (box x y z) :: rest) = some (.dat (.int n), some (box x y z) :: rest)) : ∃ (w : Int) (ps : List Pl) (ts : List Ti) (x' y' z' : Int), Hall w ps ts ∧ ps.length = n ∧ mIf t (mCall [0] fm__law_homely (mCons (mVar 0) (mCons m mNil))) (mCall [0] fm__law_any_yard (mCons (mVar 0) (mCons m mNil))) (some (box x y z) :: rest) = some (.dat (hallD w ps ts), some (box x' y' z') :: rest) := by
  cases bt with
  | true =>
    obtain ⟨w, ps, ts, x', y', z', hH, hl, e⟩ := homely_spec x y z n hn
    exact ⟨w, ps, ts, x', y', z', hH, hl, (ifE_true ht).trans (callB_ev (ρ := some (box x y z) :: rest) rfl hm e)⟩
  | false =>
    obtain ⟨w, ps, ts, x', y', z', hH, hl, e⟩ := any_spec x y z n hn
    exact ⟨w, ps, ts, x', y', z', hH, hl, (ifE_false ht).trans (callB_ev (ρ := some (box x y z) :: rest) rfl hm e)⟩
theorem seq_stop {m1 m2 : MS} {ρ ρ1 : En} {r : Rs} (h : m1 ρ = some (.ret r, ρ1)) : mSeq m1 m2 ρ = some (.ret r, ρ1) := by
  simp only [mSeq, h]
theorem right_spec (a b c : Int) : ∃ as, fm__law_right [box a b c] = some (.dat (.bool true), as) := by
  obtain ⟨ρ', lp, -, a1, b1, c1, e1, e2, e3, rfl⟩ := loopS_all (g := gN 1) (body := mSeq (mSet 2 (mOp2 addD (mC (.int 1)) (mCall [0] fm__law_take (mCons (mVar 0) (mCons (mC (.int 6)) mNil))))) (mSeq (mSet 3 (mIf (mB (mOp2 gtD (mVar 1) (mC (.int 0)))) (mCall [0] fm__law_homely (mCons (mVar 0) (mCons (mVar 2) mNil))) (mCall [0] fm__law_any_yard (mCons (mVar 0) (mCons (mVar 2) mNil))))) (mIfS (mNot (mTru (mCall [0] fm__law_small_right (mCons (mVar 0) (mCons (mVar 3) mNil))))) (mRet (mC (.bool false))) mSkip)))
    (fun ds ρ => (∀ d ∈ ds, ∃ i : Nat, d = PyData.int (i : Int)) ∧ ∃ (a b c : Int) (e1 e2 e3 : Option DV), ρ = [some (box a b c), e1, e2, e3]) ((List.range' 0 3).map fun i : Nat => PyData.int (i : Int)) [some (box a b c), none, none, none] ⟨fun d hd => by
      obtain ⟨i, _, rfl⟩ := List.mem_map.mp hd
      exact ⟨i, rfl⟩, a, b, c, none, none, none, rfl⟩ (by
      rintro d ds ρ ⟨hd, x, y, z, e1, e2, e3, rfl⟩
      obtain ⟨i, rfl⟩ := hd d List.mem_cons_self
      obtain ⟨r, x1, z1, t1, hr0, hr1⟩ := take_c x y z 6 [some (.dat (.int (i : Int))), e2, e3] (by decide) (by decide)
      obtain ⟨r, rfl⟩ := Int.eq_ofNat_of_zero_le hr0
      have s1 := set_dat (i := 2) (op2_ev (f := addD) (ma := mC (.int 1)) rfl rfl t1 rfl (add_int 1 (r : Int)))
      have ht : mB (mOp2 gtD (mVar 1) (mC (.int 0))) [some (box x1 y z1), some (.dat (.int (i : Int))), some (.dat (.int (1 + (r : Int)))), e3] = some (decide ((i : Int) > 0), [some (box x1 y z1), some (.dat (.int (i : Int))), some (.dat (.int (1 + (r : Int)))), e3]) := by
        simp [mB, mOp2, mPure, mCons, mVar, mC, mNil, frz1, looks, lookS, f2, gtD, Mw.i2]
      have hcast : (1 + (r : Int)) = ((1 + r : Nat) : Int) := by omega
      rw [hcast] at s1 ht
      obtain ⟨w, ps, ts, x2, y2, z2, hH, hl, e⟩ := yard_ev (o0 := .lst []) (m := mVar 2) x1 y z1 (1 + r) (by omega) _ ht rfl
      have s2 := set_dat (i := 3) e
      have q := small_spec w hH (by omega) (fun z => by rw [z] at hl; simp at hl; omega) x2 y2 z2
      have q' := callB_ev (ρ := [some (box x2 y2 z2), some (.dat (.int (i : Int))), some (.dat (.int ((1 + r : Nat) : Int))), some (.dat (hallD w ps ts))]) (m := mVar 3) rfl rfl q
      exact ⟨_, _, rfl, .inl ((seq_next s1).trans ((seq_next s2).trans (notfalse q'))), fun d hd' => hd d (List.mem_cons_of_mem _ hd'), x2, y2, z2, _, _, _, rfl⟩)
  have s1 := (for_ev (g := gN 1) (const_range 3 (by decide) _)).trans lp
  obtain ⟨r, a2, c2, t2, hr0, hr1⟩ := take_c a1 b1 c1 2 [e1, e2, e3] (by decide) (by decide)
  have te : mB (mOp2 eqD (mCall [0] fm__law_take (mCons (mVar 0) (mCons (mC (.int 2)) mNil))) (mC (.int 0))) [some (box a1 b1 c1), e1, e2, e3] = some (decide (r = 0), [some (box a2 b1 c2), e1, e2, e3]) := by
    have := op2_ev (f := eqD) (mb := mC (.int 0)) t2 rfl rfl rfl (eqD_int _ _)
    unfold mB
    rw [this]
  by_cases hr : r = 0
  · rw [decide_eq_true hr] at te
    obtain ⟨w, ps, ts, a3, b3, c3, hH, hl, e⟩ := homely_spec a2 b1 c2 24 (by decide)
    have y1 := callB_ev (ρ := [some (box a2 b1 c2), e1, e2, e3]) (m := mC (.int 24)) rfl rfl e
    obtain ⟨a4, b4, c4, g⟩ := great_spec w hH a3 b3 c3
    have y2 := callBM_ev (ρ := [some (box a2 b1 c2), e1, e2, e3]) rfl y1 rfl g
    have y3 := (ifS_true (b := mSkip) te).trans (ret_ev y2)
    refine ⟨[box a4 b4 c4], ?_⟩
    have all : m__law_right [some (box a b c), none, none, none] = _ := (seq_next s1).trans (seq_stop y3)
    unfold fm__law_right
    exact run_right all
  · rw [decide_eq_false hr] at te
    obtain ⟨w, ps, ts, a3, b3, c3, hH, hl, e⟩ := any_spec a2 b1 c2 24 (by decide)
    have y1 := callB_ev (ρ := [some (box a2 b1 c2), e1, e2, e3]) (m := mC (.int 24)) rfl rfl e
    obtain ⟨a4, b4, c4, g⟩ := great_spec w hH a3 b3 c3
    have y2 := callBM_ev (ρ := [some (box a2 b1 c2), e1, e2, e3]) rfl y1 rfl g
    have y3 : mIfS (mB (mOp2 eqD (mCall [0] fm__law_take (mCons (mVar 0) (mCons (mC (.int 2)) mNil))) (mC (.int 0)))) (mRet (mCall [0] fm__law_great_right (mCons (mVar 0) (mCons (mCall [0] fm__law_homely (mCons (mVar 0) (mCons (mC (.int 24)) mNil))) mNil)))) mSkip [some (box a1 b1 c1), e1, e2, e3] = some (.next, [some (box a2 b1 c2), e1, e2, e3]) := (ifS_false te).trans rfl
    refine ⟨[box a4 b4 c4], ?_⟩
    have all : m__law_right [some (box a b c), none, none, none] = _ := (seq_next s1).trans ((seq_next y3).trans (ret_ev y2))
    unfold fm__law_right
    exact run_right all
theorem law_yes : ∀ ns : List Int, ns.length ≤ 63 → ∃ as, fm_law [.dat (.dict [(.none, .list (ns.map PyData.int))])] = some (.dat (.bool true), as) := fun ns _ => law_of right_spec ns
end Kx

set_option Elab.async false
set_option linter.all false
set_option maxRecDepth 100000
open PySem PySem.W PyProof.Rows
set_option maxHeartbeats 0 in
theorem PySem.Challenge.cw_mirrorwood_k05_whole_lights_along_rows_holds : PySem.Challenge.rw_mirrorwood_k05_whole_lights_along_rows.Holds := by
  w_on; o_law; k_head; (case hw => w_witness2)
  k_fill
  refine Mw.walkG (l := PySem.Challenge.rw_mirrorwood_k05_whole_lights_along_rows) (n := 63) (k := 10) (x := "_law_script") (st := Kx.topS 43) (fm := Kx.fm_law) rfl (by decide) rfl ⟨rfl, by decide, by decide⟩ (fun w h Y => PySem.W.kIn_of Y) ?F Kx.law_yes
  case F =>
    intro w mg h KX G base
    have R_is_number : Mw.Raw (L2.KOf KX) mg "is_number" (Kx.topS 1) ["thing"] := by
      unfold L2.KOf
      refine' Mw.raw_mk KX G (fun _ _ _ _ _ _ us hl => match us, hl with | [_], _ => rfl) ?a ?l ?c ?k
      (case a => k_is); (case l => k_is); (case c => k_is); (case k => k_is)
    have R_copied : Mw.Raw (L2.KOf KX) mg "copied" (Kx.topS 2) ["thing"] := by
      unfold L2.KOf
      refine' Mw.raw_mk KX G (fun _ _ _ _ _ _ us hl => match us, hl with | [_], _ => rfl) ?a ?l ?c ?k
      (case a => k_is); (case l => k_is); (case c => k_is); (case k => k_is)
    have R_counted : Mw.Raw (L2.KOf KX) mg "counted" (Kx.topS 4) ["wheel", "number"] := by
      unfold L2.KOf
      refine' Mw.raw_mk KX G (fun _ _ _ _ _ _ us hl => match us, hl with | [_, _], _ => rfl) ?a ?l ?c ?k
      (case a => k_is); (case l => k_is); (case c => k_is); (case k => k_is)
    have R_is_counted : Mw.Raw (L2.KOf KX) mg "is_counted" (Kx.topS 5) ["wheel", "thing"] := by
      unfold L2.KOf
      refine' Mw.raw_mk KX G (fun _ _ _ _ _ _ us hl => match us, hl with | [_, _], _ => rfl) ?a ?l ?c ?k
      (case a => k_is); (case l => k_is); (case c => k_is); (case k => k_is)
    have R_is_card : Mw.Raw (L2.KOf KX) mg "is_card" (Kx.topS 6) ["wheel", "thing"] := by
      unfold L2.KOf
      refine' Mw.raw_mk KX G (fun _ _ _ _ _ _ us hl => match us, hl with | [_, _], _ => rfl) ?a ?l ?c ?k
      (case a => k_is); (case l => k_is); (case c => k_is); (case k => k_is)
    have R_mirrored : Mw.Raw (L2.KOf KX) mg "mirrored" (Kx.topS 7) ["wheel", "card", "mirror"] := by
      unfold L2.KOf
      refine' Mw.raw_mk KX G (fun _ _ _ _ _ _ us hl => match us, hl with | [_, _, _], _ => rfl) ?a ?l ?c ?k
      (case a => k_is); (case l => k_is); (case c => k_is); (case k => k_is)
    have R_is_free : Mw.Raw (L2.KOf KX) mg "is_free" (Kx.topS 8) ["card"] := by
      unfold L2.KOf
      refine' Mw.raw_mk KX G (fun _ _ _ _ _ _ us hl => match us, hl with | [_], _ => rfl) ?a ?l ?c ?k
      (case a => k_is); (case l => k_is); (case c => k_is); (case k => k_is)
    have R_names_of : Mw.Raw (L2.KOf KX) mg "names_of" (Kx.topS 12) ["hall"] := by
      unfold L2.KOf
      refine' Mw.raw_mk KX G (fun _ _ _ _ _ _ us hl => match us, hl with | [_], _ => rfl) ?a ?l ?c ?k
      (case a => k_is); (case l => k_is); (case c => k_is); (case k => k_is)
    have R_near : Mw.Raw (L2.KOf KX) mg "near" (Kx.topS 13) ["hall", "name"] := by
      unfold L2.KOf
      refine' Mw.raw_mk KX G (fun _ _ _ _ _ _ us hl => match us, hl with | [_, _], _ => rfl) ?a ?l ?c ?k
      (case a => k_is); (case l => k_is); (case c => k_is); (case k => k_is)
    have R_card_of : Mw.Raw (L2.KOf KX) mg "card_of" (Kx.topS 14) ["hall", "name"] := by
      unfold L2.KOf
      refine' Mw.raw_mk KX G (fun _ _ _ _ _ _ us hl => match us, hl with | [_, _], _ => rfl) ?a ?l ?c ?k
      (case a => k_is); (case l => k_is); (case c => k_is); (case k => k_is)
    have R_reached : Mw.Raw (L2.KOf KX) mg "reached" (Kx.topS 15) ["hall", "start"] := by
      unfold L2.KOf
      refine' Mw.raw_mk KX G (fun _ _ _ _ _ _ us hl => match us, hl with | [_, _], _ => rfl) ?a ?l ?c ?k
      (case a => k_is); (case l => k_is); (case c => k_is); (case k => k_is)
    have R_pieces : Mw.Raw (L2.KOf KX) mg "pieces" (Kx.topS 16) ["hall"] := by
      unfold L2.KOf
      refine' Mw.raw_mk KX G (fun _ _ _ _ _ _ us hl => match us, hl with | [_], _ => rfl) ?a ?l ?c ?k
      (case a => k_is); (case l => k_is); (case c => k_is); (case k => k_is)
    have R_is_odd : Mw.Raw (L2.KOf KX) mg "is_odd" (Kx.topS 18) ["hall", "names"] := by
      unfold L2.KOf
      refine' Mw.raw_mk KX G (fun _ _ _ _ _ _ us hl => match us, hl with | [_, _], _ => rfl) ?a ?l ?c ?k
      (case a => k_is); (case l => k_is); (case c => k_is); (case k => k_is)
    have R_may_go : Mw.Raw (L2.KOf KX) mg "may_go" (Kx.topS 20) ["hall"] := by
      unfold L2.KOf
      refine' Mw.raw_mk KX G (fun _ _ _ _ _ _ us hl => match us, hl with | [_], _ => rfl) ?a ?l ?c ?k
      (case a => k_is); (case l => k_is); (case c => k_is); (case k => k_is)
    have R_gone : Mw.Raw (L2.KOf KX) mg "gone" (Kx.topS 21) ["hall", "name"] := by
      unfold L2.KOf
      refine' Mw.raw_mk KX G (fun _ _ _ _ _ _ us hl => match us, hl with | [_, _], _ => rfl) ?a ?l ?c ?k
      (case a => k_is); (case l => k_is); (case c => k_is); (case k => k_is)
    have R_mirrors_at : Mw.Raw (L2.KOf KX) mg "mirrors_at" (Kx.topS 22) ["ties", "name"] := by
      unfold L2.KOf
      refine' Mw.raw_mk KX G (fun _ _ _ _ _ _ us hl => match us, hl with | [_, _], _ => rfl) ?a ?l ?c ?k
      (case a => k_is); (case l => k_is); (case c => k_is); (case k => k_is)
    have R_turned_by : Mw.Raw (L2.KOf KX) mg "turned_by" (Kx.topS 23) ["wheel", "place", "mirrors"] := by
      unfold L2.KOf
      refine' Mw.raw_mk KX G (fun _ _ _ _ _ _ us hl => match us, hl with | [_, _, _], _ => rfl) ?a ?l ?c ?k
      (case a => k_is); (case l => k_is); (case c => k_is); (case k => k_is)
    have R_behind : Mw.Raw (L2.KOf KX) mg "behind" (Kx.topS 24) ["hall", "row"] := by
      unfold L2.KOf
      refine' Mw.raw_mk KX G (fun _ _ _ _ _ _ us hl => match us, hl with | [_, _], _ => rfl) ?a ?l ?c ?k
      (case a => k_is); (case l => k_is); (case c => k_is); (case k => k_is)
    have R_is_way : Mw.Raw (L2.KOf KX) mg "is_way" (Kx.topS 25) ["hall", "thing"] := by
      unfold L2.KOf
      refine' Mw.raw_mk KX G (fun _ _ _ _ _ _ us hl => match us, hl with | [_, _], _ => rfl) ?a ?l ?c ?k
      (case a => k_is); (case l => k_is); (case c => k_is); (case k => k_is)
    have R__law_box : Mw.Raw (L2.KOf KX) mg "_law_box" (Kx.topS 27) ["_law_cells_here", "_law_k"] := by
      unfold L2.KOf
      refine' Mw.raw_mk KX G (fun _ _ _ _ _ _ us hl => match us, hl with | [_, _], _ => rfl) ?a ?l ?c ?k
      (case a => k_is); (case l => k_is); (case c => k_is); (case k => k_is)
    have R__law_take : Mw.Raw (L2.KOf KX) mg "_law_take" (Kx.topS 28) ["_law_box_here", "_law_amount"] := by
      unfold L2.KOf
      refine' Mw.raw_mk KX G (fun _ _ _ _ _ _ us hl => match us, hl with | [_, _], _ => rfl) ?a ?l ?c ?k
      (case a => k_is); (case l => k_is); (case c => k_is); (case k => k_is)
    have R__law_cells : Mw.Raw (L2.KOf KX) mg "_law_cells" (Kx.topS 29) ["_law_script", "_law_utmost"] := by
      unfold L2.KOf
      refine' Mw.raw_mk KX G (fun _ _ _ _ _ _ us hl => match us, hl with | [_, _], _ => rfl) ?a ?l ?c ?k
      (case a => k_is); (case l => k_is); (case c => k_is); (case k => k_is)
    have R__law_callings : Mw.Raw (L2.KOf KX) mg "_law_callings" (Kx.topS 30) ["_law_box_here", "_law_amount"] := by
      unfold L2.KOf
      refine' Mw.raw_mk KX G (fun _ _ _ _ _ _ us hl => match us, hl with | [_, _], _ => rfl) ?a ?l ?c ?k
      (case a => k_is); (case l => k_is); (case c => k_is); (case k => k_is)
    have R__law_round : Mw.Raw (L2.KOf KX) mg "_law_round" (Kx.topS 31) ["_law_size", "_law_amount"] := by
      unfold L2.KOf
      refine' Mw.raw_mk KX G (fun _ _ _ _ _ _ us hl => match us, hl with | [_, _], _ => rfl) ?a ?l ?c ?k
      (case a => k_is); (case l => k_is); (case c => k_is); (case k => k_is)
    have R__law_links : Mw.Raw (L2.KOf KX) mg "_law_links" (Kx.topS 32) ["_law_box_here", "_law_size", "_law_callings_here", "_law_often"] := by
      unfold L2.KOf
      refine' Mw.raw_mk KX G (fun _ _ _ _ _ _ us hl => match us, hl with | [_, _, _, _], _ => rfl) ?a ?l ?c ?k
      (case a => k_is); (case l => k_is); (case c => k_is); (case k => k_is)
    have R__law_beside : Mw.Raw (L2.KOf KX) mg "_law_beside" (Kx.topS 33) ["_law_links_here", "_law_who"] := by
      unfold L2.KOf
      refine' Mw.raw_mk KX G (fun _ _ _ _ _ _ us hl => match us, hl with | [_, _], _ => rfl) ?a ?l ?c ?k
      (case a => k_is); (case l => k_is); (case c => k_is); (case k => k_is)
    have R__law_homely : Mw.Raw (L2.KOf KX) mg "_law_homely" (Kx.topS 34) ["_law_box_here", "_law_amount"] := by
      unfold L2.KOf
      refine' Mw.raw_mk KX G (fun _ _ _ _ _ _ us hl => match us, hl with | [_, _], _ => rfl) ?a ?l ?c ?k
      (case a => k_is); (case l => k_is); (case c => k_is); (case k => k_is)
    have R__law_any_yard : Mw.Raw (L2.KOf KX) mg "_law_any_yard" (Kx.topS 35) ["_law_box_here", "_law_amount"] := by
      unfold L2.KOf
      refine' Mw.raw_mk KX G (fun _ _ _ _ _ _ us hl => match us, hl with | [_, _], _ => rfl) ?a ?l ?c ?k
      (case a => k_is); (case l => k_is); (case c => k_is); (case k => k_is)
    have R__law_after : Mw.Raw (L2.KOf KX) mg "_law_after" (Kx.topS 36) ["_law_yard", "_law_who"] := by
      unfold L2.KOf
      refine' Mw.raw_mk KX G (fun _ _ _ _ _ _ us hl => match us, hl with | [_, _], _ => rfl) ?a ?l ?c ?k
      (case a => k_is); (case l => k_is); (case c => k_is); (case k => k_is)
    have R__law_free : Mw.Raw (L2.KOf KX) mg "_law_free" (Kx.topS 37) ["_law_yard"] := by
      unfold L2.KOf
      refine' Mw.raw_mk KX G (fun _ _ _ _ _ _ us hl => match us, hl with | [_], _ => rfl) ?a ?l ?c ?k
      (case a => k_is); (case l => k_is); (case c => k_is); (case k => k_is)
    have R__law_ways : Mw.Raw (L2.KOf KX) mg "_law_ways" (Kx.topS 38) ["_law_yard"] := by
      unfold L2.KOf
      refine' Mw.raw_mk KX G (fun _ _ _ _ _ _ us hl => match us, hl with | [_], _ => rfl) ?a ?l ?c ?k
      (case a => k_is); (case l => k_is); (case c => k_is); (case k => k_is)
    have R__law_rows_right : Mw.Raw (L2.KOf KX) mg "_law_rows_right" (Kx.topS 39) ["_law_yard", "_law_path"] := by
      unfold L2.KOf
      refine' Mw.raw_mk KX G (fun _ _ _ _ _ _ us hl => match us, hl with | [_, _], _ => rfl) ?a ?l ?c ?k
      (case a => k_is); (case l => k_is); (case c => k_is); (case k => k_is)
    have R__law_small_right : Mw.Raw (L2.KOf KX) mg "_law_small_right" (Kx.topS 40) ["_law_box_here", "_law_yard"] := by
      unfold L2.KOf
      refine' Mw.raw_mk KX G (fun _ _ _ _ _ _ us hl => match us, hl with | [_, _], _ => rfl) ?a ?l ?c ?k
      (case a => k_is); (case l => k_is); (case c => k_is); (case k => k_is)
    have R__law_great_right : Mw.Raw (L2.KOf KX) mg "_law_great_right" (Kx.topS 41) ["_law_box_here", "_law_yard"] := by
      unfold L2.KOf
      refine' Mw.raw_mk KX G (fun _ _ _ _ _ _ us hl => match us, hl with | [_, _], _ => rfl) ?a ?l ?c ?k
      (case a => k_is); (case l => k_is); (case c => k_is); (case k => k_is)
    have R__law_right : Mw.Raw (L2.KOf KX) mg "_law_right" (Kx.topS 42) ["_law_box_here"] := by
      unfold L2.KOf
      refine' Mw.raw_mk KX G (fun _ _ _ _ _ _ us hl => match us, hl with | [_], _ => rfl) ?a ?l ?c ?k
      (case a => k_is); (case l => k_is); (case c => k_is); (case k => k_is)
    have R_law : Mw.Raw (L2.KOf KX) mg "law" (Kx.topS 43) ["_law_script"] := by
      unfold L2.KOf
      refine' Mw.raw_mk KX G (fun _ _ _ _ _ _ us hl => match us, hl with | [_], _ => rfl) ?a ?l ?c ?k
      (case a => k_is); (case l => k_is); (case c => k_is); (case k => k_is)
    have n_len : mg "len" = none := by
      refine' PySem.W.mg_none_of KX G ?z
      (case z => k_is)
    have n_all : mg "all" = none := by
      refine' PySem.W.mg_none_of KX G ?z
      (case z => k_is)
    have n_any : mg "any" = none := by
      refine' PySem.W.mg_none_of KX G ?z
      (case z => k_is)
    have n_isinstance : mg "isinstance" = none := by
      refine' PySem.W.mg_none_of KX G ?z
      (case z => k_is)
    have n_sorted : mg "sorted" = none := by
      refine' PySem.W.mg_none_of KX G ?z
      (case z => k_is)
    have n_range : mg "range" = none := by
      refine' PySem.W.mg_none_of KX G ?z
      (case z => k_is)
    have n_enumerate : mg "enumerate" = none := by
      refine' PySem.W.mg_none_of KX G ?z
      (case z => k_is)
    have n_zip : mg "zip" = none := by
      refine' PySem.W.mg_none_of KX G ?z
      (case z => k_is)
    have n_min : mg "min" = none := by
      refine' PySem.W.mg_none_of KX G ?z
      (case z => k_is)
    have n_max : mg "max" = none := by
      refine' PySem.W.mg_none_of KX G ?z
      (case z => k_is)
    have n_abs : mg "abs" = none := by
      refine' PySem.W.mg_none_of KX G ?z
      (case z => k_is)
    have n_int : mg "int" = none := by
      refine' PySem.W.mg_none_of KX G ?z
      (case z => k_is)
    have n_str : mg "str" = none := by
      refine' PySem.W.mg_none_of KX G ?z
      (case z => k_is)
    have n_list : mg "list" = none := by
      refine' PySem.W.mg_none_of KX G ?z
      (case z => k_is)
    have n_tuple : mg "tuple" = none := by
      refine' PySem.W.mg_none_of KX G ?z
      (case z => k_is)
    have n_dict : mg "dict" = none := by
      refine' PySem.W.mg_none_of KX G ?z
      (case z => k_is)
    have n_set : mg "set" = none := by
      refine' PySem.W.mg_none_of KX G ?z
      (case z => k_is)
    have n_repr : mg "repr" = none := by
      refine' PySem.W.mg_none_of KX G ?z
      (case z => k_is)
    have n_sum : mg "sum" = none := by
      refine' PySem.W.mg_none_of KX G ?z
      (case z => k_is)
    have n_bool : mg "bool" = none := by
      refine' PySem.W.mg_none_of KX G ?z
      (case z => k_is)
    have hB : Mw.BiOk mg := by
      unfold Mw.BiOk
      simp only [List.forall_mem_cons]
      exact ⟨n_len, n_all, n_any, n_isinstance, n_sorted, n_range, n_enumerate, n_zip, n_min, n_max, n_abs, n_int, n_str, n_list, n_tuple, n_dict, n_set, n_repr, n_sum, n_bool, fun _ z => nomatch z⟩
    have D_is_number := Kx.D_is_number (P := PySem.Challenge.rw_mirrorwood_k05_whole_lights_along_rows.prog) (w := w) (base := base) R_is_number hB 
    have D_copied := Kx.D_copied (P := PySem.Challenge.rw_mirrorwood_k05_whole_lights_along_rows.prog) (w := w) (base := base) R_copied hB 
    have D_counted := Kx.D_counted (P := PySem.Challenge.rw_mirrorwood_k05_whole_lights_along_rows.prog) (w := w) (base := base) R_counted hB 
    have D_is_counted := Kx.D_is_counted (P := PySem.Challenge.rw_mirrorwood_k05_whole_lights_along_rows.prog) (w := w) (base := base) R_is_counted hB D_is_number D_counted
    have D_is_card := Kx.D_is_card (P := PySem.Challenge.rw_mirrorwood_k05_whole_lights_along_rows.prog) (w := w) (base := base) R_is_card hB D_is_number D_is_counted
    have D_mirrored := Kx.D_mirrored (P := PySem.Challenge.rw_mirrorwood_k05_whole_lights_along_rows.prog) (w := w) (base := base) R_mirrored hB D_counted
    have D_is_free := Kx.D_is_free (P := PySem.Challenge.rw_mirrorwood_k05_whole_lights_along_rows.prog) (w := w) (base := base) R_is_free hB D_is_card
    have D_names_of := Kx.D_names_of (P := PySem.Challenge.rw_mirrorwood_k05_whole_lights_along_rows.prog) (w := w) (base := base) R_names_of hB 
    have D_near := Kx.D_near (P := PySem.Challenge.rw_mirrorwood_k05_whole_lights_along_rows.prog) (w := w) (base := base) R_near hB 
    have D_card_of := Kx.D_card_of (P := PySem.Challenge.rw_mirrorwood_k05_whole_lights_along_rows.prog) (w := w) (base := base) R_card_of hB 
    have D_reached := Kx.D_reached (P := PySem.Challenge.rw_mirrorwood_k05_whole_lights_along_rows.prog) (w := w) (base := base) R_reached hB D_near
    have D_pieces := Kx.D_pieces (P := PySem.Challenge.rw_mirrorwood_k05_whole_lights_along_rows.prog) (w := w) (base := base) R_pieces hB D_names_of D_reached
    have D_is_odd := Kx.D_is_odd (P := PySem.Challenge.rw_mirrorwood_k05_whole_lights_along_rows.prog) (w := w) (base := base) R_is_odd hB D_card_of
    have D_may_go := Kx.D_may_go (P := PySem.Challenge.rw_mirrorwood_k05_whole_lights_along_rows.prog) (w := w) (base := base) R_may_go hB D_is_free
    have D_mirrors_at := Kx.D_mirrors_at (P := PySem.Challenge.rw_mirrorwood_k05_whole_lights_along_rows.prog) (w := w) (base := base) R_mirrors_at hB 
    have D_turned_by := Kx.D_turned_by (P := PySem.Challenge.rw_mirrorwood_k05_whole_lights_along_rows.prog) (w := w) (base := base) R_turned_by hB D_mirrored
    have D_gone := Kx.D_gone (P := PySem.Challenge.rw_mirrorwood_k05_whole_lights_along_rows.prog) (w := w) (base := base) R_gone hB D_card_of D_is_free D_mirrors_at D_turned_by
    have D_behind := Kx.D_behind (P := PySem.Challenge.rw_mirrorwood_k05_whole_lights_along_rows.prog) (w := w) (base := base) R_behind hB D_gone
    have D_is_way := Kx.D_is_way (P := PySem.Challenge.rw_mirrorwood_k05_whole_lights_along_rows.prog) (w := w) (base := base) R_is_way hB D_card_of D_is_free D_gone
    have D__law_box := Kx.D__law_box (P := PySem.Challenge.rw_mirrorwood_k05_whole_lights_along_rows.prog) (w := w) (base := base) R__law_box hB 
    have D__law_take := Kx.D__law_take (P := PySem.Challenge.rw_mirrorwood_k05_whole_lights_along_rows.prog) (w := w) (base := base) R__law_take hB 
    have D__law_cells := Kx.D__law_cells (P := PySem.Challenge.rw_mirrorwood_k05_whole_lights_along_rows.prog) (w := w) (base := base) R__law_cells hB 
    have D__law_callings := Kx.D__law_callings (P := PySem.Challenge.rw_mirrorwood_k05_whole_lights_along_rows.prog) (w := w) (base := base) R__law_callings hB D__law_take
    have D__law_round := Kx.D__law_round (P := PySem.Challenge.rw_mirrorwood_k05_whole_lights_along_rows.prog) (w := w) (base := base) R__law_round hB 
    have D__law_links := Kx.D__law_links (P := PySem.Challenge.rw_mirrorwood_k05_whole_lights_along_rows.prog) (w := w) (base := base) R__law_links hB D__law_take D__law_round
    have D__law_beside := Kx.D__law_beside (P := PySem.Challenge.rw_mirrorwood_k05_whole_lights_along_rows.prog) (w := w) (base := base) R__law_beside hB 
    have D__law_homely := Kx.D__law_homely (P := PySem.Challenge.rw_mirrorwood_k05_whole_lights_along_rows.prog) (w := w) (base := base) R__law_homely hB D__law_take D__law_callings D__law_links D__law_beside D__law_round
    have D__law_any_yard := Kx.D__law_any_yard (P := PySem.Challenge.rw_mirrorwood_k05_whole_lights_along_rows.prog) (w := w) (base := base) R__law_any_yard hB D__law_take D__law_callings D__law_round D__law_links
    have D__law_after := Kx.D__law_after (P := PySem.Challenge.rw_mirrorwood_k05_whole_lights_along_rows.prog) (w := w) (base := base) R__law_after hB D__law_beside D__law_round
    have D__law_free := Kx.D__law_free (P := PySem.Challenge.rw_mirrorwood_k05_whole_lights_along_rows.prog) (w := w) (base := base) R__law_free hB 
    have D__law_ways := Kx.D__law_ways (P := PySem.Challenge.rw_mirrorwood_k05_whole_lights_along_rows.prog) (w := w) (base := base) R__law_ways hB D__law_free D__law_after
    have D__law_rows_right := Kx.D__law_rows_right (P := PySem.Challenge.rw_mirrorwood_k05_whole_lights_along_rows.prog) (w := w) (base := base) R__law_rows_right hB D__law_beside D_behind
    have D__law_small_right := Kx.D__law_small_right (P := PySem.Challenge.rw_mirrorwood_k05_whole_lights_along_rows.prog) (w := w) (base := base) R__law_small_right hB D__law_ways D_pieces D_is_odd D_is_way D__law_rows_right
    have D__law_great_right := Kx.D__law_great_right (P := PySem.Challenge.rw_mirrorwood_k05_whole_lights_along_rows.prog) (w := w) (base := base) R__law_great_right hB D_may_go D__law_take D_behind D__law_rows_right
    have D__law_right := Kx.D__law_right (P := PySem.Challenge.rw_mirrorwood_k05_whole_lights_along_rows.prog) (w := w) (base := base) R__law_right hB D__law_take D__law_homely D__law_any_yard D__law_small_right D__law_great_right
    have D_law := Kx.D_law (P := PySem.Challenge.rw_mirrorwood_k05_whole_lights_along_rows.prog) (w := w) (base := base) R_law hB D__law_cells D__law_box D__law_right
    exact D_law

