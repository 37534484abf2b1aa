import PyProof.Rows.All
import Wide.All
import OpenK.AllK
import Wide.FinOn
import HandS.ForMost
import HandS.More
import HandS.IsInst
import HandS.TupAny
import HandS.Evl
import HandS.Walk
import HandS.Style
import HandS.TupLe
import HandS.SortKw
import PyProof.StrOps2
import KE.KSortTup
import HandS.Text
import PyProof.Rows.ReprOcc
import PyProof.Rows.StrDouble
import PySem.Challenge.RW_onlywith_k02_ranks_of_values_and_rows
set_option Elab.async false
set_option linter.all false
set_option maxRecDepth 100000
/-! Data by value over the hand layer. -/
namespace BV
open PySem PySem.Spec PyProof.Rows L2 Evl

inductive D where
  | non | bl (b : Bool) | int (i : Int) | str (s : Str) | tup (ds : List D) | lst (ds : List D) | pur

mutual
def D.py : D → PyData
  | .non => .none
  | .bl b => .bool b
  | .int i => .int i
  | .str s => .str s
  | .tup ds => .tuple (D.pys ds)
  | .lst ds => .list (D.pys ds)
  | .pur => .none
def D.pys : List D → List PyData
  | [] => []
  | d :: ds => D.py d :: D.pys ds
end
mutual
/-- no list, no purse in it -/
def D.lf : D → Bool
  | .lst _ => false
  | .pur => false
  | .tup ds => D.lfs ds
  | .non => true
  | .bl _ => true
  | .int _ => true
  | .str _ => true
def D.lfs : List D → Bool
  | [] => true
  | d :: ds => D.lf d && D.lfs ds
end
mutual
/-- no purse in it -/
def D.pf : D → Bool
  | .pur => false
  | .lst ds => D.pfs ds
  | .tup ds => D.pfs ds
  | .non => true
  | .bl _ => true
  | .int _ => true
  | .str _ => true
def D.pfs : List D → Bool
  | [] => true
  | d :: ds => D.pf d && D.pfs ds
end

mutual
def Dn (K : PySem.W.Frag) (C : Hp) (pu : Addr) : D → V → Prop
  | .non, v => v = .non
  | .bl b, v => v = .bl b
  | .int i, v => v = .int i
  | .str x, v => v = .str x
  | .tup ds, v => ∃ a xs, v = .ref a ∧ SqT K C a xs ∧ Dns K C pu ds xs
  | .lst ds, v => ∃ a xs, v = .ref a ∧ C a = some (.lst xs) ∧ Dns K C pu ds xs
  | .pur, v => v = .ref pu
def Dns (K : PySem.W.Frag) (C : Hp) (pu : Addr) : List D → List V → Prop
  | [], xs => xs = []
  | d :: ds, xs => ∃ v r, xs = v :: r ∧ Dn K C pu d v ∧ Dns K C pu ds r
end

section
variable {K : PySem.W.Frag} {C C' : Hp} {pu : Addr}
mutual
theorem Dn.mono (e : Ex C C') : ∀ (d : D) (v : V), Dn K C pu d v → Dn K C' pu d v
  | .non, v, h => by unfold Dn at h ⊢; exact h
  | .bl b, v, h => by unfold Dn at h ⊢; exact h
  | .int i, v, h => by unfold Dn at h ⊢; exact h
  | .str x, v, h => by unfold Dn at h ⊢; exact h
  | .tup ds, v, h => by
    unfold Dn at h ⊢
    obtain ⟨a, xs, e1, e2, e3⟩ := h
    exact ⟨a, xs, e1, ex_t e e2, Dns.mono e ds xs e3⟩
  | .lst ds, v, h => by
    unfold Dn at h ⊢
    obtain ⟨a, xs, e1, e2, e3⟩ := h
    exact ⟨a, xs, e1, e _ _ e2, Dns.mono e ds xs e3⟩
  | .pur, v, h => by unfold Dn at h ⊢; exact h
theorem Dns.mono (e : Ex C C') : ∀ (ds : List D) (xs : List V), Dns K C pu ds xs → Dns K C' pu ds xs
  | [], xs, h => by unfold Dns at h ⊢; exact h
  | d :: ds, xs, h => by
    unfold Dns at h ⊢
    obtain ⟨v, r, e1, e2, e3⟩ := h
    exact ⟨v, r, e1, Dn.mono e d v e2, Dns.mono e ds r e3⟩
end
theorem dn_non {v : V} : Dn K C pu .non v ↔ v = .non := by unfold Dn; exact Iff.rfl
theorem dn_bl {b : Bool} {v : V} : Dn K C pu (.bl b) v ↔ v = .bl b := by unfold Dn; exact Iff.rfl
theorem dn_int {i : Int} {v : V} : Dn K C pu (.int i) v ↔ v = .int i := by unfold Dn; exact Iff.rfl
theorem dn_str {i : Str} {v : V} : Dn K C pu (.str i) v ↔ v = .str i := by unfold Dn; exact Iff.rfl
theorem dn_tup {ds : List D} {v : V} : Dn K C pu (.tup ds) v ↔ ∃ a xs, v = .ref a ∧ SqT K C a xs ∧ Dns K C pu ds xs := by rw [Dn]
theorem dn_lst {ds : List D} {v : V} : Dn K C pu (.lst ds) v ↔ ∃ a xs, v = .ref a ∧ C a = some (.lst xs) ∧ Dns K C pu ds xs := by rw [Dn]
theorem dn_pur {v : V} : Dn K C pu .pur v ↔ v = .ref pu := by unfold Dn; exact Iff.rfl
theorem dns_nil {xs : List V} : Dns K C pu [] xs ↔ xs = [] := by unfold Dns; exact Iff.rfl
theorem dns_cons {d : D} {ds : List D} {xs : List V} : Dns K C pu (d :: ds) xs ↔ ∃ v r, xs = v :: r ∧ Dn K C pu d v ∧ Dns K C pu ds r := by rw [Dns]

theorem Dns.len : ∀ {ds : List D} {xs : List V}, Dns K C pu ds xs → xs.length = ds.length
  | [], xs, h => by rw [dns_nil.mp h]; rfl
  | d :: ds, xs, h => by
    obtain ⟨v, r, e, _, q⟩ := dns_cons.mp h
    rw [e, List.length_cons, List.length_cons, Dns.len q]
theorem Dns.get : ∀ {ds : List D} {xs : List V} {i : Nat} {d : D}, Dns K C pu ds xs → ds[i]? = some d → ∃ v, xs[i]? = some v ∧ Dn K C pu d v
  | [], xs, i, d, h, e => by simp at e
  | c :: ds, xs, 0, d, h, e => by
    obtain ⟨v, r, e1, q, _⟩ := dns_cons.mp h
    have : c = d := by simpa using e
    subst this
    exact ⟨v, by rw [e1]; rfl, q⟩
  | c :: ds, xs, i + 1, d, h, e => by
    obtain ⟨v, r, e1, _, q⟩ := dns_cons.mp h
    obtain ⟨u, h1, h2⟩ := Dns.get (i := i) (d := d) q (by simpa using e)
    exact ⟨u, by rw [e1]; simpa using h1, h2⟩
theorem Dns.get' : ∀ {ds : List D} {xs : List V} {i : Nat} {v : V}, Dns K C pu ds xs → xs[i]? = some v → ∃ d, ds[i]? = some d ∧ Dn K C pu d v := fun {ds xs i v} h e => by
  have hl := h.len
  have hi : i < ds.length := by
    have := (List.getElem?_eq_some_iff.mp e).1
    omega
  obtain ⟨u, h1, h2⟩ := h.get (List.getElem?_eq_getElem hi)
  rw [e] at h1
  cases h1
  exact ⟨_, List.getElem?_eq_getElem hi, h2⟩
theorem Dns.app : ∀ {ds es : List D} {xs ys : List V}, Dns K C pu ds xs → Dns K C pu es ys → Dns K C pu (ds ++ es) (xs ++ ys)
  | [], es, xs, ys, h, k => by rw [dns_nil.mp h]; exact k
  | d :: ds, es, xs, ys, h, k => by
    obtain ⟨v, r, e, q1, q⟩ := dns_cons.mp h
    rw [e]
    exact dns_cons.mpr ⟨v, r ++ ys, rfl, q1, Dns.app q k⟩
theorem Dns.take : ∀ {ds : List D} {xs : List V} (n : Nat), Dns K C pu ds xs → Dns K C pu (ds.take n) (xs.take n)
  | ds, xs, 0, h => by simp [dns_nil]
  | [], xs, n + 1, h => by rw [dns_nil.mp h]; exact dns_nil.mpr rfl
  | d :: ds, xs, n + 1, h => by
    obtain ⟨v, r, e, q1, q⟩ := dns_cons.mp h
    rw [e]
    exact dns_cons.mpr ⟨v, r.take n, rfl, q1, Dns.take n q⟩
theorem Dns.drop : ∀ {ds : List D} {xs : List V} (n : Nat), Dns K C pu ds xs → Dns K C pu (ds.drop n) (xs.drop n)
  | ds, xs, 0, h => h
  | [], xs, n + 1, h => by rw [dns_nil.mp h]; exact dns_nil.mpr rfl
  | d :: ds, xs, n + 1, h => by
    obtain ⟨v, r, e, q1, q⟩ := dns_cons.mp h
    rw [e]
    exact Dns.drop n q
theorem Dns.one {d : D} {v : V} (h : Dn K C pu d v) : Dns K C pu [d] [v] := dns_cons.mpr ⟨v, [], rfl, h, dns_nil.mpr rfl⟩
theorem Dns.rep : ∀ {ds : List D} {xs : List V} (n : Nat), Dns K C pu ds xs → Dns K C pu (List.replicate n ds).flatten (List.replicate n xs).flatten
  | ds, xs, 0, h => dns_nil.mpr rfl
  | ds, xs, n + 1, h => by
    rw [List.replicate_succ, List.replicate_succ, List.flatten_cons, List.flatten_cons]
    exact Dns.app h (Dns.rep n h)
/-- of data without a list, only the tuples matter -/
def TupSub (K : PySem.W.Frag) (C C' : Hp) : Prop := ∀ a xs, SqT K C a xs → SqT K C' a xs
mutual
theorem Dn.lf (e : TupSub K C C') : ∀ (d : D) (v : V), d.lf = true → Dn K C pu d v → Dn K C' pu d v
  | .non, v, l, h => by unfold Dn at h ⊢; exact h
  | .bl b, v, l, h => by unfold Dn at h ⊢; exact h
  | .int i, v, l, h => by unfold Dn at h ⊢; exact h
  | .str x, v, l, h => by unfold Dn at h ⊢; exact h
  | .tup ds, v, l, h => by
    rw [dn_tup] at h ⊢
    obtain ⟨a, xs, e1, e2, e3⟩ := h
    exact ⟨a, xs, e1, e a xs e2, Dns.lf e ds xs (by simpa [D.lf] using l) e3⟩
  | .lst ds, v, l, h => by simp [D.lf] at l
  | .pur, v, l, h => by simp [D.lf] at l
theorem Dns.lf (e : TupSub K C C') : ∀ (ds : List D) (xs : List V), D.lfs ds = true → Dns K C pu ds xs → Dns K C' pu ds xs
  | [], xs, l, h => by unfold Dns at h ⊢; exact h
  | d :: ds, xs, l, h => by
    rw [dns_cons] at h ⊢
    obtain ⟨v, r, e1, e2, e3⟩ := h
    have l' : d.lf = true ∧ D.lfs ds = true := by simpa [D.lfs] using l
    exact ⟨v, r, e1, Dn.lf e d v l'.1 e2, Dns.lf e ds r l'.2 e3⟩
end
mutual
theorem Dn.dp {H : Hp} (e : Ex C H) : ∀ (d : D) (v : V), d.pf = true → Dn K C pu d v → Dp K H v d.py
  | .non, v, l, h => by rw [dn_non.mp h]; exact .non
  | .bl b, v, l, h => by rw [dn_bl.mp h]; exact .bl b
  | .int i, v, l, h => by rw [dn_int.mp h]; exact .int i
  | .str x, v, l, h => by rw [dn_str.mp h]; exact .str x
  | .tup ds, v, l, h => by
    obtain ⟨a, xs, e1, e2, e3⟩ := dn_tup.mp h
    rw [e1]
    exact .tup (ex_t e e2) (Dns.dp e ds xs (by simpa [D.pf] using l) e3)
  | .lst ds, v, l, h => by
    obtain ⟨a, xs, e1, e2, e3⟩ := dn_lst.mp h
    rw [e1]
    exact .lst (sq_of (e _ _ e2)) (Dns.dp e ds xs (by simpa [D.pf] using l) e3)
  | .pur, v, l, h => by simp [D.pf] at l
theorem Dns.dp {H : Hp} (e : Ex C H) : ∀ (ds : List D) (xs : List V), D.pfs ds = true → Dns K C pu ds xs → DpAll K H xs (D.pys ds)
  | [], xs, l, h => by rw [dns_nil.mp h]; exact .nil
  | d :: ds, xs, l, h => by
    obtain ⟨v, r, e1, e2, e3⟩ := dns_cons.mp h
    have l' : d.pf = true ∧ D.pfs ds = true := by simpa [D.pfs] using l
    rw [e1]
    exact .cons (Dn.dp e d v l'.1 e2) (Dns.dp e ds r l'.2 e3)
end
end

/-! ### the purse, the state, the step -/
structure Pz where
  p : Addr
  g : Addr
  c : Addr
structure Pur (z : Pz) (C H : Hp) : Prop where
  at_ : ∃ (gs cs : List Int) (s k : Int), H z.p = some (.lst [.ref z.g, .ref z.c, .int s, .int k]) ∧ H z.g = some (.lst (gs.map V.int)) ∧ H z.c = some (.lst (cs.map V.int)) ∧ gs.length ≤ 64 ∧ cs ≠ [] ∧ cs.length ≤ 64
  cp : C z.p = none
  cg : C z.g = none
  cc : C z.c = none
  pg : z.p ≠ z.g
  pc : z.p ≠ z.c
  gc : z.g ≠ z.c
structure Ok (z : Pz) (C H : Hp) : Prop where
  ex : Ex C H
  pur : Pur z C H
structure Tr (z : Pz) (C H C' H' : Hp) : Prop where
  cc : Ex C C'
  ok : Ok z C' H'
  keep : ∀ a o, H a = some o → a ≠ z.p → a ≠ z.g → H' a = some o
  new : ∀ a, H a ≠ none → C' a = C a
section
variable {z : Pz} {C H C1 H1 C2 H2 : Hp}
theorem Tr.refl (o : Ok z C H) : Tr z C H C H := ⟨Ex.refl _, o, fun _ _ h _ _ => h, fun _ _ => rfl⟩
theorem Pur.pn (p : Pur z C H) : H z.p ≠ none := by
  obtain ⟨gs, cs, s, k, e, _⟩ := p.at_
  rw [e]
  exact fun q => nomatch q
theorem Pur.gn (p : Pur z C H) : H z.g ≠ none := by
  obtain ⟨gs, cs, s, k, _, e, _⟩ := p.at_
  rw [e]
  exact fun q => nomatch q
theorem Tr.there (t : Tr z C H C1 H1) {a : Addr} (h : H a ≠ none) : H1 a ≠ none := by
  by_cases hp : a = z.p
  · rw [hp]; exact t.ok.pur.pn
  by_cases hg : a = z.g
  · rw [hg]; exact t.ok.pur.gn
  cases e : H a with
  | none => exact absurd e h
  | some o =>
    rw [t.keep a o e hp hg]
    exact fun q => nomatch q
theorem Tr.trans (t : Tr z C H C1 H1) (u : Tr z C1 H1 C2 H2) : Tr z C H C2 H2 :=
  ⟨t.cc.trans u.cc, u.ok, fun a o h hp hg => u.keep a o (t.keep a o h hp hg) hp hg, fun a h => (u.new a (t.there h)).trans (t.new a h)⟩
/-- the heap grew by what is no purse's, nothing of it in the core -/
theorem Tr.ext (o : Ok z C H) (e : Ex H H1) : Tr z C H C H1 :=
  ⟨Ex.refl _, ⟨o.ex.trans e, let ⟨gs, cs, s, k, h1, h2, h3, h4⟩ := o.pur.at_; ⟨⟨gs, cs, s, k, e _ _ h1, e _ _ h2, e _ _ h3, h4⟩, o.pur.cp, o.pur.cg, o.pur.cc, o.pur.pg, o.pur.pc, o.pur.gc⟩⟩, fun a u h _ _ => e a u h, fun _ _ => rfl⟩
theorem Pur.cn (p : Pur z C H) : H z.c ≠ none := by
  obtain ⟨gs, cs, s, k, _, _, e, _⟩ := p.at_
  rw [e]
  exact fun q => nomatch q
/-- a new object goes into the core -/
theorem Tr.put {p : Addr} {u : HO} (o : Ok z C H) (h : H p = none) : Tr z C H (upd C p u) (upd H p u) := by
  have hc : C p = none := by
    cases e : C p with
    | none => rfl
    | some x => rw [o.ex p x e] at h; cases h
  have np : z.p ≠ p := fun e => o.pur.pn (by rw [e]; exact h)
  have ng : z.g ≠ p := fun e => o.pur.gn (by rw [e]; exact h)
  have nc : z.c ≠ p := fun e => o.pur.cn (by rw [e]; exact h)
  refine ⟨Ex.new hc, ⟨fun a x e => ?_, ?_⟩, fun a x e _ _ => Ex.new h a x e, fun a e => ?_⟩
  · by_cases ha : a = p
    · subst ha; rw [upd_same] at e ⊢; exact e
    · rw [upd_ne ha] at e ⊢; exact o.ex a x e
  · obtain ⟨gs, cs, s, k, h1, h2, h3, h4⟩ := o.pur.at_
    exact ⟨⟨gs, cs, s, k, by rw [upd_ne np]; exact h1, by rw [upd_ne ng]; exact h2, by rw [upd_ne nc]; exact h3, h4⟩, by rw [upd_ne np]; exact o.pur.cp, by rw [upd_ne ng]; exact o.pur.cg, by rw [upd_ne nc]; exact o.pur.cc, o.pur.pg, o.pur.pc, o.pur.gc⟩
  · have : a ≠ p := fun q => e (by rw [q]; exact h)
    rw [upd_ne this]
end

abbrev Env := List (Option D)
abbrev ME := Env → (D → Prop) → Prop
structure EnvR (K : PySem.W.Frag) (z : Pz) (C : Hp) (env : Env) (σ : L2.St) : Prop where
  len : env.length = σ.length
  at_ : ∀ (i : Nat) (d : D), env[i]? = some (some d) → ∃ v, σ[i]? = some (some v) ∧ Dn K C z.p d v
theorem EnvR.mono {K : PySem.W.Frag} {z : Pz} {C C' : Hp} {env : Env} {σ : L2.St} (r : EnvR K z C env σ) (e : Ex C C') : EnvR K z C' env σ :=
  ⟨r.len, fun i d h => let ⟨v, h1, h2⟩ := r.at_ i d h; ⟨v, h1, h2.mono e⟩⟩
theorem EnvR.set {K : PySem.W.Frag} {z : Pz} {C : Hp} {env : Env} {σ : L2.St} (r : EnvR K z C env σ) (i : Nat) {d : D} {v : V} (h : Dn K C z.p d v) : EnvR K z C (env.set i (some d)) (σ.set i (some v)) := by
  refine ⟨by rw [List.length_set, List.length_set]; exact r.len, fun j e hj => ?_⟩
  by_cases hij : i = j
  · subst hij
    have hl : i < env.length := by
      have := (List.getElem?_eq_some_iff.mp hj).1
      rwa [List.length_set] at this
    rw [List.getElem?_set_self hl] at hj
    cases hj
    exact ⟨v, by rw [List.getElem?_set_self (by rw [← r.len]; exact hl)], h⟩
  · rw [List.getElem?_set_ne hij] at hj
    rw [List.getElem?_set_ne hij]
    exact r.at_ j e hj
theorem EnvR.unset {K : PySem.W.Frag} {z : Pz} {C : Hp} {env : Env} {σ : L2.St} (r : EnvR K z C env σ) (i : Nat) : EnvR K z C (env.set i none) (σ.set i none) := by
  refine ⟨by rw [List.length_set, List.length_set]; exact r.len, fun j e hj => ?_⟩
  by_cases hij : i = j
  · subst hij
    have hl : i < env.length := by
      have := (List.getElem?_eq_some_iff.mp hj).1
      rwa [List.length_set] at this
    rw [List.getElem?_set_self hl] at hj
    cases hj
  · rw [List.getElem?_set_ne hij] at hj
    rw [List.getElem?_set_ne hij]
    exact r.at_ j e hj
def wipeE (env : Env) : List Nat → Env
  | [] => env
  | v :: vs => (wipeE env vs).set v none
theorem EnvR.wipe {K : PySem.W.Frag} {z : Pz} {C : Hp} {env : Env} {σ : L2.St} (r : EnvR K z C env σ) : ∀ vs : List Nat, EnvR K z C (wipeE env vs) (L2.wipe σ vs)
  | [] => r
  | v :: vs => (EnvR.wipe r vs).unset v

def lift (K : PySem.W.Frag) (m : ME) : TE := fun σ H Q => ∃ z C env, Ok z C H ∧ EnvR K z C env σ ∧ m env fun d => ∀ v C' H', Tr z C H C' H' → Dn K C' z.p d v → Q v H'
def Mono (m : ME) : Prop := ∀ env (Q Q' : D → Prop), (∀ d, Q d → Q' d) → m env Q → m env Q'
structure PD (X : Cx) (e : Expr) (m : ME) : Prop where
  run : PE X e (lift X.K m)
  mono : Mono m
theorem pe_imp {X : Cx} {e : Expr} {t t' : TE} (h : PE X e t) (i : ∀ σ H Q, t' σ H Q → t σ H Q) : PE X e t' := ⟨fun pins s σ H Q I q => h.run pins s σ H Q I (i σ H Q q)⟩

/-! ### names, constants -/
def mVar (i : Nat) : ME := fun env Q => ∃ d, env[i]? = some (some d) ∧ Q d
def mC (d : D) : ME := fun _ Q => Q d
section
variable {X : Cx} {e a b : Expr} {pos : Pos} {ma mb : ME}
theorem pd_var (i : Nat) (h : PE X e (tVar i)) : PD X e (mVar i) := by
  refine ⟨pe_imp h fun σ H Q q => ?_, fun env Q Q' i ⟨d, h1, h2⟩ => ⟨d, h1, i d h2⟩⟩
  obtain ⟨z, C, env, o, r, d, h1, h2⟩ := q
  obtain ⟨v, g1, g2⟩ := r.at_ i d h1
  exact ⟨v, g1, h2 v C H (Tr.refl o) g2⟩
theorem pd_const {v : V} {d : D} (h : PE X e (tC v)) (hd : ∀ K C pu, Dn K C pu d v) : PD X e (mC d) := by
  refine ⟨pe_imp h fun σ H Q q => ?_, fun env Q Q' i h => i _ h⟩
  obtain ⟨z, C, env, o, r, h2⟩ := q
  exact h2 v C H (Tr.refl o) (hd _ _ _)
theorem pd_int {i j} : PD X (.Constant (.int i) j pos) (mC (.int i)) := pd_const pe_int fun _ _ _ => dn_int.mpr rfl
theorem pd_bl {i j} : PD X (.Constant (.bool i) j pos) (mC (.bl i)) := pd_const pe_bl fun _ _ _ => dn_bl.mpr rfl
theorem pd_non {j} : PD X (.Constant .none j pos) (mC .non) := pd_const pe_non fun _ _ _ => dn_non.mpr rfl
theorem pd_str {x j} : PD X (.Constant (.str x) j pos) (mC (.str x)) := pd_const pe_str fun _ _ _ => dn_str.mpr rfl

/-! ### two-place operations -/
/-- f on values does what g does on data -/
def OpD (X : Cx) (f : Value → Value → Sem Value) (g : D → D → Option D) : Prop :=
  ∃ R : R2, OpR X f R ∧ ∀ (z : Pz) (C H : Hp) (d e u : D) (x y : V) (Q : VK), Ok z C H → Dn X.K C z.p d x → Dn X.K C z.p e y → g d e = some u → (∀ v C' H', Tr z C H C' H' → Dn X.K C' z.p u v → Q v H') → R x y H Q
def mOp (g : D → D → Option D) (ma mb : ME) : ME := fun env Q => ma env fun x => mb env fun y => ∃ u, g x y = some u ∧ Q u
theorem mono_op {g : D → D → Option D} (ha : Mono ma) (hb : Mono mb) : Mono (mOp g ma mb) := fun env Q Q' i h =>
  ha env _ _ (fun x h => hb env _ _ (fun y ⟨u, h1, h2⟩ => ⟨u, h1, i u h2⟩) h) h
/-- two expressions in a row -/
theorem two {ta tb : TE} {R : V → V → Hp → Prop} {σ : L2.St} {H : Hp} {z : Pz} {C : Hp} {env : Env} {m1 m2 : ME} {P : D → D → Prop} {K : PySem.W.Frag} (o : Ok z C H) (r : EnvR K z C env σ) (ha : Mono m1) (hb : Mono m2)
    (h : m1 env fun x => m2 env fun y => P x y)
    (k : ∀ x y v u C' H', P x y → Tr z C H C' H' → Dn K C' z.p x v → Dn K C' z.p y u → R v u H') : lift K m1 σ H fun v H1 => lift K m2 σ H1 fun u H2 => R v u H2 :=
  ⟨z, C, env, o, r, ha env _ _ (fun x h1 v C1 H1 t1 d1 => ⟨z, C1, env, t1.ok, r.mono t1.cc, hb env _ _ (fun y h2 u C2 H2 t2 d2 => k x y v u C2 H2 h2 (t1.trans t2) (d1.mono t2.cc) d2) h1⟩) h⟩
theorem pd_op {op : Operator} {g : D → D → Option D} (ho : OpD X (binaryOp op) g) (ha : PD X a ma) (hb : PD X b mb) : PD X (.BinOp a op b pos) (mOp g ma mb) := by
  obtain ⟨R, hR, hi⟩ := ho
  refine ⟨pe_imp (pe_op hR ha.run hb.run) fun σ H Q q => ?_, mono_op ha.mono hb.mono⟩
  obtain ⟨z, C, env, o, r, q⟩ := q
  exact two (ta := lift X.K ma) (tb := lift X.K mb) o r ha.mono hb.mono q fun x y v u C' H' ⟨w, e, q⟩ t d1 d2 => hi z C' H' x y w v u Q t.ok d1 d2 e fun v' C2 H2 t2 => q v' C2 H2 (t.trans t2)
theorem pd_cmp {op : CmpOp} {g : D → D → Option D} (ho : OpD X (compareOp op) g) (ha : PD X a ma) (hb : PD X b mb) (hm : behindInMarks op b = false) : PD X (.Compare a [op] [b] pos) (mOp g ma mb) := by
  obtain ⟨R, hR, hi⟩ := ho
  refine ⟨pe_imp (pe_cmpR hR ha.run hb.run hm) fun σ H Q q => ?_, mono_op ha.mono hb.mono⟩
  obtain ⟨z, C, env, o, r, q⟩ := q
  exact two (ta := lift X.K ma) (tb := lift X.K mb) o r ha.mono hb.mono q fun x y v u C' H' ⟨w, e, q⟩ t d1 d2 => hi z C' H' x y w v u Q t.ok d1 d2 e fun v' C2 H2 t2 => q v' C2 H2 (t.trans t2)
theorem OpD.of {f : Value → Value → Sem Value} {g : D → D → Option D} (R : R2) (h : OpR X f R) (k : ∀ (z : Pz) (C H : Hp) (d e u : D) (x y : V) (Q : VK), Ok z C H → Dn X.K C z.p d x → Dn X.K C z.p e y → g d e = some u → (∀ v C' H', Tr z C H C' H' → Dn X.K C' z.p u v → Q v H') → R x y H Q) : OpD X f g := ⟨R, h, k⟩

/-! ### tests -/
abbrev MT := Env → (Bool → Prop) → Prop
def liftT (K : PySem.W.Frag) (m : MT) : TT := fun σ H Q => ∃ z C env, Ok z C H ∧ EnvR K z C env σ ∧ m env fun b => ∀ C' H', Tr z C H C' H' → Q b H'
def MonoT (m : MT) : Prop := ∀ env (Q Q' : Bool → Prop), (∀ d, Q d → Q' d) → m env Q → m env Q'
structure PDT (X : Cx) (e : Expr) (m : MT) : Prop where
  run : PT X e (liftT X.K m)
  mono : MonoT m
structure PDW (X : Cx) (e : Expr) (m : MT) : Prop where
  run : PW X e (liftT X.K m)
  mono : MonoT m
theorem pt_imp {t t' : TT} (h : PT X e t) (i : ∀ σ H Q, t' σ H Q → t σ H Q) : PT X e t' := ⟨fun pins s σ H Q I q => h.run pins s σ H Q I (i σ H Q q)⟩
theorem pw_imp {t t' : TT} (h : PW X e t) (i : ∀ σ H Q, t' σ H Q → t σ H Q) : PW X e t' := ⟨fun w pins s σ H Q I q => h.run w pins s σ H Q I (i σ H Q q)⟩
/-- a value that is a bool, as a test -/
def tBl (m : ME) : MT := fun env Q => m env fun d => ∃ b, d = .bl b ∧ Q b
theorem mono_bl {m : ME} (h : Mono m) : MonoT (tBl m) := fun env Q Q' i q => h env _ _ (fun d ⟨b, e, q⟩ => ⟨b, e, i b q⟩) q
theorem lift_bl {K : PySem.W.Frag} {m : ME} (hm : Mono m) {σ : L2.St} {H : Hp} {Q : Bool → Hp → Prop} (q : liftT K (tBl m) σ H Q) : lift K m σ H fun x H' => ∃ k, x = .bl k ∧ Q k H' := by
  obtain ⟨z, C, env, o, r, q⟩ := q
  exact ⟨z, C, env, o, r, hm env _ _ (fun d ⟨b, e, q⟩ v C' H' t dn => ⟨b, dn_bl.mp (e ▸ dn), q C' H' t⟩) q⟩
theorem pdt_val {m : ME} (h : PD X e m) (he : ∀ whole, isTrue e X.env whole = (do let v ← whole; standAt e.pos; holding [v] (truthy v)) := by intro _; rfl) : PDT X e (tBl m) :=
  ⟨pt_imp (pt_val h.run he) fun σ H Q q => lift_bl h.mono q, mono_bl h.mono⟩
theorem pdt_cmp {op : CmpOp} {g : D → D → Option D} (ho : OpD X (compareOp op) g) (ha : PD X a ma) (hb : PD X b mb) (hm : behindInMarks op b = false) : PDT X (.Compare a [op] [b] pos) (tBl (mOp g ma mb)) := by
  obtain ⟨R, hR, hi⟩ := ho
  refine ⟨pt_imp (pt_cmpR hR ha.run hb.run hm) fun σ H Q q => ?_, mono_bl (mono_op ha.mono hb.mono)⟩
  obtain ⟨z, C, env, o, r, q⟩ := q
  exact two (ta := lift X.K ma) (tb := lift X.K mb) o r ha.mono hb.mono q fun x y v u C' H' ⟨w, e, k, e2, q⟩ t d1 d2 => hi z C' H' x y w v u _ t.ok d1 d2 e fun v' C2 H2 t2 dn => ⟨k, dn_bl.mp (e2 ▸ dn), q C2 H2 (t.trans t2)⟩
def mNotT (m : MT) : MT := fun env Q => m env fun b => Q (!b)
def mAndT (m n : MT) : MT := fun env Q => m env fun b => if b = true then n env Q else Q false
def mOrT (m n : MT) : MT := fun env Q => m env fun b => if b = true then Q true else n env Q
theorem liftT_seq {K : PySem.W.Frag} {z : Pz} {C H : Hp} {env : Env} {σ : L2.St} {m : MT} {P : Bool → Prop} {Q : Bool → Hp → Prop} (hm : MonoT m) (o : Ok z C H) (r : EnvR K z C env σ) (q : m env P) (k : ∀ b C' H', P b → Tr z C H C' H' → Q b H') : liftT K m σ H Q :=
  ⟨z, C, env, o, r, hm env _ _ (fun b p C' H' t => k b C' H' p t) q⟩
theorem pdt_not {m : MT} (h : PDT X a m) : PDT X (.UnaryOp .Not a pos) (mNotT m) := by
  refine ⟨pt_imp (pt_not h.run) fun σ H Q q => ?_, fun env Q Q' i q => h.mono env _ _ (fun b q => i _ q) q⟩
  obtain ⟨z, C, env, o, r, q⟩ := q
  exact ⟨z, C, env, o, r, q⟩
theorem pdw_and1 {m : MT} (h : PDT X a m) : PDW X (.BoolOp .And [a] pos) m := ⟨pw_and1 h.run, h.mono⟩
theorem pdw_or1 {m : MT} (h : PDT X a m) : PDW X (.BoolOp .Or [a] pos) m := ⟨pw_or1 h.run, h.mono⟩
variable {rest : List Expr}
theorem pdw_and {m n : MT} (h : PDT X a m) (k : PDW X (.BoolOp .And (b :: rest) pos) n) : PDW X (.BoolOp .And (a :: b :: rest) pos) (mAndT m n) := by
  refine ⟨pw_imp (pw_and h.run k.run) fun σ H Q q => ?_, fun env Q Q' i q => h.mono env _ _ (fun b q => ?_) q⟩
  · obtain ⟨z, C, env, o, r, q⟩ := q
    refine liftT_seq h.mono o r q fun b C' H' p t => ?_
    cases b with
    | false => exact p C' H' t
    | true => exact liftT_seq k.mono t.ok (r.mono t.cc) p fun b2 C2 H2 p2 t2 => p2 C2 H2 (t.trans t2)
  · cases b with
    | false => exact i _ q
    | true => exact k.mono env _ _ i q
theorem pdw_or {m n : MT} (h : PDT X a m) (k : PDW X (.BoolOp .Or (b :: rest) pos) n) : PDW X (.BoolOp .Or (a :: b :: rest) pos) (mOrT m n) := by
  refine ⟨pw_imp (pw_or h.run k.run) fun σ H Q q => ?_, fun env Q Q' i q => h.mono env _ _ (fun b q => ?_) q⟩
  · obtain ⟨z, C, env, o, r, q⟩ := q
    refine liftT_seq h.mono o r q fun b C' H' p t => ?_
    cases b with
    | true => exact p C' H' t
    | false => exact liftT_seq k.mono t.ok (r.mono t.cc) p fun b2 C2 H2 p2 t2 => p2 C2 H2 (t.trans t2)
  · cases b with
    | true => exact i _ q
    | false => exact k.mono env _ _ i q
theorem PDW.pdt {m : MT} (h : PDW X e m) : PDT X e m := ⟨h.run.pt, h.mono⟩
/-- and, or, not, if as values -/
def mIf (t : MT) (ma mb : ME) : ME := fun env Q => t env fun b => if b = true then ma env Q else mb env Q
theorem lift_use {K : PySem.W.Frag} {z : Pz} {C H : Hp} {env : Env} {σ : L2.St} {m : ME} {P : D → Prop} {Q : VK} (hm : Mono m) (o : Ok z C H) (r : EnvR K z C env σ) (q : m env P) (k : ∀ d v C' H', P d → Tr z C H C' H' → Dn K C' z.p d v → Q v H') : lift K m σ H Q :=
  ⟨z, C, env, o, r, hm env _ _ (fun d p v C' H' t dn => k d v C' H' p t dn) q⟩
theorem pd_ifExp {c : Expr} {t : MT} (hc : PDT X c t) (ha : PD X a ma) (hb : PD X b mb) : PD X (.IfExp c a b pos) (mIf t ma mb) := by
  refine ⟨pe_imp (pe_ifExp hc.run ha.run hb.run) fun σ H Q q => ?_, fun env Q Q' i q => hc.mono env _ _ (fun b q => ?_) q⟩
  · obtain ⟨z, C, env, o, r, q⟩ := q
    refine liftT_seq hc.mono o r q fun b C' H' p t => ?_
    cases b with
    | true => exact lift_use ha.mono t.ok (r.mono t.cc) p fun d v C2 H2 p2 t2 dn => p2 v C2 H2 (t.trans t2) dn
    | false => exact lift_use hb.mono t.ok (r.mono t.cc) p fun d v C2 H2 p2 t2 dn => p2 v C2 H2 (t.trans t2) dn
  · cases b with
    | true => exact ha.mono env _ _ i q
    | false => exact hb.mono env _ _ i q
def mAndV (ma mb : ME) : ME := fun env Q => ma env fun x => ∃ c, x = .bl c ∧ if c = true then mb env Q else Q (.bl false)
def mOrV (ma mb : ME) : ME := fun env Q => ma env fun x => ∃ c, x = .bl c ∧ if c = true then Q (.bl true) else mb env Q
def mNotV (ma : ME) : ME := fun env Q => ma env fun x => ∃ c, x = .bl c ∧ Q (.bl (!c))
theorem pd_one {op} (h : PD X a ma) : PD X (.BoolOp op [a] pos) ma := ⟨pe_one h.run, h.mono⟩
theorem pd_and (ha : PD X a ma) (hb : PD X (.BoolOp .And (b :: rest) pos) mb) : PD X (.BoolOp .And (a :: b :: rest) pos) (mAndV ma mb) := by
  refine ⟨pe_imp (pe_and ha.run hb.run) fun σ H Q q => ?_, fun env Q Q' i q => ha.mono env _ _ (fun x ⟨c, e, q⟩ => ⟨c, e, ?_⟩) q⟩
  · obtain ⟨z, C, env, o, r, q⟩ := q
    refine lift_use ha.mono o r q fun d v C' H' ⟨c, e, p⟩ t dn => ⟨c, dn_bl.mp (e ▸ dn), ?_⟩
    cases c with
    | true => exact lift_use hb.mono t.ok (r.mono t.cc) p fun d v C2 H2 p2 t2 dn => p2 v C2 H2 (t.trans t2) dn
    | false => exact p _ C' H' t (dn_bl.mpr rfl)
  · cases c with
    | true => exact hb.mono env _ _ i q
    | false => exact i _ q
theorem pd_or (ha : PD X a ma) (hb : PD X (.BoolOp .Or (b :: rest) pos) mb) : PD X (.BoolOp .Or (a :: b :: rest) pos) (mOrV ma mb) := by
  refine ⟨pe_imp (pe_or ha.run hb.run) fun σ H Q q => ?_, fun env Q Q' i q => ha.mono env _ _ (fun x ⟨c, e, q⟩ => ⟨c, e, ?_⟩) q⟩
  · obtain ⟨z, C, env, o, r, q⟩ := q
    refine lift_use ha.mono o r q fun d v C' H' ⟨c, e, p⟩ t dn => ⟨c, dn_bl.mp (e ▸ dn), ?_⟩
    cases c with
    | false => exact lift_use hb.mono t.ok (r.mono t.cc) p fun d v C2 H2 p2 t2 dn => p2 v C2 H2 (t.trans t2) dn
    | true => exact p _ C' H' t (dn_bl.mpr rfl)
  · cases c with
    | false => exact hb.mono env _ _ i q
    | true => exact i _ q
theorem pd_not (ha : PD X a ma) : PD X (.UnaryOp .Not a pos) (mNotV ma) := by
  refine ⟨pe_imp (pe_not ha.run) fun σ H Q q => ?_, fun env Q Q' i q => ha.mono env _ _ (fun x ⟨c, e, q⟩ => ⟨c, e, i _ q⟩) q⟩
  obtain ⟨z, C, env, o, r, q⟩ := q
  exact lift_use ha.mono o r q fun d v C' H' ⟨c, e, p⟩ t dn => ⟨c, dn_bl.mp (e ▸ dn), p _ C' H' t (dn_bl.mpr rfl)⟩
/-- one-place operations -/
def UnD (X : Cx) (f : Value → Sem Value) (g : D → Option D) : Prop :=
  ∃ R : V → Hp → VK → Prop, UnR X f R ∧ ∀ (z : Pz) (C H : Hp) (d u : D) (x : V) (Q : VK), Ok z C H → Dn X.K C z.p d x → g d = some u → (∀ v C' H', Tr z C H C' H' → Dn X.K C' z.p u v → Q v H') → R x H Q
def mUn (g : D → Option D) (ma : ME) : ME := fun env Q => ma env fun x => ∃ u, g x = some u ∧ Q u
theorem pd_un {op : UnaryOp} {g : D → Option D} (ho : UnD X (unaryOp op) g) (ha : PD X a ma) : PD X (.UnaryOp op a pos) (mUn g ma) := by
  obtain ⟨R, hR, hi⟩ := ho
  refine ⟨pe_imp (pe_un hR ha.run) fun σ H Q q => ?_, fun env Q Q' i q => ha.mono env _ _ (fun x ⟨c, e, q⟩ => ⟨c, e, i _ q⟩) q⟩
  obtain ⟨z, C, env, o, r, q⟩ := q
  exact lift_use ha.mono o r q fun d v C' H' ⟨c, e, p⟩ t dn => hi z C' H' d c v Q t.ok dn e fun v' C2 H2 t2 => p v' C2 H2 (t.trans t2)

/-! ### arguments, displays -/
abbrev MA := Env → (List D → Prop) → Prop
def liftA (K : PySem.W.Frag) (m : MA) : TA := fun σ H Q => ∃ z C env, Ok z C H ∧ EnvR K z C env σ ∧ m env fun ds => ∀ vs C' H', Tr z C H C' H' → Dns K C' z.p ds vs → Q vs H'
def MonoA (m : MA) : Prop := ∀ env (Q Q' : List D → Prop), (∀ d, Q d → Q' d) → m env Q → m env Q'
structure PDA (X : Cx) (es : List Expr) (m : MA) : Prop where
  run : PA X es (liftA X.K m)
  mono : MonoA m
def maNil : MA := fun _ Q => Q []
def maCons (ma : ME) (mr : MA) : MA := fun env Q => ma env fun d => mr env fun ds => Q (d :: ds)
theorem pa_imp {es : List Expr} {t t' : TA} (h : PA X es t) (i : ∀ σ H Q, t' σ H Q → t σ H Q) : PA X es t' := ⟨fun p pins s σ H Q I q => h.run p pins s σ H Q I (i σ H Q q)⟩
theorem pda_nil : PDA X [] maNil := ⟨pa_imp pa_nil fun σ H Q ⟨z, C, env, o, r, q⟩ => q [] C H (Tr.refl o) (dns_nil.mpr rfl), fun env Q Q' i q => i _ q⟩
theorem liftA_use {K : PySem.W.Frag} {z : Pz} {C H : Hp} {env : Env} {σ : L2.St} {m : MA} {P : List D → Prop} {Q : List V → Hp → Prop} (hm : MonoA m) (o : Ok z C H) (r : EnvR K z C env σ) (q : m env P) (k : ∀ d v C' H', P d → Tr z C H C' H' → Dns K C' z.p d v → Q v H') : liftA K m σ H Q :=
  ⟨z, C, env, o, r, hm env _ _ (fun d p v C' H' t dn => k d v C' H' p t dn) q⟩
theorem pda_cons {es : List Expr} {mr : MA} (ha : PD X e ma) (hr : PDA X es mr) (hs : starEach (e :: es) X.env = (false, eval e X.env) :: starEach es X.env := by rfl) : PDA X (e :: es) (maCons ma mr) := by
  refine ⟨pa_imp (pa_cons ha.run hr.run hs) fun σ H Q q => ?_, fun env Q Q' i q => ha.mono env _ _ (fun d q => hr.mono env _ _ (fun ds q => i _ q) q) q⟩
  obtain ⟨z, C, env, o, r, q⟩ := q
  exact lift_use ha.mono o r q fun d v C' H' p t dn => liftA_use hr.mono t.ok (r.mono t.cc) p fun ds vs C2 H2 p2 t2 dns => p2 (v :: vs) C2 H2 (t.trans t2) (dns_cons.mpr ⟨v, vs, rfl, dn.mono t2.cc, dns⟩)
def szOk (n : Nat) : Bool := decide (n ≤ 4000000)
theorem sz_ok {n : Nat} (h : szOk n = true) : n ≤ sizeLine := by
  have : n ≤ 4000000 := of_decide_eq_true h
  have e : sizeLine = 16777216 := sizeLine_eq
  omega
theorem sz_lt {n : Nat} (h : szOk n = true) : n < sizeLine := by
  have : n ≤ 4000000 := of_decide_eq_true h
  have e : sizeLine = 16777216 := sizeLine_eq
  omega
def mTup (m : MA) : ME := fun env Q => m env fun ds => szOk ds.length = true ∧ Q (.tup ds)
def mLst (m : MA) : ME := fun env Q => m env fun ds => szOk ds.length = true ∧ Q (.lst ds)
theorem dn_new_tup {K : PySem.W.Frag} {C : Hp} {pu p : Addr} {ds : List D} {xs : List V} (h : Dns K C pu ds xs) (hc : C p = none) : Dn K (upd C p (.tup xs)) pu (.tup ds) (.ref p) :=
  dn_tup.mpr ⟨p, xs, rfl, st_of upd_same, h.mono (Ex.new hc)⟩
theorem dn_new_lst {K : PySem.W.Frag} {C : Hp} {pu p : Addr} {ds : List D} {xs : List V} (h : Dns K C pu ds xs) (hc : C p = none) : Dn K (upd C p (.lst xs)) pu (.lst ds) (.ref p) :=
  dn_lst.mpr ⟨p, xs, rfl, upd_same, h.mono (Ex.new hc)⟩
theorem pd_tup {es : List Expr} {m : MA} {x1} (h : PDA X es m) : PD X (.Tuple es x1 pos) (mTup m) := by
  refine ⟨pe_imp (pe_tup h.run) fun σ H Q q => ?_, fun env Q Q' i q => h.mono env _ _ (fun ds ⟨a, q⟩ => ⟨a, i _ q⟩) q⟩
  obtain ⟨z, C, env, o, r, q⟩ := q
  exact liftA_use h.mono o r q fun ds vs C' H' ⟨hz, p⟩ t dn => ⟨by rw [dn.len]; exact sz_ok hz, fun p' hp => p _ _ _ (t.trans (Tr.put t.ok hp)) (dn_new_tup dn (fresh_back t.ok.ex hp))⟩
theorem pd_lst {es : List Expr} {m : MA} (h : PDA X es m) : PD X (.List es pos) (mLst m) := by
  refine ⟨pe_imp (pe_lst h.run) fun σ H Q q => ?_, fun env Q Q' i q => h.mono env _ _ (fun ds ⟨a, q⟩ => ⟨a, i _ q⟩) q⟩
  obtain ⟨z, C, env, o, r, q⟩ := q
  exact liftA_use h.mono o r q fun ds vs C' H' ⟨hz, p⟩ t dn => ⟨by rw [dn.len]; exact sz_ok hz, fun p' hp => p _ _ _ (t.trans (Tr.put t.ok hp)) (dn_new_lst dn (fresh_back t.ok.ex hp))⟩

/-! ### calls -/
/-- what a def does, on data -/
abbrev SpD := List D → (D → Prop) → Prop
def liftF (K : PySem.W.Frag) (sp : SpD) : Sp := fun vs H Q _ => ∃ z C ds, ∃ T : D → Prop, Ok z C H ∧ Dns K C z.p ds vs ∧ sp ds T ∧ ∀ d v C' H', T d → Tr z C H C' H' → Dn K C' z.p d v → Q v H'
def CallD (X : Cx) (f : Value) (g : List D → Option D) : Prop :=
  ∃ R : List V → Hp → VK → Prop, CallR X f R ∧ ∀ (z : Pz) (C H : Hp) (ds : List D) (u : D) (xs : List V) (Q : VK), Ok z C H → Dns X.K C z.p ds xs → g ds = some u → (∀ v C' H', Tr z C H C' H' → Dn X.K C' z.p u v → Q v H') → R xs H Q
def mCB (g : List D → Option D) (m : MA) : ME := fun env Q => m env fun ds => ∃ u, g ds = some u ∧ Q u
theorem cb_use {R : List V → Hp → VK → Prop} {g : List D → Option D} {m : MA} {es : List Expr} (h : PDA X es m) (hi : ∀ (z : Pz) (C H : Hp) (ds : List D) (u : D) (xs : List V) (Q : VK), Ok z C H → Dns X.K C z.p ds xs → g ds = some u → (∀ v C' H', Tr z C H C' H' → Dn X.K C' z.p u v → Q v H') → R xs H Q)
    {σ : L2.St} {H : Hp} {Q : VK} (q : lift X.K (mCB g m) σ H Q) : tCB R (liftA X.K m) σ H Q := by
  obtain ⟨z, C, env, o, r, q⟩ := q
  exact liftA_use h.mono o r q fun ds vs C' H' ⟨u, e, p⟩ t dn => hi z C' H' ds u vs Q t.ok dn e fun v C2 H2 t2 => p v C2 H2 (t.trans t2)
theorem mono_cb {g : List D → Option D} {m : MA} (h : MonoA m) : Mono (mCB g m) := fun env Q Q' i q => h env _ _ (fun ds ⟨u, e, q⟩ => ⟨u, e, i _ q⟩) q
theorem pd_callB {x : Str} {p : Pos} {es : List Expr} {m : MA} {id : String} {g : List D → Option D} (hc : CallD X (.builtin id) g) (hg : Gl X x) (hm : X.mg x = none) (hv : bootBuiltins x = some (.builtin id)) (h : PDA X (e :: es) m)
    (hn : x ≠ "__name__" := by decide) (hdb : (x == ("__debug__" : Str)) = false := by decide) (he : starEach (e :: es) X.env = (false, eval e X.env) :: starEach es X.env := by rfl) (hpl : (backTo pos (starEach es X.env)).any (·.1) = false := by rfl) :
    PD X (.Call (.Name x p) (e :: es) [] pos) (mCB g m) := by
  obtain ⟨R, hR, hi⟩ := hc
  exact ⟨pe_imp (pe_callB hR hg hm hv h.run hn hdb he hpl) fun σ H Q q => cb_use h hi q, mono_cb h.mono⟩
theorem pd_callTy {x : Str} {p : Pos} {es : List Expr} {m : MA} {T : String} {g : List D → Option D} (hc : CallD X (.type T) g) (hg : Gl X x) (hm : X.mg x = none) (hv : bootBuiltins x = some (.type T)) (h : PDA X (e :: es) m)
    (hn : x ≠ "__name__" := by decide) (hdb : (x == ("__debug__" : Str)) = false := by decide) (he : starEach (e :: es) X.env = (false, eval e X.env) :: starEach es X.env := by rfl) (hpl : (backTo pos (starEach es X.env)).any (·.1) = false := by rfl) :
    PD X (.Call (.Name x p) (e :: es) [] pos) (mCB g m) := by
  obtain ⟨R, hR, hi⟩ := hc
  exact ⟨pe_imp (pe_callTy hR hg hm hv h.run hn hdb he hpl) fun σ H Q q => cb_use h hi q, mono_cb h.mono⟩
end
end BV

/-! Statements, loops, comprehensions, by value. -/
namespace BV
open PySem PySem.Spec PyProof.Rows L2 Evl

abbrev SEnv := List (Option (Bool × D))
def view (rs : List Nat) : Nat → SEnv → Env
  | _, [] => []
  | k, o :: r => (match o with | none => none | some (false, d) => some d | some (true, d) => if rs.contains k then some d else none) :: view rs (k + 1) r
def frz (rs : List Nat) : Nat → SEnv → SEnv
  | _, [] => []
  | k, o :: r => (match o with | none => none | some (false, d) => some (false, d) | some (true, d) => some (!rs.contains k, d)) :: frz rs (k + 1) r
theorem view_len {rs : List Nat} : ∀ (k : Nat) (env : SEnv), (view rs k env).length = env.length
  | k, [] => rfl
  | k, none :: r => by simp [view, view_len (k + 1) r]
  | k, some (false, d) :: r => by simp [view, view_len (k + 1) r]
  | k, some (true, d) :: r => by simp [view, view_len (k + 1) r]
theorem frz_len {rs : List Nat} : ∀ (k : Nat) (env : SEnv), (frz rs k env).length = env.length
  | k, [] => rfl
  | k, none :: r => by simp [frz, frz_len (k + 1) r]
  | k, some (false, d) :: r => by simp [frz, frz_len (k + 1) r]
  | k, some (true, d) :: r => by simp [frz, frz_len (k + 1) r]
theorem view_at {rs : List Nat} : ∀ {k : Nat} {env : SEnv} {i : Nat} {d : D}, (view rs k env)[i]? = some (some d) → env[i]? = some (some (false, d)) ∨ (env[i]? = some (some (true, d)) ∧ k + i ∈ rs)
  | k, [], i, d, h => by simp [view] at h
  | k, none :: r, 0, d, h => by simp [view] at h
  | k, some (false, c) :: r, 0, d, h => by simp [view] at h; simp [h]
  | k, some (true, c) :: r, 0, d, h => by
    simp only [view, List.getElem?_cons_zero, Option.some.injEq] at h
    split at h
    · rename_i hc
      cases h
      exact .inr ⟨rfl, by simpa using hc⟩
    · cases h
  | k, none :: r, i + 1, d, h => by
    have := view_at (rs := rs) (k := k + 1) (env := r) (i := i) (d := d) (by simpa [view] using h)
    simpa [Nat.add_assoc, Nat.add_comm 1 i] using this
  | k, some (false, c) :: r, i + 1, d, h => by
    have := view_at (rs := rs) (k := k + 1) (env := r) (i := i) (d := d) (by simpa [view] using h)
    simpa [Nat.add_assoc, Nat.add_comm 1 i] using this
  | k, some (true, c) :: r, i + 1, d, h => by
    have := view_at (rs := rs) (k := k + 1) (env := r) (i := i) (d := d) (by simpa [view] using h)
    simpa [Nat.add_assoc, Nat.add_comm 1 i] using this
theorem frz_sh {rs : List Nat} : ∀ {k : Nat} {env : SEnv} {i : Nat} {d : D}, (frz rs k env)[i]? = some (some (false, d)) → env[i]? = some (some (false, d)) ∨ (env[i]? = some (some (true, d)) ∧ k + i ∈ rs)
  | k, [], i, d, h => by simp [frz] at h
  | k, none :: r, 0, d, h => by simp [frz] at h
  | k, some (false, c) :: r, 0, d, h => by simp [frz] at h; simp [h]
  | k, some (true, c) :: r, 0, d, h => by
    simp only [frz, List.getElem?_cons_zero, Option.some.injEq, Prod.mk.injEq] at h
    exact .inr ⟨by simp [h.2], by simpa using h.1⟩
  | k, none :: r, i + 1, d, h => by
    have := frz_sh (rs := rs) (k := k + 1) (env := r) (i := i) (d := d) (by simpa [frz] using h)
    simpa [Nat.add_assoc, Nat.add_comm 1 i] using this
  | k, some (false, c) :: r, i + 1, d, h => by
    have := frz_sh (rs := rs) (k := k + 1) (env := r) (i := i) (d := d) (by simpa [frz] using h)
    simpa [Nat.add_assoc, Nat.add_comm 1 i] using this
  | k, some (true, c) :: r, i + 1, d, h => by
    have := frz_sh (rs := rs) (k := k + 1) (env := r) (i := i) (d := d) (by simpa [frz] using h)
    simpa [Nat.add_assoc, Nat.add_comm 1 i] using this
theorem frz_own {rs : List Nat} : ∀ {k : Nat} {env : SEnv} {i : Nat} {d : D}, (frz rs k env)[i]? = some (some (true, d)) → env[i]? = some (some (true, d)) ∧ ¬ k + i ∈ rs
  | k, [], i, d, h => by simp [frz] at h
  | k, none :: r, 0, d, h => by simp [frz] at h
  | k, some (false, c) :: r, 0, d, h => by simp [frz] at h
  | k, some (true, c) :: r, 0, d, h => by
    simp only [frz, List.getElem?_cons_zero, Option.some.injEq, Prod.mk.injEq] at h
    exact ⟨by simp [h.2], by simpa using h.1⟩
  | k, none :: r, i + 1, d, h => by
    have := frz_own (rs := rs) (k := k + 1) (env := r) (i := i) (d := d) (by simpa [frz] using h)
    simpa [Nat.add_assoc, Nat.add_comm 1 i] using this
  | k, some (false, c) :: r, i + 1, d, h => by
    have := frz_own (rs := rs) (k := k + 1) (env := r) (i := i) (d := d) (by simpa [frz] using h)
    simpa [Nat.add_assoc, Nat.add_comm 1 i] using this
  | k, some (true, c) :: r, i + 1, d, h => by
    have := frz_own (rs := rs) (k := k + 1) (env := r) (i := i) (d := d) (by simpa [frz] using h)
    simpa [Nat.add_assoc, Nat.add_comm 1 i] using this

/-- the state of a def's body: what it may lean on (shared), what is its own alone -/
structure SR (K : PySem.W.Frag) (z : Pz) (C0 H0 Cb C : Hp) (env : SEnv) (σ : L2.St) (H : Hp) : Prop where
  o0 : Ok z C0 H0
  tr : Tr z C0 H0 C H
  cb : Ex Cb C
  len : env.length = σ.length
  sh : ∀ (i : Nat) (d : D), env[i]? = some (some (false, d)) → ∃ v, σ[i]? = some (some v) ∧ Dn K C z.p d v
  own : ∀ (i : Nat) (d : D), env[i]? = some (some (true, d)) → ∃ a ds xs, d = .lst ds ∧ σ[i]? = some (some (.ref a)) ∧ C a = none ∧ H a = some (.lst xs) ∧ Dns K C z.p ds xs ∧ H0 a = none
  dif : ∀ (i j : Nat) (d e : D) (a : Addr), env[i]? = some (some (true, d)) → env[j]? = some (some (true, e)) → σ[i]? = some (some (.ref a)) → σ[j]? = some (some (.ref a)) → i = j

section
variable {K : PySem.W.Frag} {z : Pz} {C0 H0 Cb C H : Hp} {env : SEnv} {σ : L2.St}
theorem SR.nez (s : SR K z C0 H0 Cb C env σ H) {a : Addr} (h : H0 a = none) : a ≠ z.p ∧ a ≠ z.g ∧ a ≠ z.c :=
  ⟨fun e => s.o0.pur.pn (by rw [← e]; exact h), fun e => s.o0.pur.gn (by rw [← e]; exact h), fun e => s.o0.pur.cn (by rw [← e]; exact h)⟩
/-- the addresses of the slots rs that are own -/
def OwnAt (rs : List Nat) (env : SEnv) (σ : L2.St) (a : Addr) : Prop := ∃ i d, i ∈ rs ∧ env[i]? = some (some (true, d)) ∧ σ[i]? = some (some (.ref a))
open Classical in
noncomputable def coreP (rs : List Nat) (env : SEnv) (σ : L2.St) (C H : Hp) : Hp := fun a => if OwnAt rs env σ a then H a else C a
open Classical in
noncomputable def coreM (rs : List Nat) (env : SEnv) (σ : L2.St) (C : Hp) : Hp := fun a => if OwnAt rs env σ a then none else C a
theorem coreP_in {rs : List Nat} {a : Addr} (h : OwnAt rs env σ a) : coreP rs env σ C H a = H a := by unfold coreP; rw [if_pos h]
theorem coreP_out {rs : List Nat} {a : Addr} (h : ¬ OwnAt rs env σ a) : coreP rs env σ C H a = C a := by unfold coreP; rw [if_neg h]
theorem coreM_in {rs : List Nat} {a : Addr} (h : OwnAt rs env σ a) : coreM rs env σ C a = none := by unfold coreM; rw [if_pos h]
theorem coreM_out {rs : List Nat} {a : Addr} (h : ¬ OwnAt rs env σ a) : coreM rs env σ C a = C a := by unfold coreM; rw [if_neg h]
theorem SR.ownAt (s : SR K z C0 H0 Cb C env σ H) {rs : List Nat} {a : Addr} (h : OwnAt rs env σ a) : C a = none ∧ (∃ xs, H a = some (.lst xs)) ∧ H0 a = none := by
  obtain ⟨i, d, _, h1, h2⟩ := h
  obtain ⟨b, ds, xs, _, e2, e3, e4, _, e6⟩ := s.own i d h1
  rw [h2] at e2
  cases e2
  exact ⟨e3, ⟨xs, e4⟩, e6⟩
theorem SR.exP (s : SR K z C0 H0 Cb C env σ H) (rs : List Nat) : Ex C (coreP rs env σ C H) := fun a o e => by
  have : ¬ OwnAt rs env σ a := fun h => by rw [(s.ownAt h).1] at e; cases e
  rw [coreP_out this]
  exact e
theorem SR.okP (s : SR K z C0 H0 Cb C env σ H) (rs : List Nat) : Ok z (coreP rs env σ C H) H := by
  have n : ∀ a, H0 a ≠ none → ¬ OwnAt rs env σ a := fun a e h => e (s.ownAt h).2.2
  refine ⟨fun a o e => ?_, s.tr.ok.pur.at_, ?_, ?_, ?_, s.tr.ok.pur.pg, s.tr.ok.pur.pc, s.tr.ok.pur.gc⟩
  · by_cases h : OwnAt rs env σ a
    · rw [coreP_in h] at e; exact e
    · rw [coreP_out h] at e; exact s.tr.ok.ex a o e
  · rw [coreP_out (n _ s.o0.pur.pn)]; exact s.tr.ok.pur.cp
  · rw [coreP_out (n _ s.o0.pur.gn)]; exact s.tr.ok.pur.cg
  · rw [coreP_out (n _ s.o0.pur.cn)]; exact s.tr.ok.pur.cc
theorem SR.trP (s : SR K z C0 H0 Cb C env σ H) (rs : List Nat) : Tr z C0 H0 (coreP rs env σ C H) H :=
  ⟨s.tr.cc.trans (s.exP rs), s.okP rs, s.tr.keep, fun a e => by rw [coreP_out fun h => e (s.ownAt h).2.2]; exact s.tr.new a e⟩
theorem SR.envP (s : SR K z C0 H0 Cb C env σ H) (rs : List Nat) : EnvR K z (coreP rs env σ C H) (view rs 0 env) σ := by
  refine ⟨by rw [view_len]; exact s.len, fun i d h => ?_⟩
  rcases view_at h with h | ⟨h, hm⟩
  · obtain ⟨v, h1, h2⟩ := s.sh i d h
    exact ⟨v, h1, h2.mono (s.exP rs)⟩
  · obtain ⟨a, ds, xs, rfl, e2, e3, e4, e5, e6⟩ := s.own i d h
    have ho : OwnAt rs env σ a := ⟨i, _, by simpa using hm, h, e2⟩
    exact ⟨_, e2, dn_lst.mpr ⟨a, xs, rfl, (by rw [coreP_in ho]; exact e4), e5.mono (s.exP rs)⟩⟩
/-- what the slots are behind an expression that read the own slots rs and gave d -/
def aft (rs : List Nat) (d : D) (env : SEnv) : SEnv := if d.lf = true then env else frz rs 0 env
/-- kept: the own slots are not read, nothing else matters -/
theorem SR.thaw (s : SR K z C0 H0 Cb C env σ H) (rs : List Nat) {C' H' : Hp} (t : Tr z (coreP rs env σ C H) H C' H') : SR K z C0 H0 Cb (coreM rs env σ C') env σ H' := by
  have hP := s.trP rs
  have n : ∀ a, H0 a ≠ none → ¬ OwnAt rs env σ a := fun a e h => e (s.ownAt h).2.2
  have ex : Ex C (coreM rs env σ C') := fun a o e => by
    have : ¬ OwnAt rs env σ a := fun h => by rw [(s.ownAt h).1] at e; cases e
    rw [coreM_out this]
    exact t.cc a o (s.exP rs a o e)
  have tt := hP.trans t
  refine ⟨s.o0, ⟨s.tr.cc.trans ex, ⟨fun a o e => ?_, t.ok.pur.at_, ?_, ?_, ?_, t.ok.pur.pg, t.ok.pur.pc, t.ok.pur.gc⟩, tt.keep, fun a e => ?_⟩, s.cb.trans ex, s.len, fun i d h => ?_, fun i d h => ?_, s.dif⟩
  · by_cases h : OwnAt rs env σ a
    · rw [coreM_in h] at e; cases e
    · rw [coreM_out h] at e; exact t.ok.ex a o e
  · rw [coreM_out (n _ s.o0.pur.pn)]; exact t.ok.pur.cp
  · rw [coreM_out (n _ s.o0.pur.gn)]; exact t.ok.pur.cg
  · rw [coreM_out (n _ s.o0.pur.cn)]; exact t.ok.pur.cc
  · rw [coreM_out (n _ e)]; exact tt.new a e
  · obtain ⟨v, h1, h2⟩ := s.sh i d h
    exact ⟨v, h1, h2.mono ex⟩
  · obtain ⟨a, ds, xs, e1, e2, e3, e4, e5, e6⟩ := s.own i d h
    have nz := s.nez e6
    refine ⟨a, ds, xs, e1, e2, ?_, t.keep a _ e4 nz.1 nz.2.1, e5.mono ex, e6⟩
    by_cases ho : OwnAt rs env σ a
    · exact coreM_in ho
    · rw [coreM_out ho, t.new a (by rw [e4]; exact fun q => nomatch q), coreP_out ho]; exact e3
theorem SR.frozen (s : SR K z C0 H0 Cb C env σ H) (rs : List Nat) {C' H' : Hp} (t : Tr z (coreP rs env σ C H) H C' H') : SR K z C0 H0 Cb C' (frz rs 0 env) σ H' := by
  have ex : Ex C C' := (s.exP rs).trans t.cc
  refine ⟨s.o0, (s.trP rs).trans t, s.cb.trans ex, by rw [frz_len]; exact s.len, fun i d h => ?_, fun i d h => ?_, fun i j d e a h1 h2 h3 h4 => s.dif i j d e a (frz_own h1).1 (frz_own h2).1 h3 h4⟩
  · rcases frz_sh h with h | ⟨h, hm⟩
    · obtain ⟨v, h1, h2⟩ := s.sh i d h
      exact ⟨v, h1, h2.mono ex⟩
    · obtain ⟨a, ds, xs, rfl, e2, e3, e4, e5, e6⟩ := s.own i d h
      have ho : OwnAt rs env σ a := ⟨i, _, by simpa using hm, h, e2⟩
      exact ⟨_, e2, dn_lst.mpr ⟨a, xs, rfl, t.cc a _ (by rw [coreP_in ho]; exact e4), e5.mono ex⟩⟩
  · obtain ⟨h, hm⟩ := frz_own h
    obtain ⟨a, ds, xs, e1, e2, e3, e4, e5, e6⟩ := s.own i d h
    have nz := s.nez e6
    have ho : ¬ OwnAt rs env σ a := fun ⟨j, e, hj, h1, h2⟩ => by
      have : j = i := s.dif j i e d a h1 h h2 e2
      subst this
      exact hm (by simpa using hj)
    refine ⟨a, ds, xs, e1, e2, ?_, t.keep a _ e4 nz.1 nz.2.1, e5.mono ex, e6⟩
    rw [t.new a (by rw [e4]; exact fun q => nomatch q), coreP_out ho]; exact e3
theorem SR.tupSub (s : SR K z C0 H0 Cb C env σ H) (rs : List Nat) {C' H' : Hp} (t : Tr z (coreP rs env σ C H) H C' H') : TupSub K C' (coreM rs env σ C') := fun a xs h => by
  have key : ∀ o, C' a = some o → (∀ ys, o ≠ .lst ys) → coreM rs env σ C' a = some o := fun o e ne => by
    have : ¬ OwnAt rs env σ a := fun h => by
      obtain ⟨_, ⟨ys, hy⟩, _⟩ := s.ownAt h
      have := t.cc a _ (by rw [coreP_in h]; exact hy)
      rw [e] at this
      cases this
      exact ne _ rfl
    rw [coreM_out this]
    exact e
  rcases h with (h | ⟨o, h⟩) | h
  · exact .inl (.inl (key _ h fun _ q => nomatch q))
  · exact .inl (.inr ⟨o, key _ h fun _ q => nomatch q⟩)
  · exact .inr h
theorem SR.use (s : SR K z C0 H0 Cb C env σ H) {m : ME} {P : D → Prop} {Q : VK} (rs : List Nat) (hm : Mono m) (q : m (view rs 0 env) P)
    (k : ∀ d v C' H', P d → SR K z C0 H0 Cb C' (aft rs d env) σ H' → Dn K C' z.p d v → Q v H') : lift K m σ H Q := by
  refine ⟨z, _, _, s.okP rs, s.envP rs, hm _ _ _ (fun d p v C' H' t dn => ?_) q⟩
  by_cases hd : d.lf = true
  · refine k d v (coreM rs env σ C') H' p ?_ (dn.lf (s.tupSub rs t) d v hd)
    unfold aft
    rw [if_pos hd]
    exact s.thaw rs t
  · refine k d v C' H' p ?_ dn
    unfold aft
    rw [if_neg hd]
    exact s.frozen rs t
theorem SR.useT (s : SR K z C0 H0 Cb C env σ H) {m : MT} {P : Bool → Prop} {Q : Bool → Hp → Prop} (rs : List Nat) (hm : MonoT m) (q : m (view rs 0 env) P)
    (k : ∀ b C' H', P b → SR K z C0 H0 Cb C' env σ H' → Q b H') : liftT K m σ H Q :=
  ⟨z, _, _, s.okP rs, s.envP rs, hm _ _ _ (fun b p C' H' t => k b _ H' p (s.thaw rs t)) q⟩
theorem get_set_eq {α : Type} {l : List α} {i j : Nat} {x y : α} (h : (l.set i x)[j]? = some y) : (j = i ∧ y = x ∧ i < l.length) ∨ (j ≠ i ∧ l[j]? = some y) := by
  by_cases hij : i = j
  · subst hij
    have hl : i < l.length := by
      have := (List.getElem?_eq_some_iff.mp h).1
      rwa [List.length_set] at this
    rw [List.getElem?_set_self hl] at h
    cases h
    exact .inl ⟨rfl, rfl, hl⟩
  · rw [List.getElem?_set_ne hij] at h
    exact .inr ⟨fun e => hij e.symm, h⟩
/-- a slot gets shared data -/
theorem SR.set (s : SR K z C0 H0 Cb C env σ H) (i : Nat) {d : D} {v : V} (dn : Dn K C z.p d v) : SR K z C0 H0 Cb C (env.set i (some (false, d))) (σ.set i (some v)) H := by
  refine ⟨s.o0, s.tr, s.cb, by rw [List.length_set, List.length_set]; exact s.len, fun j e h => ?_, fun j e h => ?_, fun j l e f a h1 h2 h3 h4 => ?_⟩
  · rcases get_set_eq h with ⟨rfl, h1, h2⟩ | ⟨h1, h2⟩
    · cases h1
      exact ⟨v, by rw [List.getElem?_set_self (by rw [← s.len]; exact h2)], dn⟩
    · rw [List.getElem?_set_ne (Ne.symm h1)]
      exact s.sh j e h2
  · rcases get_set_eq h with ⟨rfl, h1, h2⟩ | ⟨h1, h2⟩
    · cases h1
    · rw [List.getElem?_set_ne (Ne.symm h1)]
      exact s.own j e h2
  · rcases get_set_eq h1 with ⟨_, q, _⟩ | ⟨q1, q2⟩
    · cases q
    · rcases get_set_eq h2 with ⟨_, q, _⟩ | ⟨p1, p2⟩
      · cases q
      · rw [List.getElem?_set_ne (Ne.symm q1)] at h3
        rw [List.getElem?_set_ne (Ne.symm p1)] at h4
        exact s.dif j l e f a q2 p2 h3 h4
/-- a slot gets a list of its own: a is nobody else's -/
theorem SR.setOwn (s : SR K z C0 H0 Cb C env σ H) (i : Nat) {ds : List D} {xs : List V} {a : Addr} (hC : C a = none) (hH : H a = some (.lst xs)) (dn : Dns K C z.p ds xs) (h0 : H0 a = none)
    (ne : ∀ j e, env[j]? = some (some (true, e)) → σ[j]? = some (some (.ref a)) → j = i) : SR K z C0 H0 Cb C (env.set i (some (true, .lst ds))) (σ.set i (some (.ref a))) H := by
  refine ⟨s.o0, s.tr, s.cb, by rw [List.length_set, List.length_set]; exact s.len, fun j e h => ?_, fun j e h => ?_, fun j l e f b h1 h2 h3 h4 => ?_⟩
  · rcases get_set_eq h with ⟨rfl, h1, h2⟩ | ⟨h1, h2⟩
    · cases h1
    · rw [List.getElem?_set_ne (Ne.symm h1)]
      exact s.sh j e h2
  · rcases get_set_eq h with ⟨rfl, h1, h2⟩ | ⟨h1, h2⟩
    · cases h1
      exact ⟨a, ds, xs, rfl, by rw [List.getElem?_set_self (by rw [← s.len]; exact h2)], hC, hH, dn, h0⟩
    · rw [List.getElem?_set_ne (Ne.symm h1)]
      exact s.own j e h2
  · have key : ∀ j e, (env.set i (some (true, .lst ds)))[j]? = some (some (true, e)) → (σ.set i (some (.ref a)))[j]? = some (some (.ref b)) → (j = i ∧ b = a) ∨ (j ≠ i ∧ env[j]? = some (some (true, e)) ∧ σ[j]? = some (some (.ref b))) := fun j e h1 h3 => by
      rcases get_set_eq h1 with ⟨q, q', ql⟩ | ⟨q1, q2⟩
      · subst q
        rw [List.getElem?_set_self (by rw [← s.len]; exact ql)] at h3
        cases h3
        exact .inl ⟨rfl, rfl⟩
      · rw [List.getElem?_set_ne (Ne.symm q1)] at h3
        exact .inr ⟨q1, q2, h3⟩
    rcases key j e h1 h3 with ⟨p, q⟩ | ⟨p, q, r⟩
    · rcases key l f h2 h4 with ⟨p', q'⟩ | ⟨p', q', r'⟩
      · rw [p, p']
      · subst q
        exact absurd (ne l f q' r') p'
    · rcases key l f h2 h4 with ⟨p', q'⟩ | ⟨p', q', r'⟩
      · subst q'
        exact absurd (ne j e q r) p
      · exact s.dif j l e f b q q' r r'
theorem SR.cb' (s : SR K z C0 H0 Cb C env σ H) : SR K z C0 H0 C C env σ H := ⟨s.o0, s.tr, Ex.refl C, s.len, s.sh, s.own, s.dif⟩
theorem SR.weak {Cb' : Hp} (s : SR K z C0 H0 Cb C env σ H) (e : Ex Cb' Cb) : SR K z C0 H0 Cb' C env σ H := ⟨s.o0, s.tr, e.trans s.cb, s.len, s.sh, s.own, s.dif⟩
/-- the heap goes on, nothing of the def's own -/
theorem SR.next (s : SR K z C0 H0 Cb C env σ H) {C' H' : Hp} (t : Tr z C H C' H') : SR K z C0 H0 Cb C' env σ H' := by
  refine ⟨s.o0, s.tr.trans t, s.cb.trans t.cc, s.len, fun i d h => ?_, fun i d h => ?_, s.dif⟩
  · obtain ⟨v, h1, h2⟩ := s.sh i d h
    exact ⟨v, h1, h2.mono t.cc⟩
  · obtain ⟨a, ds, xs, e1, e2, e3, e4, e5, e6⟩ := s.own i d h
    have nz := s.nez e6
    exact ⟨a, ds, xs, e1, e2, (t.new a (by rw [e4]; exact fun q => nomatch q)).trans e3, t.keep a _ e4 nz.1 nz.2.1, e5.mono t.cc, e6⟩
/-- an own list changes -/
theorem SR.write (s : SR K z C0 H0 Cb C env σ H) {i : Nat} {d : D} {a : Addr} {ds : List D} {xs : List V} (hi : env[i]? = some (some (true, d))) (ha : σ[i]? = some (some (.ref a))) (dn : Dns K C z.p ds xs) :
    SR K z C0 H0 Cb C (env.set i (some (true, .lst ds))) σ (upd H a (.lst xs)) := by
  obtain ⟨b, ds0, xs0, e1, e2, e3, e4, e5, e6⟩ := s.own i d hi
  rw [ha] at e2
  cases e2
  have nz := s.nez e6
  have hil : i < env.length := (List.getElem?_eq_some_iff.mp hi).1
  refine ⟨s.o0, ⟨s.tr.cc, ⟨fun c o e => ?_, ?_⟩, fun c o e n1 n2 => ?_, s.tr.new⟩, s.cb, by rw [List.length_set]; exact s.len, fun j e h => ?_, fun j e h => ?_, fun j l e f b h1 h2 h3 h4 => ?_⟩
  · have : c ≠ a := fun q => by rw [q, e3] at e; cases e
    rw [upd_ne this]
    exact s.tr.ok.ex c o e
  · obtain ⟨gs, cs, sm, k, h1, h2, h3, h4⟩ := s.tr.ok.pur.at_
    exact ⟨⟨gs, cs, sm, k, by rw [upd_ne nz.1.symm]; exact h1, by rw [upd_ne nz.2.1.symm]; exact h2, by rw [upd_ne nz.2.2.symm]; exact h3, h4⟩, s.tr.ok.pur.cp, s.tr.ok.pur.cg, s.tr.ok.pur.cc, s.tr.ok.pur.pg, s.tr.ok.pur.pc, s.tr.ok.pur.gc⟩
  · have : c ≠ a := fun q => by rw [q, e6] at e; cases e
    rw [upd_ne this]
    exact s.tr.keep c o e n1 n2
  · rcases get_set_eq h with ⟨rfl, h1, h2⟩ | ⟨h1, h2⟩
    · cases h1
    · exact s.sh j e h2
  · rcases get_set_eq h with ⟨rfl, h1, h2⟩ | ⟨h1, h2⟩
    · cases h1
      exact ⟨a, ds, xs, rfl, ha, e3, upd_same, dn, e6⟩
    · obtain ⟨b, ds1, xs1, f1, f2, f3, f4, f5, f6⟩ := s.own j e h2
      have : b ≠ a := fun q => by
        subst q
        exact h1 (s.dif j i e d b h2 hi f2 ha)
      exact ⟨b, ds1, xs1, f1, f2, f3, by rw [upd_ne this]; exact f4, f5, f6⟩
  · have key : ∀ j e, (env.set i (some (true, .lst ds)))[j]? = some (some (true, e)) → ∃ e', env[j]? = some (some (true, e')) := fun j e h => by
      rcases get_set_eq h with ⟨rfl, _, _⟩ | ⟨_, h2⟩
      · exact ⟨d, hi⟩
      · exact ⟨e, h2⟩
    obtain ⟨e', k1⟩ := key j e h1
    obtain ⟨f', k2⟩ := key l f h2
    exact s.dif j l e' f' b k1 k2 h3 h4
end

/-! ### statements -/
structure EndD where
  nx : SEnv → Prop
  rt : D → Prop
  bk : SEnv → Prop
  ct : SEnv → Prop
structure EndD.Le (E E' : EndD) : Prop where
  nx : ∀ e, E.nx e → E'.nx e
  rt : ∀ d, E.rt d → E'.rt d
  bk : ∀ e, E.bk e → E'.bk e
  ct : ∀ e, E.ct e → E'.ct e
abbrev MS := EndD → SEnv → Prop
def MonoS (m : MS) : Prop := ∀ E E' env, EndD.Le E E' → m E env → m E' env
section
variable (K : PySem.W.Frag) (z : Pz) (C0 H0 Cb : Hp)
def endsOf (D : Ends) : EndD where
  nx := fun env' => ∀ σ' C' H', SR K z C0 H0 Cb C' env' σ' H' → D.nx σ' H'
  rt := fun d => ∀ v C' H', Tr z C0 H0 C' H' → Dn K C' z.p d v → D.rt v H'
  bk := fun env' => ∀ σ' C' H', SR K z C0 H0 Cb C' env' σ' H' → D.bk σ' H'
  ct := fun env' => ∀ σ' C' H', SR K z C0 H0 Cb C' env' σ' H' → D.ct σ' H'
def liftS (m : MS) : TS := fun D σ H => ∃ C env, SR K z C0 H0 Cb C env σ H ∧ m (endsOf K z C0 H0 Cb D) env
end
structure PDS (X : Cx) (st : Stmt) (m : MS) : Prop where
  run : ∀ z C0 H0 Cb, PS X st (liftS X.K z C0 H0 Cb m)
  mono : MonoS m
structure PDSs (X : Cx) (st : List Stmt) (m : MS) : Prop where
  run : ∀ z C0 H0 Cb, PSs X st (liftS X.K z C0 H0 Cb m)
  mono : MonoS m
theorem ps_imp {X : Cx} {st : Stmt} {t t' : TS} (h : PS X st t) (i : ∀ D σ H, t' D σ H → t D σ H) : PS X st t' := ⟨fun pins s σ H D I q => h.run pins s σ H D I (i D σ H q)⟩
theorem pss_imp {X : Cx} {st : List Stmt} {t t' : TS} (h : PSs X st t) (i : ∀ D σ H, t' D σ H → t D σ H) : PSs X st t' := ⟨fun pins s σ H D I q => h.run pins s σ H D I (i D σ H q)⟩
def mNext : MS := fun E env => E.nx env
def mSeq (m n : MS) : MS := fun E env => m { E with nx := fun env' => n E env' } env
def mBreak : MS := fun E env => E.bk env
def mCont : MS := fun E env => E.ct env
section
variable {X : Cx} {st : Stmt} {rest : List Stmt} {m n : MS} {e : Expr} {pos : Pos} {me : ME}
theorem EndD.Le.refl (E : EndD) : EndD.Le E E := ⟨fun _ h => h, fun _ h => h, fun _ h => h, fun _ h => h⟩
theorem pdss_nil : PDSs X [] mNext :=
  ⟨fun z C0 H0 Cb => pss_imp pss_nil fun N σ H ⟨C, env, s, q⟩ => q σ C H s, fun E E' env l q => l.nx _ q⟩
theorem pds_pass : PDS X (.Pass pos) mNext :=
  ⟨fun z C0 H0 Cb => ps_imp ps_pass fun N σ H ⟨C, env, s, q⟩ => q σ C H s, fun E E' env l q => l.nx _ q⟩
theorem pds_break : PDS X (.Break pos) mBreak :=
  ⟨fun z C0 H0 Cb => ps_imp ps_break fun N σ H ⟨C, env, s, q⟩ => q σ C H s, fun E E' env l q => l.bk _ q⟩
theorem pds_continue : PDS X (.Continue pos) mCont :=
  ⟨fun z C0 H0 Cb => ps_imp ps_continue fun N σ H ⟨C, env, s, q⟩ => q σ C H s, fun E E' env l q => l.ct _ q⟩
theorem pdss_cons (h : PDS X st m) (k : PDSs X rest n) : PDSs X (st :: rest) (mSeq m n) := by
  refine ⟨fun z C0 H0 Cb => pss_imp (pss_cons (h.run z C0 H0 Cb) (k.run z C0 H0 Cb)) fun N σ H ⟨C, env, s, q⟩ => ⟨C, env, s, ?_⟩, fun E E' env l q => ?_⟩
  · exact h.mono { endsOf X.K z C0 H0 Cb N with nx := fun env' => n (endsOf X.K z C0 H0 Cb N) env' } _ env ⟨fun e q σ' C' H' s' => ⟨C', e, s', q⟩, fun _ h => h, fun _ h => h, fun _ h => h⟩ q
  · exact h.mono { E with nx := fun env' => n E env' } _ env ⟨fun e q => k.mono _ _ _ l q, l.rt, l.bk, l.ct⟩ q
theorem pdss_one (h : PDS X st m) : PDSs X [st] m :=
  ⟨fun z C0 H0 Cb => pss_one (h.run z C0 H0 Cb), h.mono⟩
/-- return e; the own lists rs are read in e -/
def mRet (rs : List Nat) (me : ME) : MS := fun E env => me (view rs 0 env) fun d => E.rt d
theorem pds_ret (rs : List Nat) (h : PD X e me) : PDS X (.Return (some e) pos) (mRet rs me) := by
  refine ⟨fun z C0 H0 Cb => ps_imp (ps_ret h.run) fun N σ H ⟨C, env, s, q⟩ => ?_, fun E E' env l q => h.mono _ _ _ (fun d q => l.rt _ q) q⟩
  exact s.use rs h.mono q fun d v C' H' p s' dn => p v C' H' s'.tr dn
def mRetN : MS := fun E env => E.rt .non
theorem pds_retN : PDS X (.Return none pos) mRetN :=
  ⟨fun z C0 H0 Cb => ps_imp ps_retN fun N σ H ⟨C, env, s, q⟩ => q .non C H s.tr (dn_non.mpr rfl), fun E E' env l q => l.rt _ q⟩
/-- x = e -/
def mAsg (rs : List Nat) (i : Nat) (me : ME) : MS := fun E env => me (view rs 0 env) fun d => E.nx ((aft rs d env).set i (some (false, d)))
theorem pds_asg (rs : List Nat) {i : Nat} (h : PD X e me) (hp : PS X st (tAsg (lift X.K me) (gName i))) : PDS X st (mAsg rs i me) := by
  refine ⟨fun z C0 H0 Cb => ps_imp hp fun N σ H ⟨C, env, s, q⟩ => ?_, fun E E' env l q => h.mono _ _ _ (fun d q => l.nx _ q) q⟩
  exact s.use rs h.mono q fun d v C' H' p s' dn => p _ C' H' (s'.set i dn)
def mIfS (rs : List Nat) (mt : MT) (m n : MS) : MS := fun E env => mt (view rs 0 env) fun b => if b = true then m E env else n E env
theorem pds_if (rs : List Nat) {a b : List Stmt} {mt : MT} (hc : PDT X e mt) (h : PDSs X a m) (k : PDSs X b n) : PDS X (.If e a b pos) (mIfS rs mt m n) := by
  refine ⟨fun z C0 H0 Cb => ps_imp (ps_if hc.run (h.run z C0 H0 Cb) (k.run z C0 H0 Cb)) fun N σ H ⟨C, env, s, q⟩ => ?_, fun E E' env l q => hc.mono _ _ _ (fun b q => ?_) q⟩
  · refine s.useT rs hc.mono q fun b C' H' p s' => ?_
    cases b with
    | true => exact ⟨C', env, s', p⟩
    | false => exact ⟨C', env, s', p⟩
  · cases b with
    | true => exact h.mono _ _ _ l q
    | false => exact k.mono _ _ _ l q
def mDrop (rs : List Nat) (me : ME) : MS := fun E env => me (view rs 0 env) fun d => E.nx (aft rs d env)
theorem pds_expr (rs : List Nat) (h : PD X e me) (hs : swapsWith e none pos.line X.env = pure false := by rfl) : PDS X (.Expr e pos) (mDrop rs me) := by
  refine ⟨fun z C0 H0 Cb => ps_imp (ps_expr h.run hs) fun N σ H ⟨C, env, s, q⟩ => ?_, fun E E' env l q => h.mono _ _ _ (fun d q => l.nx _ q) q⟩
  exact s.use rs h.mono q fun d v C' H' p s' dn => p _ C' H' s'

/-! ### fresh lists -/
def liftO (K : PySem.W.Frag) (m : MA) : TE := fun σ H Q => ∃ z C env, Ok z C H ∧ EnvR K z C env σ ∧ m env fun ds => ∀ a xs C' H', Tr z C H C' H' → H a = none → C' a = none → H' a = some (.lst xs) → Dns K C' z.p ds xs → Q (.ref a) H'
structure PDO (X : Cx) (e : Expr) (m : MA) : Prop where
  run : PE X e (liftO X.K m)
  mono : MonoA m
theorem Tr.free {z : Pz} {C H C' H' : Hp} (t : Tr z C H C' H') {a : Addr} (h : H' a = none) : H a = none := by
  cases e : H a with
  | none => rfl
  | some o => exact absurd h (t.there (by rw [e]; exact fun q => nomatch q))
def moLst (m : MA) : MA := fun env Q => m env fun ds => szOk ds.length = true ∧ Q ds
theorem pdo_lst {es : List Expr} {m : MA} (h : PDA X es m) : PDO X (.List es pos) (moLst m) := by
  refine ⟨pe_imp (pe_lst h.run) fun σ H Q q => ?_, fun env Q Q' i q => h.mono env _ _ (fun ds ⟨a, q⟩ => ⟨a, i _ q⟩) q⟩
  obtain ⟨z, C, env, o, r, q⟩ := q
  refine liftA_use h.mono o r q fun ds vs C' H' ⟨hz, p⟩ t dn => ⟨by rw [dn.len]; exact sz_ok hz, fun p' hp => ?_⟩
  have hc : C' p' = none := fresh_back t.ok.ex hp
  exact p p' vs C' _ (t.trans (Tr.ext t.ok (Ex.new hp))) (t.free hp) hc upd_same dn
def mLstO (m : MA) : ME := fun env Q => m env fun ds => Q (.lst ds)
/-- a fresh list as data -/
theorem pd_ofO {m : MA} (h : PDO X e m) : PD X e (mLstO m) := by
  refine ⟨pe_imp h.run fun σ H Q q => ?_, fun env Q Q' i q => h.mono env _ _ (fun ds q => i _ q) q⟩
  obtain ⟨z, C, env, o, r, q⟩ := q
  refine ⟨z, C, env, o, r, h.mono env _ _ (fun ds q a xs C' H' t h1 h2 h3 dn => ?_) q⟩
  have hz : ∀ b, H b ≠ none → b ≠ a := fun b hb e => hb (by rw [e]; exact h1)
  refine q (.ref a) (upd C' a (.lst xs)) H' ⟨t.cc.trans (Ex.new h2), ⟨fun b u e => ?_, ?_⟩, t.keep, fun b hb => ?_⟩ (dn_new_lst dn h2)
  · by_cases hb : b = a
    · subst hb; rw [upd_same] at e; cases e; exact h3
    · rw [upd_ne hb] at e; exact t.ok.ex b u e
  · obtain ⟨gs, cs, s, k, g1, g2, g3, g4⟩ := t.ok.pur.at_
    exact ⟨⟨gs, cs, s, k, g1, g2, g3, g4⟩, by rw [upd_ne (hz _ o.pur.pn)]; exact t.ok.pur.cp, by rw [upd_ne (hz _ o.pur.gn)]; exact t.ok.pur.cg, by rw [upd_ne (hz _ o.pur.cn)]; exact t.ok.pur.cc, t.ok.pur.pg, t.ok.pur.pc, t.ok.pur.gc⟩
  · rw [upd_ne (hz b hb)]; exact t.new b hb
/-- x = a fresh list that stays the def's own; the items read no own list, or hold none -/
def mAsgO (rs : List Nat) (i : Nat) (m : MA) : MS := fun E env => m (view rs 0 env) fun ds => D.lfs ds = true ∧ E.nx (env.set i (some (true, .lst ds)))
theorem useO {K : PySem.W.Frag} {z : Pz} {C0 H0 Cb C H : Hp} {env : SEnv} {σ : L2.St} (s : SR K z C0 H0 Cb C env σ H) {m : MA} {P : List D → Prop} {Q : VK} (rs : List Nat) (hm : MonoA m) (q : m (view rs 0 env) fun ds => D.lfs ds = true ∧ P ds)
    (k : ∀ ds xs a C' H', P ds → SR K z C0 H0 Cb C' env σ H' → C' a = none → H' a = some (.lst xs) → Dns K C' z.p ds xs → H a = none → Q (.ref a) H') : liftO K m σ H Q := by
  refine ⟨z, _, _, s.okP rs, s.envP rs, hm _ _ _ (fun ds ⟨l, p⟩ a xs C' H' t h1 h2 h3 dn => ?_) q⟩
  have hn : ¬ OwnAt rs env σ a := fun h => by
    obtain ⟨_, ⟨ys, hy⟩, _⟩ := s.ownAt h
    rw [h1] at hy; cases hy
  exact k ds xs a _ H' p (s.thaw rs t) (by rw [coreM_out hn]; exact h2) h3 (dn.lf (s.tupSub rs t) ds xs l) h1
theorem pds_asgO (rs : List Nat) {i : Nat} {m : MA} (h : PDO X e m) (hp : PS X st (tAsg (liftO X.K m) (gName i))) : PDS X st (mAsgO rs i m) := by
  refine ⟨fun z C0 H0 Cb => ps_imp hp fun N σ H ⟨C, env, s, q⟩ => ?_, fun E E' env l q => h.mono _ _ _ (fun d ⟨a, q⟩ => ⟨a, l.nx _ q⟩) q⟩
  refine useO s rs h.mono q fun ds xs a C' H' p s' h2 h3 dn h1 => p _ C' H' (s'.setOwn i h2 h3 dn (s.tr.free h1) fun j e hj ha => ?_)
  obtain ⟨b, _, _, _, e2, _, e4, _⟩ := s.own j e hj
  rw [ha] at e2
  cases e2
  rw [h1] at e4; cases e4
/-- x.append(e), x an own list -/
def mApp (rs : List Nat) (i : Nat) (me : ME) : MS := fun E env => (∃ ds0, env[i]? = some (some (true, .lst ds0))) ∧ me (view rs 0 env) fun d => ∃ ds, (aft rs d env)[i]? = some (some (true, .lst ds)) ∧ szOk (ds.length + 1) = true ∧ E.nx ((aft rs d env).set i (some (true, .lst (ds ++ [d]))))
theorem pds_app (rs : List Nat) {i : Nat} {o : Expr} {apos cpos : Pos} (ho : PE X o (tVar i)) (h : PD X e me)
    (h1 : attributeBase o "append" X.env (eval o X.env) = eval o X.env := by rfl)
    (h2 : ((((backTo cpos (starEach [e] X.env)).all fun x => !x.1) && ((backToKw cpos (keywordEach [] X.env)).all fun x => x.1.isSome) && decide (([e] : List Expr).length + ([] : List Keyword).length + (if ([] : List Keyword).isEmpty = true then 0 else 1) < 30)) = true) := by rfl)
    (h3 : (apos.endLine == cpos.line) = true := by rfl) (h4 : starEach [e] X.env = (false, eval e X.env) :: starEach [] X.env := by rfl) (h5 : ((backTo cpos (starEach [] X.env)).any fun x => x.1) = false := by rfl)
    (hs : swapsWith (.Call (.Attribute o "append" apos) [e] [] cpos) none pos.line X.env = pure false := by rfl) : PDS X (.Expr (.Call (.Attribute o "append" apos) [e] [] cpos) pos) (mApp rs i me) := by
  refine ⟨fun z C0 H0 Cb => ps_imp (ps_expr (pe_bm PySem.F.plainAttrs_list PySem.F.slot_list_append PySem.F.type_list_append mt_append ho (pa_cons h.run pa_nil h4) h1 h2 h3 h4 h5) hs) fun N σ H ⟨C, env, s, q⟩ => ?_,
    fun E E' env l ⟨q0, q⟩ => ⟨q0, h.mono _ _ _ (fun d ⟨ds, e1, e2, q⟩ => ⟨ds, e1, e2, l.nx _ q⟩) q⟩⟩
  obtain ⟨⟨ds0, h0⟩, q⟩ := q
  obtain ⟨a, _, xs, _, ea, _, eH, _⟩ := s.own i _ h0
  refine ⟨.ref a, ea, .inl ⟨rfl, xs, sq_of eH⟩, ?_⟩
  refine s.use rs h.mono q fun d v C' H' ⟨ds, e1, e2, p⟩ s' dn => ?_
  obtain ⟨b, ds', ys, f1, f2, f3, f4, f5, f6⟩ := s'.own i _ e1
  rw [ea] at f2
  cases f2
  cases f1
  have hl := f5.len
  refine ⟨a, ys, v, rfl, rfl, f4, sz_lt (by unfold szOk at e2 ⊢; rw [hl]; simp at e2 ⊢; omega), ?_⟩
  exact p σ C' _ (s'.write e1 ea (f5.app (Dns.one dn)))
end
end BV

/-! Loops and comprehensions, by value. -/
namespace BV
open PySem PySem.Spec PyProof.Rows L2 Evl

/-! ### what is walked -/
/-- the walk J gives the items, each new pair into the core -/
structure ItD (K : PySem.W.Frag) (z : Pz) (J : It) (items : List D) (C : Hp) : Prop where
  ex : ∃ (G : Hp → Prop) (Y : Nat → Hp → V → Hp → Prop), Walk J items.length G Y ∧ (∀ H', Ex C H' → G H') ∧
    ∀ i Ha x Hb, i < items.length → Y i Ha x Hb → ∀ C1, Ex C C1 → Ok z C1 Ha → ∃ d C2, items[i]? = some d ∧ Tr z C1 Ha C2 Hb ∧ Dn K C2 z.p d x
abbrev MI := Env → (List D → Prop) → Prop
def liftI (K : PySem.W.Frag) (m : MI) : TI := fun σ H R => ∃ z C env, Ok z C H ∧ EnvR K z C env σ ∧ m env fun items => ∀ J C' H', Tr z C H C' H' → ItD K z J items C' → R J H'
structure PDI (X : Cx) (tg it : Expr) (m : MI) : Prop where
  run : PI X tg it (liftI X.K m)
  mono : MonoA m
theorem pi_imp {X : Cx} {tg it : Expr} {t t' : TI} (h : PI X tg it t) (i : ∀ σ H R, t' σ H R → t σ H R) : PI X tg it t' := ⟨fun pins s σ H R I q => h.run pins s σ H R I (i σ H R q)⟩
section
variable {X : Cx} {tg l : Expr} {ml : ME} {z : Pz} {C : Hp} {K : PySem.W.Frag}
theorem itd_list {a : Addr} {xs : List V} {ds : List D} (h : SqL K C a xs) (dn : Dns K C z.p ds xs) : ItD K z (Itl K a) ds C :=
  ⟨_, _, by rw [← dn.len]; exact walk_list, fun H' e => ex_l e h, fun i Ha x Hb hi y C1 e o => by
    obtain ⟨rfl, y⟩ := y
    obtain ⟨d, h1, h2⟩ := dn.get' y
    exact ⟨d, C1, h1, Tr.refl o, h2.mono e⟩⟩
theorem itd_tup {a : Addr} {xs : List V} {ds : List D} (h : SqT K C a xs) (dn : Dns K C z.p ds xs) : ItD K z (Itt K a) ds C :=
  ⟨_, _, by rw [← dn.len]; exact walk_tup, fun H' e => ex_t e h, fun i Ha x Hb hi y C1 e o => by
    obtain ⟨rfl, y⟩ := y
    obtain ⟨d, h1, h2⟩ := dn.get' y
    exact ⟨d, C1, h1, Tr.refl o, h2.mono e⟩⟩
def chars (x : Str) : List D := x.cps.toList.map fun c => .str ⟨#[c]⟩
theorem itd_str {x : Str} : ItD K z (Its x) (chars x) C :=
  ⟨_, _, by show Walk _ (x.cps.toList.map _).length _ _; rw [List.length_map, Array.length_toList]; exact walk_str, fun H' e => trivial, fun i Ha v Hb hi y C1 e o => by
    obtain ⟨rfl, c, h1, rfl⟩ := y
    refine ⟨.str ⟨#[c]⟩, C1, ?_, Tr.refl o, dn_str.mpr rfl⟩
    unfold chars
    rw [List.getElem?_map, Array.getElem?_toList, h1]
    rfl⟩
def itemsD : D → Option (List D)
  | .lst ds => some ds
  | .tup ds => some ds
  | .str x => some (chars x)
  | _ => none
def mSeqI (ml : ME) : MI := fun env P => ml env fun d => ∃ items, itemsD d = some items ∧ P items
theorem pdi_seq (h : PD X l ml) : PDI X tg l (mSeqI ml) := by
  refine ⟨⟨fun pins s σ H R I q => ?_⟩, fun env Q Q' i q => h.mono env _ _ (fun d ⟨a, b, q⟩ => ⟨a, b, i _ q⟩) q⟩
  obtain ⟨z, C, env, o, r, q⟩ := q
  -- the three roads, by the value
  have key : lift X.K ml σ H fun v H1 => (∃ a, v = .ref a ∧ (∃ xs, SqL X.K H1 a xs) ∧ R (Itl X.K a) H1) ∨ (∃ a, v = .ref a ∧ (∃ xs, SqT X.K H1 a xs) ∧ R (Itt X.K a) H1) ∨ ∃ x, v = .str x ∧ R (Its x) H1 := by
    refine lift_use h.mono o r q fun d v C' H' ⟨items, e, p⟩ t dn => ?_
    cases d with
    | lst ds =>
      obtain ⟨a, xs, e1, e2, e3⟩ := dn_lst.mp dn
      cases e
      exact .inl ⟨a, e1, ⟨xs, ex_l t.ok.ex (sq_of e2)⟩, p _ C' H' t (itd_list (sq_of e2) e3)⟩
    | tup ds =>
      obtain ⟨a, xs, e1, e2, e3⟩ := dn_tup.mp dn
      cases e
      exact .inr (.inl ⟨a, e1, ⟨xs, ex_t t.ok.ex e2⟩, p _ C' H' t (itd_tup e2 e3)⟩)
    | str x =>
      cases e
      exact .inr (.inr ⟨x, dn_str.mp dn, p _ C' H' t itd_str⟩)
    | _ => cases e
  refine thn (h.run.run pins s σ H _ I key) fun v s1 ⟨x, H1, I1, r1, q1⟩ => ?_
  have self : PE X l (fun σ' H' Q' => True ∧ Q' x H1) → True := fun _ => trivial
  rcases q1 with ⟨a, e, ⟨xs, hq⟩, q⟩ | ⟨a, e, ⟨xs, hq⟩, q⟩ | ⟨y, e, q⟩
  · subst e
    cases r1
    obtain ⟨its, rv, p, hz⟩ := I1.list hq
    refine wpAny_pyIter_list p.isList ?_
    refine ⟨s1.heap.objs.size, [s1.heap.objs.size], _, _, H1, rfl, I1.kept (t' := s1.toks) fun b o e => Heap.get?_push_of_some _ e, turn_list a _, ⟨_, Heap.get?_push_size _ rfl, rfl, rfl⟩, fun b hb => ?_, q⟩
    have e : b = s1.heap.objs.size := by simpa using hb
    subst e
    exact I1.fpOk (Nat.le_refl _) (I1.hok.fresh (Nat.le_refl _))
  · subst e
    cases r1
    obtain ⟨its, rv, p, hz⟩ := I1.tuple hq
    refine wpAny_pyIter_tuple (show s1.heap.IsTuple a its.toArray from p) ?_
    refine ⟨s1.heap.objs.size, [s1.heap.objs.size], _, _, H1, rfl, I1.kept (t' := s1.toks) fun b o e => Heap.get?_push_of_some _ e, turn_tuple a _, ⟨_, Heap.get?_push_size _ rfl, rfl, rfl⟩, fun b hb => ?_, q⟩
    have e : b = s1.heap.objs.size := by simpa using hb
    subst e
    exact I1.fpOk (Nat.le_refl _) (I1.hok.fresh (Nat.le_refl _))
  · subst e
    obtain ⟨t, rfl⟩ := r1
    cases ha : y.cps.all (· < 128)
    · exact wpAny_pyIter_wide ha (pi_one (tk := s1.toks) I1 _ (turn_str _ y t "str_iterator" (.inr rfl)) ⟨_, Heap.get?_push_size _ rfl, rfl, rfl⟩ q)
    · exact wpAny_pyIter_ascii ha (pi_one (tk := s1.toks) I1 _ (turn_str _ y t "str_ascii_iterator" (.inl rfl)) ⟨_, Heap.get?_push_size _ rfl, rfl, rfl⟩ q)

/-- range(n), range(a, b): ints, whatever the core -/
structure PDR (X : Cx) (tg it : Expr) (m : MI) : Prop where
  run : PI X tg it (fun σ H R => ∃ z C env, Ok z C H ∧ EnvR X.K z C env σ ∧ m env fun items => ∀ J C' H', Tr z C H C' H' → (∀ C2, ItD X.K z J items C2) → R J H')
  mono : MonoA m
theorem itd_rng {lo : Int} {n : Nat} : ItD K z (Itr lo n) ((List.range n).map fun i => .int (lo + (i : Nat))) C :=
  ⟨_, _, by rw [List.length_map, List.length_range]; exact walk_range, fun H' e => trivial, fun i Ha v Hb hi y C1 e o => by
    obtain ⟨rfl, rfl⟩ := y
    rw [List.length_map, List.length_range] at hi
    refine ⟨_, C1, ?_, Tr.refl o, dn_int.mpr rfl⟩
    rw [List.getElem?_map, List.getElem?_range hi]
    rfl⟩
def rngL (lo : Int) (n : Nat) : List D := (List.range n).map fun i => .int (lo + (i : Nat))
def mRng1 (m : MA) : MI := fun env P => m env fun ds => ∃ j, ds = [.int j] ∧ -4000000 ≤ j ∧ j ≤ 4000000 ∧ P (rngL 0 j.toNat)
def mRng2 (m : MA) : MI := fun env P => m env fun ds => ∃ i j, ds = [.int i, .int j] ∧ -4000000 ≤ i ∧ i ≤ 4000000 ∧ -4000000 ≤ j ∧ j ≤ 4000000 ∧ P (rngL i (j - i).toNat)
theorem dns1 {pu : Addr} {d : D} {xs : List V} (h : Dns K C pu [d] xs) : ∃ v, xs = [v] ∧ Dn K C pu d v := by
  obtain ⟨v, r, e1, e2, e3⟩ := dns_cons.mp h
  rw [dns_nil.mp e3] at e1
  exact ⟨v, e1, e2⟩
theorem dns2 {pu : Addr} {d e : D} {xs : List V} (h : Dns K C pu [d, e] xs) : ∃ v w, xs = [v, w] ∧ Dn K C pu d v ∧ Dn K C pu e w := by
  obtain ⟨v, r, e1, e2, e3⟩ := dns_cons.mp h
  obtain ⟨w, e4, e5⟩ := dns1 e3
  rw [e4] at e1
  exact ⟨v, w, e1, e2, e5⟩
theorem pdr_1 {a : Expr} {m : MA} {p pos : Pos} (hg : Gl X "range") (hm : X.mg "range" = none) (h : PDA X [a] m) (hs : starEach [a] X.env = [(false, eval a X.env)] := by rfl) : PDR X tg (.Call (.Name "range" p) [a] [] pos) (mRng1 m) := by
  refine ⟨pi_imp (pi_range1 hg hm h.run hs) fun σ H R q => ?_, fun env Q Q' i q => h.mono env _ _ (fun d ⟨a, b, c, e, q⟩ => ⟨a, b, c, e, i _ q⟩) q⟩
  obtain ⟨z, C, env, o, r, q⟩ := q
  refine liftA_use h.mono o r q fun ds vs C' H' ⟨j, e, h1, h2, p⟩ t dn => ?_
  subst e
  obtain ⟨v, e1, e2⟩ := dns1 dn
  rw [dn_int.mp e2] at e1
  exact ⟨j, e1, by omega, by omega, p _ C' H' t fun C2 => itd_rng⟩
theorem pdr_2 {a b : Expr} {m : MA} {p pos : Pos} (hg : Gl X "range") (hm : X.mg "range" = none) (h : PDA X [a, b] m) (hs : starEach [a, b] X.env = [(false, eval a X.env), (false, eval b X.env)] := by rfl) (hs2 : starEach [b] X.env = [(false, eval b X.env)] := by rfl) : PDR X tg (.Call (.Name "range" p) [a, b] [] pos) (mRng2 m) := by
  refine ⟨pi_imp (pi_range2 hg hm h.run hs hs2) fun σ H R q => ?_, fun env Q Q' i q => h.mono env _ _ (fun d ⟨a, b, c, e, f, g, k, q⟩ => ⟨a, b, c, e, f, g, k, i _ q⟩) q⟩
  obtain ⟨z, C, env, o, r, q⟩ := q
  refine liftA_use h.mono o r q fun ds vs C' H' ⟨i, j, e, h1, h2, h3, h4, p⟩ t dn => ?_
  subst e
  obtain ⟨v, w, e1, e2, e3⟩ := dns2 dn
  rw [dn_int.mp e2, dn_int.mp e3] at e1
  exact ⟨i, j, e1, ⟨by omega, by omega, by omega, by omega⟩, p _ C' H' t fun C2 => itd_rng⟩
/-- enumerate(a list) -/
def enumL (ds : List D) : List D := ds.mapIdx fun i d => .tup [.int (i : Nat), d]
def mEnum (m : MA) : MI := fun env P => m env fun ds => ∃ items, ds = [.lst items] ∧ P (enumL items)
theorem tup_new {C1 Ha : Hp} {T : Addr} {x y : V} {d e : D} (o : Ok z C1 Ha) (hT : Ha T = none) (h1 : Dn K C1 z.p d x) (h2 : Dn K C1 z.p e y) : Tr z C1 Ha (upd C1 T (.tup [x, y])) (upd Ha T (.tup [x, y])) ∧ Dn K (upd C1 T (.tup [x, y])) z.p (.tup [d, e]) (.ref T) := by
  have hc : C1 T = none := fresh_back o.ex hT
  exact ⟨Tr.put o hT, dn_new_tup (dns_cons.mpr ⟨x, [y], rfl, h1, Dns.one h2⟩) hc⟩
theorem itd_enum {a : Addr} {xs : List V} {ds : List D} (h : SqL K C a xs) (dn : Dns K C z.p ds xs) : ItD K z (Ite K a) (enumL ds) C :=
  ⟨_, _, by show Walk _ (ds.mapIdx _).length _ _; rw [List.length_mapIdx, ← dn.len]; exact walk_enum, fun H' e => ex_l e h, fun i Ha v Hb hi y C1 e o => by
    obtain ⟨T, x, y, rfl, hT, rfl, h1, h2⟩ := y
    obtain ⟨d, h3, h4⟩ := dn.get' h2
    cases h1
    obtain ⟨t, q⟩ := tup_new (d := .int (i : Nat)) o hT (dn_int.mpr rfl) (h4.mono e)
    refine ⟨_, _, ?_, t, q⟩
    unfold enumL
    rw [List.getElem?_mapIdx, h3]
    rfl⟩
theorem pdi_enum {e : Expr} {m : MA} {p pos tpos : Pos} {elts : List Expr} {kk : Nat} (hg : Gl X "enumerate") (hm : X.mg "enumerate" = none) (h : PDA X [e] m) (hs : starEach [e] X.env = [(false, eval e X.env)] := by rfl) :
    PDI X (.Tuple elts kk tpos) (.Call (.Name "enumerate" p) [e] [] pos) (mEnum m) := by
  refine ⟨pi_imp (pi_enum hg hm h.run hs) fun σ H R q => ?_, fun env Q Q' i q => h.mono env _ _ (fun d ⟨a, b, q⟩ => ⟨a, b, i _ q⟩) q⟩
  obtain ⟨z, C, env, o, r, q⟩ := q
  refine liftA_use h.mono o r q fun ds vs C' H' ⟨items, e, p⟩ t dn => ?_
  subst e
  obtain ⟨v, e1, e2⟩ := dns1 dn
  obtain ⟨a, xs, e3, e4, e5⟩ := dn_lst.mp e2
  rw [e3] at e1
  exact ⟨a, xs, e1, ex_l t.ok.ex (sq_of e4), p _ C' H' t (itd_enum (sq_of e4) e5)⟩
/-- zip of two lists -/
def zipL : List D → List D → List D
  | a :: as, b :: bs => .tup [a, b] :: zipL as bs
  | _, _ => []
theorem zipL_len : ∀ as bs : List D, (zipL as bs).length = min as.length bs.length
  | [], bs => by simp [zipL]
  | a :: as, [] => by simp [zipL]
  | a :: as, b :: bs => by simp only [zipL, List.length_cons, zipL_len as bs]; omega
theorem zipL_get : ∀ (as bs : List D) (i : Nat) (a b : D), as[i]? = some a → bs[i]? = some b → (zipL as bs)[i]? = some (.tup [a, b])
  | [], bs, i, a, b, h, _ => by simp at h
  | x :: as, [], i, a, b, _, h => by simp at h
  | x :: as, y :: bs, 0, a, b, h1, h2 => by simp at h1 h2; simp [zipL, h1, h2]
  | x :: as, y :: bs, i + 1, a, b, h1, h2 => by
    have := zipL_get as bs i a b (by simpa using h1) (by simpa using h2)
    simpa [zipL] using this
def mZip (m : MA) : MI := fun env P => m env fun ds => ∃ as bs, ds = [.lst as, .lst bs] ∧ P (zipL as bs)
theorem itd_zip {a b : Addr} {xs ys : List V} {ds es : List D} (h : SqL K C a xs) (h' : SqL K C b ys) (dn : Dns K C z.p ds xs) (dn' : Dns K C z.p es ys) : ItD K z (Itz K a b) (zipL ds es) C :=
  ⟨_, _, walk_zip (by rw [zipL_len, dn.len, dn'.len]), fun H' e => ⟨ex_l e h, ex_l e h'⟩, fun i Ha v Hb hi y C1 e o => by
    obtain ⟨T, x, y, rfl, hT, rfl, h1, h2⟩ := y
    obtain ⟨d, h3, h4⟩ := dn.get' h1
    obtain ⟨d', h3', h4'⟩ := dn'.get' h2
    obtain ⟨t, q⟩ := tup_new o hT (h4.mono e) (h4'.mono e)
    exact ⟨_, _, zipL_get _ _ _ _ _ h3 h3', t, q⟩⟩
theorem pdi_zip {e e2 : Expr} {m : MA} {p pos tpos : Pos} {elts : List Expr} {kk : Nat} (hg : Gl X "zip") (hm : X.mg "zip" = none) (h : PDA X [e, e2] m)
    (hs : starEach [e, e2] X.env = (false, eval e X.env) :: starEach [e2] X.env := by rfl) (hpl : (backTo pos (starEach [e2] X.env)).any (·.1) = false := by rfl) : PDI X (.Tuple elts kk tpos) (.Call (.Name "zip" p) [e, e2] [] pos) (mZip m) := by
  refine ⟨pi_imp (pi_zip hg hm h.run hs hpl) fun σ H R q => ?_, fun env Q Q' i q => h.mono env _ _ (fun d ⟨a, b, c, q⟩ => ⟨a, b, c, i _ q⟩) q⟩
  obtain ⟨z, C, env, o, r, q⟩ := q
  refine liftA_use h.mono o r q fun ds vs C' H' ⟨as, bs, e, p⟩ t dn => ?_
  subst e
  obtain ⟨v, w, e1, e2, e3⟩ := dns2 dn
  obtain ⟨a, xs, f1, f2, f3⟩ := dn_lst.mp e2
  obtain ⟨b, ys, g1, g2, g3⟩ := dn_lst.mp e3
  rw [f1, g1] at e1
  exact ⟨a, b, xs, ys, e1, ex_l t.ok.ex (sq_of f2), ex_l t.ok.ex (sq_of g2), p _ C' H' t (itd_zip (sq_of f2) (sq_of g2) f3 g3)⟩
end

/-! ### targets -/
inductive Tgt where
  | nm (i : Nat) | tp (is : List Nat)
def gNs : List Nat → TGs
  | [] => gNil
  | i :: r => gCons (gName i) (gNs r)
def Tgt.g (K : PySem.W.Frag) : Tgt → TG
  | .nm i => gName i
  | .tp is => gTup K is.length (gNs is)
def Tgt.sl : Tgt → List Nat
  | .nm i => [i]
  | .tp is => is
def setsE {α : Type} (f : D → α) : List Nat → List D → List (Option α) → Option (List (Option α))
  | [], [], env => some env
  | i :: is, d :: ds, env => setsE f is ds (env.set i (some (f d)))
  | _, _, _ => none
def Tgt.put {α : Type} (f : D → α) : Tgt → D → List (Option α) → Option (List (Option α))
  | .nm i, d, env => some (env.set i (some (f d)))
  | .tp is, .tup ds, env => setsE f is ds env
  | .tp _, _, _ => none
def shd (d : D) : Bool × D := (false, d)
def idD (d : D) : D := d
theorem SR.sets {K : PySem.W.Frag} {z : Pz} {C0 H0 Cb C H : Hp} {Q : L2.St → Hp → Prop} : ∀ {is : List Nat} {ds : List D} {env env' : SEnv} {σ : L2.St} {xs : List V}, SR K z C0 H0 Cb C env σ H → Dns K C z.p ds xs → setsE shd is ds env = some env' →
    (∀ σ', SR K z C0 H0 Cb C env' σ' H → Q σ' H) → gNs is xs σ H Q
  | [], [], env, env', σ, xs, s, dn, e, k => by
    rw [dns_nil.mp dn]
    cases e
    exact ⟨rfl, k σ s⟩
  | i :: is, d :: ds, env, env', σ, xs, s, dn, e, k => by
    obtain ⟨v, r, e1, e2, e3⟩ := dns_cons.mp dn
    exact ⟨v, r, e1, SR.sets (s.set i e2) e3 e k⟩
  | [], d :: ds, env, env', σ, xs, s, dn, e, k => by cases e
  | i :: is, [], env, env', σ, xs, s, dn, e, k => by cases e
theorem SR.put {K : PySem.W.Frag} {z : Pz} {C0 H0 Cb C H : Hp} {env env' : SEnv} {σ : L2.St} {Q : L2.St → Hp → Prop} (s : SR K z C0 H0 Cb C env σ H) {t : Tgt} {d : D} {v : V} (dn : Dn K C z.p d v) (e : t.put shd d env = some env')
    (k : ∀ σ', SR K z C0 H0 Cb C env' σ' H → Q σ' H) : t.g K v σ H Q := by
  cases t with
  | nm i =>
    cases e
    exact k _ (s.set i dn)
  | tp is =>
    cases d with
    | tup ds =>
      obtain ⟨a, xs, e1, e2, e3⟩ := dn_tup.mp dn
      refine ⟨a, xs, e1, ex_t s.tr.ok.ex e2, ?_, SR.sets s e3 e k⟩
      rw [e3.len]
      have : ∀ (is : List Nat) (ds : List D) (env env' : SEnv), setsE shd is ds env = some env' → ds.length = is.length := by
        intro is
        induction is with
        | nil => intro ds env env' e; cases ds with
          | nil => rfl
          | cons => cases e
        | cons i is ih => intro ds env env' e; cases ds with
          | nil => cases e
          | cons d ds => simp only [List.length_cons]; rw [ih ds _ env' e]
      exact this is ds env env' e
    | _ => cases e
theorem EnvR.sets {K : PySem.W.Frag} {z : Pz} {C H : Hp} {vs : List Nat} {σ0 : L2.St} {Q : L2.St → Hp → Prop} : ∀ {is : List Nat} {ds : List D} {env env' : Env} {σ : L2.St} {xs : List V}, EnvR K z C env σ → L2.wipe σ vs = σ0 → (∀ i ∈ is, i ∈ vs) → Dns K C z.p ds xs → setsE idD is ds env = some env' →
    (∀ (σ : L2.St) (i : Nat) (x : V), i ∈ vs → L2.wipe (σ.set i (some x)) vs = L2.wipe σ vs) → (∀ σ', EnvR K z C env' σ' → L2.wipe σ' vs = σ0 → Q σ' H) → gNs is xs σ H Q
  | [], [], env, env', σ, xs, s, w, hs, dn, e, wi, k => by
    rw [dns_nil.mp dn]
    cases e
    exact ⟨rfl, k σ s w⟩
  | i :: is, d :: ds, env, env', σ, xs, s, w, hs, dn, e, wi, k => by
    obtain ⟨v, r, e1, e2, e3⟩ := dns_cons.mp dn
    exact ⟨v, r, e1, EnvR.sets (s.set i e2) (by rw [wi σ i v (hs i (by simp))]; exact w) (fun j hj => hs j (by simp [hj])) e3 e wi k⟩
  | [], d :: ds, env, env', σ, xs, s, w, hs, dn, e, wi, k => by cases e
  | i :: is, [], env, env', σ, xs, s, w, hs, dn, e, wi, k => by cases e
theorem wipe_set {σ : L2.St} {x : V} : ∀ {vs : List Nat} {i : Nat}, i ∈ vs → L2.wipe (σ.set i (some x)) vs = L2.wipe σ vs
  | v :: vs, i, h => by
    show (L2.wipe (σ.set i (some x)) vs).set v none = (L2.wipe σ vs).set v none
    by_cases hi : i ∈ vs
    · rw [wipe_set hi]
    · have hv : i = v := by
        rcases List.mem_cons.mp h with e | e
        · exact e
        · exact absurd e hi
      subst hv
      have : ∀ ws : List Nat, i ∉ ws → L2.wipe (σ.set i (some x)) ws = (L2.wipe σ ws).set i (some x) := by
        intro ws
        induction ws with
        | nil => intro _; rfl
        | cons w ws ih =>
          intro hw
          show (L2.wipe (σ.set i (some x)) ws).set w none = ((L2.wipe σ ws).set w none).set i (some x)
          rw [ih fun q => hw (by simp [q])]
          exact List.set_comm _ _ (fun q => hw (by simp [q]))
      rw [this vs hi, List.set_set]
theorem wipe_wipe {σ : L2.St} : ∀ vs : List Nat, L2.wipe (L2.wipe σ vs) vs = L2.wipe σ vs := by
  have h1 : ∀ (ws : List Nat) (σ : L2.St) (v : Nat), v ∈ ws → (L2.wipe σ ws).set v none = L2.wipe σ ws := by
    intro ws
    induction ws with
    | nil => intro σ v h; simp at h
    | cons w ws ih =>
      intro σ v h
      show ((L2.wipe σ ws).set w none).set v none = (L2.wipe σ ws).set w none
      by_cases e : v = w
      · subst e; rw [List.set_set]
      · have hv : v ∈ ws := by
          rcases List.mem_cons.mp h with q | q
          · exact absurd q e
          · exact q
        rw [List.set_comm _ _ (Ne.symm e), ih σ v hv]
  have h2 : ∀ (us ws : List Nat) (σ : L2.St), (∀ u ∈ us, u ∈ ws) → L2.wipe (L2.wipe σ ws) us = L2.wipe σ ws := by
    intro us
    induction us with
    | nil => intro ws σ _; rfl
    | cons u us ih =>
      intro ws σ h
      show (L2.wipe (L2.wipe σ ws) us).set u none = L2.wipe σ ws
      rw [ih ws σ fun x hx => h x (by simp [hx]), h1 ws σ u (h u (by simp))]
  exact fun vs => h2 vs vs σ fun _ h => h

/-! ### for -/
def forGo (t : Tgt) (body : MS) (E : EndD) : List D → SEnv → Prop
  | [], env => E.nx env
  | x :: xs, env => ∃ env1, t.put shd x env = some env1 ∧ body { E with nx := forGo t body E xs, ct := forGo t body E xs, bk := E.nx } env1
def mFor (rs : List Nat) (mi : MI) (t : Tgt) (body : MS) : MS := fun E env => mi (view rs 0 env) fun items => forGo t body E items (frz rs 0 env)
def mForR (rs : List Nat) (mi : MI) (t : Tgt) (body : MS) : MS := fun E env => mi (view rs 0 env) fun items => forGo t body E items env
theorem forGo_mono {t : Tgt} {body : MS} (hb : MonoS body) {E E' : EndD} (l : EndD.Le E E') : ∀ (xs : List D) (env : SEnv), forGo t body E xs env → forGo t body E' xs env
  | [], env, h => l.nx _ h
  | x :: xs, env, ⟨env1, e, h⟩ => ⟨env1, e, hb { E with nx := forGo t body E xs, ct := forGo t body E xs, bk := E.nx } _ _ ⟨fun e h => forGo_mono hb l xs e h, l.rt, l.nx, fun e h => forGo_mono hb l xs e h⟩ h⟩
section
variable {X : Cx} {tg iter : Expr} {body : List Stmt} {mi : MI} {t : Tgt} {mb : MS} {pos : Pos}
/-- over any base that the state bears -/
def liftX (K : PySem.W.Frag) (z : Pz) (C0 H0 : Hp) (m : MS) : TS := fun N σ H => ∃ Cb, liftS K z C0 H0 Cb m N σ H
theorem PDSs.runX (hb : PDSs X body mb) (z : Pz) (C0 H0 : Hp) : PSs X body (liftX X.K z C0 H0 mb) := ⟨fun pins s σ H N I ⟨Cb, q⟩ => (hb.run z C0 H0 Cb).run pins s σ H N I q⟩
theorem for_core {K : PySem.W.Frag} {z : Pz} {C0 H0 Cb C H : Hp} {env : SEnv} {σ : L2.St} {J : It} {items : List D} {N : Ends} (hK : K = X.K) (s : SR K z C0 H0 Cb C env σ H) (it : ItD K z J items C) (hb : PDSs X body mb)
    (q : forGo t mb (endsOf K z C0 H0 Cb N) items env) :
    ∃ W : Nat → Nat → L2.St → Hp → Prop, (∃ m, W 0 m σ H) ∧ ∀ i m σ H, W i m σ H →
      (J.stop i H ∧ N.nx σ H) ∨ (J.go i H ∧ ∃ M : L2.St → Hp → Prop, (∀ σ' H', M σ' H' → ∃ m', m' < m ∧ W (i + 1) m' σ' H') ∧ ∀ x H', J.yld i H x H' → t.g K x σ H' fun σ2 H2 => liftX K z C0 H0 mb { N with nx := M, ct := M, bk := N.nx } σ2 H2) := by
  obtain ⟨G, Y, w, hG, hY⟩ := it.ex
  refine for_it w (g := t.g K) (tb := liftX K z C0 H0 mb) (D := N) (fun i σ Hc => ∃ C' env', SR K z C0 H0 C C' env' σ Hc ∧ forGo t mb (endsOf K z C0 H0 Cb N) (items.drop i) env') ⟨C, env, s.cb', by simpa using q⟩ (fun i σ Hc _ ⟨C', env', s', _⟩ => hG Hc (s'.cb.trans s'.tr.ok.ex)) (fun i x σ Hc Hd hi ⟨C', env', s', q'⟩ y => ?_) fun σ Hc ⟨C', env', s', q'⟩ => ?_
  · obtain ⟨d, C2, h1, h2, h3⟩ := hY i Hc x Hd hi y C' s'.cb s'.tr.ok
    have hd : items.drop i = d :: items.drop (i + 1) := by
      rw [List.drop_eq_getElem_cons hi]
      congr 1
      rw [List.getElem?_eq_getElem hi] at h1
      exact Option.some.inj h1
    rw [hd] at q'
    obtain ⟨env1, e1, q1⟩ := q'
    refine (s'.next h2).put h3 e1 fun σ' s2 => ⟨C, C2, env1, s2, hb.mono { endsOf K z C0 H0 Cb N with nx := forGo t mb (endsOf K z C0 H0 Cb N) (items.drop (i + 1)), ct := forGo t mb (endsOf K z C0 H0 Cb N) (items.drop (i + 1)), bk := (endsOf K z C0 H0 Cb N).nx } _ env1
      ⟨fun e q σ' C' H' sx => ⟨C', e, sx, q⟩, fun d q => q, fun e q σ' C' H' sx => q σ' C' H' (sx.weak s.cb), fun e q σ' C' H' sx => ⟨C', e, sx, q⟩⟩ q1⟩
  · rw [List.drop_of_length_le (Nat.le_refl _)] at q'
    exact q' σ C' Hc (s'.weak s.cb)
theorem pds_for (rs : List Nat) (hp : PassesOwn (model X.prog X.w) X.A X.env X.xe) (hc : X.calm = true) (hi : PDI X tg iter mi) (hg : PG X tg (t.g X.K)) (hb : PDSs X body mb) (hs : ∀ x, foldedSetIterable iter X.env x = pure x := by intro _; rfl) :
    PDS X (.For tg iter body [] pos) (mFor rs mi t mb) := by
  refine ⟨fun z C0 H0 Cb => ?_, fun E E' env l q => hi.mono _ _ _ (fun items q => forGo_mono hb.mono l items _ q) q⟩
  refine ps_imp (ps_for hp hc hi.run hg (hb.runX z C0 H0) hs) fun N σ H ⟨C, env, s, q⟩ => ?_
  refine ⟨z, _, _, s.okP rs, s.envP rs, hi.mono _ _ _ (fun items q J C' H' t it => ?_) q⟩
  obtain ⟨W, w1, w2⟩ := for_core rfl (s.frozen rs t) it hb q
  exact ⟨W, w1, w2⟩
/-- over a range: the own lists stay so -/
theorem pds_forR (rs : List Nat) (hp : PassesOwn (model X.prog X.w) X.A X.env X.xe) (hc : X.calm = true) (hi : PDR X tg iter mi) (hg : PG X tg (t.g X.K)) (hb : PDSs X body mb) (hs : ∀ x, foldedSetIterable iter X.env x = pure x := by intro _; rfl) :
    PDS X (.For tg iter body [] pos) (mForR rs mi t mb) := by
  refine ⟨fun z C0 H0 Cb => ?_, fun E E' env l q => hi.mono _ _ _ (fun items q => forGo_mono hb.mono l items _ q) q⟩
  refine ps_imp (ps_for hp hc hi.run hg (hb.runX z C0 H0) hs) fun N σ H ⟨C, env, s, q⟩ => ?_
  refine ⟨z, _, _, s.okP rs, s.envP rs, hi.mono _ _ _ (fun items q J C' H' t it => ?_) q⟩
  exact for_core rfl (s.thaw rs t) (it _) hb q
end

/-! ### comprehensions -/
structure PDTs (X : Cx) (ifs : List Expr) (m : MT) : Prop where
  run : PTs X ifs (liftT X.K m)
  mono : MonoT m
def mYes : MT := fun _ Q => Q true
theorem pts_imp {X : Cx} {ifs : List Expr} {t t' : TT} (h : PTs X ifs t) (i : ∀ σ H Q, t' σ H Q → t σ H Q) : PTs X ifs t' := ⟨fun pins s σ H Q I q => h.run pins s σ H Q I (i σ H Q q)⟩
theorem pdts_nil {X : Cx} : PDTs X [] mYes := ⟨pts_imp pts_nil fun σ H Q ⟨z, C, env, o, r, q⟩ => q C H (Tr.refl o), fun env Q Q' i q => i _ q⟩
theorem pdts_one {X : Cx} {c : Expr} {m : MT} (h : PDT X c m) : PDTs X [c] m := ⟨pts_one h.run, h.mono⟩
def lcGo (t : Tgt) (mt : MT) (me : ME) (env : Env) : List D → List D → (List D → Prop) → Prop
  | [], acc, Q => Q acc
  | x :: xs, acc, Q => ∃ env1, t.put idD x env = some env1 ∧ mt env1 fun b => if b = true then me env1 fun y => lcGo t mt me env xs (acc ++ [y]) Q else lcGo t mt me env xs acc Q
def moLc (vs : List Nat) (mi : MI) (t : Tgt) (mt : MT) (me : ME) : MA := fun env Q => mi env fun items => szOk (items.length + 1) = true ∧ lcGo t mt me (wipeE env vs) items [] Q
theorem lcGo_mono {t : Tgt} {mt : MT} {me : ME} (h1 : MonoT mt) (h2 : Mono me) {env : Env} {Q Q' : List D → Prop} (i : ∀ ds, Q ds → Q' ds) : ∀ (xs acc : List D), lcGo t mt me env xs acc Q → lcGo t mt me env xs acc Q'
  | [], acc, h => i _ h
  | x :: xs, acc, ⟨env1, e, h⟩ => ⟨env1, e, h1 _ _ _ (fun b h => by
      cases b with
      | true => exact h2 _ _ _ (fun y h => lcGo_mono h1 h2 i xs _ h) h
      | false => exact lcGo_mono h1 h2 i xs _ h) h⟩
theorem Tr.mut {z : Pz} {C H C' H' : Hp} {p : Addr} {u : HO} (o : Ok z C H) (t : Tr z C H C' H') (h : H p = none) (hc : C' p = none) : Tr z C H C' (upd H' p u) := by
  have np : z.p ≠ p := fun e => o.pur.pn (by rw [e]; exact h)
  have ng : z.g ≠ p := fun e => o.pur.gn (by rw [e]; exact h)
  have nc : z.c ≠ p := fun e => o.pur.cn (by rw [e]; exact h)
  obtain ⟨gs, cs, s, k, g1, g2, g3, g4⟩ := t.ok.pur.at_
  refine ⟨t.cc, ⟨fun a x e => ?_, ⟨gs, cs, s, k, by rw [upd_ne np]; exact g1, by rw [upd_ne ng]; exact g2, by rw [upd_ne nc]; exact g3, g4⟩, t.ok.pur.cp, t.ok.pur.cg, t.ok.pur.cc, t.ok.pur.pg, t.ok.pur.pc, t.ok.pur.gc⟩, fun a x e n1 n2 => ?_, t.new⟩
  · have : a ≠ p := fun q => by rw [q, hc] at e; cases e
    rw [upd_ne this]; exact t.ok.ex a x e
  · have : a ≠ p := fun q => by rw [q, h] at e; cases e
    rw [upd_ne this]; exact t.keep a x e n1 n2
theorem EnvR.put {K : PySem.W.Frag} {z : Pz} {C H : Hp} {env env' : Env} {σ : L2.St} {vs : List Nat} {Q : L2.St → Hp → Prop} (s : EnvR K z C env (L2.wipe σ vs)) (e0 : Ex C H) {t : Tgt} {d : D} {v : V} (ht : ∀ i ∈ t.sl, i ∈ vs) (dn : Dn K C z.p d v) (e : t.put idD d env = some env')
    (k : ∀ σ', EnvR K z C env' σ' → L2.wipe σ' vs = L2.wipe σ vs → Q σ' H) : t.g K v (L2.wipe σ vs) H Q := by
  cases t with
  | nm i =>
    cases e
    exact k _ (s.set i dn) (by rw [wipe_set (ht i (by simp [Tgt.sl])), wipe_wipe])
  | tp is =>
    cases d with
    | tup ds =>
      obtain ⟨a, xs, e1, e2, e3⟩ := dn_tup.mp dn
      refine ⟨a, xs, e1, ex_t e0 e2, ?_, EnvR.sets s (wipe_wipe vs) (fun i hi => ht i hi) e3 e (fun σ i x hi => wipe_set hi) k⟩
      rw [e3.len]
      have : ∀ (is : List Nat) (ds : List D) (env env' : Env), setsE idD is ds env = some env' → ds.length = is.length := by
        intro is
        induction is with
        | nil => intro ds env env' e; cases ds with
          | nil => rfl
          | cons => cases e
        | cons i is ih => intro ds env env' e; cases ds with
          | nil => cases e
          | cons d ds => simp only [List.length_cons]; rw [ih ds _ env' e]
      exact this is ds env env' e
    | _ => cases e
section
variable {X : Cx} {elt tg iter : Expr} {ifs : List Expr} {scope : Scope} {own : List (Str × Nat)} {pos : Pos} {mi : MI} {t : Tgt} {mt : MT} {me : ME}
theorem lc_core {K : PySem.W.Frag} {z : Pz} {C H : Hp} {env : Env} {σ : L2.St} {J : It} {items : List D} {vs : List Nat} {P : List D → Prop} {Q : VK} (o : Ok z C H) (r : EnvR K z C env σ) (it : ItD K z J items C) (h1 : MonoT mt) (h2 : Mono me) (ht : ∀ i ∈ t.sl, i ∈ vs)
    (hz : szOk (items.length + 1) = true) (q : lcGo t mt me (wipeE env vs) items [] P) (k : ∀ ds xs a C' H', P ds → Tr z C H C' H' → H a = none → C' a = none → H' a = some (.lst xs) → Dns K C' z.p ds xs → Q (.ref a) H') :
    ∀ N, H N = none → ∃ W : Nat → Nat → Hp → Prop, (∃ m, W 0 m (upd H N (.lst []))) ∧ ∀ i m H, W i m H →
      (J.stop i H ∧ Q (.ref N) H) ∨ (J.go i H ∧ ∃ Nx : Hp → Prop, (∀ H', Nx H' → ∃ m', m' < m ∧ W (i + 1) m' H') ∧ ∀ x H', J.yld i H x H' → t.g K x (L2.wipe σ vs) H' fun σ2 H2 => L2.wipe σ2 vs = L2.wipe σ vs ∧ liftT K mt σ2 H2 fun b H3 =>
        if b = true then lift K me σ2 H3 fun y H4 => ∃ acc, H4 N = some (.lst acc) ∧ acc.length < sizeLine ∧ Nx (upd H4 N (.lst (acc ++ [y]))) else Nx H3) := by
  intro N hN
  obtain ⟨G, Y, w, hG, hY⟩ := it.ex
  have hCN : C N = none := fresh_back o.ex hN
  have nNp : N ≠ z.p := fun e => o.pur.pn (by rw [← e]; exact hN)
  have nNg : N ≠ z.g := fun e => o.pur.gn (by rw [← e]; exact hN)
  refine lc_it w (g := t.g K) (tt := liftT K mt) (te := lift K me) (vs := vs) (σ := σ) (Qd := fun H => Q (.ref N) H)
    (fun i Hc => ∃ C' acc xs, Tr z C H C' Hc ∧ C' N = none ∧ Hc N = some (.lst xs) ∧ Dns K C' z.p acc xs ∧ acc.length ≤ i ∧ lcGo t mt me (wipeE env vs) (items.drop i) acc P)
    ⟨C, [], [], Tr.ext o (Ex.new hN), hCN, upd_same, dns_nil.mpr rfl, Nat.le_refl _, by simpa using q⟩ (fun i Hc _ ⟨C', acc, xs, t1, _⟩ => hG Hc (t1.cc.trans t1.ok.ex)) (fun i x Hc Hd hi ⟨C', acc, xs, t1, c1, c2, c3, c4, q'⟩ y => ?_) fun Hc ⟨C', acc, xs, t1, c1, c2, c3, c4, q'⟩ => ?_
  · obtain ⟨d, C2, g1, g2, g3⟩ := hY i Hc x Hd hi y C' t1.cc t1.ok
    have hd : items.drop i = d :: items.drop (i + 1) := by
      rw [List.drop_eq_getElem_cons hi]
      congr 1
      rw [List.getElem?_eq_getElem hi] at g1
      exact Option.some.inj g1
    rw [hd] at q'
    obtain ⟨env1, e1, q1⟩ := q'
    have t2 := t1.trans g2
    have hnn : Hc N ≠ none := by rw [c2]; exact fun q => nomatch q
    refine EnvR.put ((r.mono t2.cc).wipe vs) g2.ok.ex ht g3 e1 fun σ2 s2 w2 => ⟨w2, z, C2, env1, g2.ok, s2, h1 _ _ _ (fun b q2 C3 H3 t3 => ?_) q1⟩
    have t23 := g2.trans t3
    have hN3 : H3 N = some (.lst xs) := t23.keep N _ c2 nNp nNg
    have hC3 : C3 N = none := (t23.new N hnn).trans c1
    cases b with
    | false => exact ⟨C3, acc, xs, t1.trans t23, hC3, hN3, c3.mono t23.cc, Nat.le_succ_of_le c4, q2⟩
    | true =>
      show lift K me σ2 H3 _
      refine ⟨z, C3, env1, t3.ok, s2.mono t3.cc, h2 _ _ _ (fun d2 q3 v C4 H4 t4 dn4 => ?_) q2⟩
      have t24 := t23.trans t4
      have hN4 : H4 N = some (.lst xs) := t24.keep N _ c2 nNp nNg
      have hC4 : C4 N = none := (t24.new N hnn).trans c1
      have hl := c3.len
      refine ⟨xs, hN4, ?_, C4, acc ++ [d2], xs ++ [v], Tr.mut o (t1.trans t24) hN hC4, hC4, upd_same, (c3.mono t24.cc).app (Dns.one dn4), by simp; exact c4, q3⟩
      refine sz_lt ?_
      unfold szOk at hz ⊢
      simp only [decide_eq_true_eq] at hz ⊢
      omega
  · rw [List.drop_of_length_le (Nat.le_refl _)] at q'
    exact k acc xs N C' Hc q' t1 hN c1 c2 c3
theorem lc_run (hi : PDI X tg iter mi) (h1 : MonoT mt) (h2 : Mono me) {vs : List Nat} (ht : ∀ i ∈ t.sl, i ∈ vs) {σ : L2.St} {H : Hp} {Q : VK} (q : liftO X.K (moLc vs mi t mt me) σ H Q) : tLc (liftI X.K mi) (t.g X.K) (liftT X.K mt) (lift X.K me) vs σ H Q := by
  obtain ⟨z, C, env, o, r, q⟩ := q
  refine ⟨z, C, env, o, r, hi.mono _ _ _ (fun items ⟨hz, q⟩ J C' H' t1 it => ?_) q⟩
  exact lc_core t1.ok (r.mono t1.cc) it h1 h2 ht hz q fun ds xs a C2 H2 p t2 g1 g2 g3 g4 => p a xs C2 H2 (t1.trans t2) (t1.free g1) g2 g3 g4
theorem mono_lc {vs : List Nat} (hi : MonoA mi) (h1 : MonoT mt) (h2 : Mono me) : MonoA (moLc vs mi t mt me) := fun env Q Q' i q => hi _ _ _ (fun items ⟨a, q⟩ => ⟨a, lcGo_mono h1 h2 i _ _ q⟩) q
theorem PDR.pdi (h : PDR X tg iter mi) : PDI X tg iter mi := ⟨pi_imp h.run fun σ H R ⟨z, C, env, o, r, q⟩ => ⟨z, C, env, o, r, h.mono _ _ _ (fun items q J C' H' t it => q J C' H' t (it C')) q⟩, h.mono⟩
theorem pdo_lc (hc : X.calm = true) (hN : X.N.Nodup) (hi : PDI X tg iter mi) (ok : BlkOk X.N X.env.scope scope own) (ht : ∀ i ∈ t.sl, i ∈ own.map (·.2))
    (hg : ∀ (s : Shared) (H : Hp) (C : Addr) (cl : List (Str × Addr)) (fp : List Addr), PG (X.blk s H scope (compEnvC scope cl C X.env) fp) tg (t.g X.K)) (hts : ∀ (s : Shared) (H : Hp) (C : Addr) (cl : List (Str × Addr)) (fp : List Addr), PDTs (X.blk s H scope (compEnvC scope cl C X.env) fp) ifs mt)
    (he : ∀ (s : Shared) (H : Hp) (C : Addr) (cl : List (Str × Addr)) (fp : List Addr), PD (X.blk s H scope (compEnvC scope cl C X.env) fp) elt me) (hs : ∀ x, foldedSetIterable iter X.env x = pure x := by intro _; rfl) (h1 : MonoT mt) (h2 : Mono me) :
    PDO X (.ListComp elt [⟨tg, iter, ifs, 0⟩] scope pos) (moLc (own.map (·.2)) mi t mt me) :=
  ⟨pe_imp (pe_lc (tt := liftT X.K mt) (te := lift X.K me) hc hN hi.run ok hg (fun s H C cl fp => (hts s H C cl fp).run) (fun s H C cl fp => (he s H C cl fp).run) hs) fun σ H Q q => lc_run hi h1 h2 ht q, mono_lc hi.mono h1 h2⟩
/-- name = [..], the name a local: own -/
theorem pds_setLcO (rs : List Nat) {i : Nat} {y : Str} {py spos : Pos} (hc : X.calm = true) (hN : X.N.Nodup) (hy : X.N[i]? = some y) (hyl : X.env.scope.names.lookup y = some .local)
    (hsw : swapsWith (.ListComp elt [⟨tg, iter, ifs, 0⟩] scope pos) (some (.Name y py)) spos.line X.env = pure true) (hi : PDI X tg iter mi) (ok : BlkOk X.N X.env.scope scope own) (ht : ∀ i ∈ t.sl, i ∈ own.map (·.2))
    (hg : ∀ (s : Shared) (H : Hp) (C : Addr) (cl : List (Str × Addr)) (fp : List Addr), PG (X.blk s H scope (compEnvC scope cl C X.env) fp) tg (t.g X.K)) (hts : ∀ (s : Shared) (H : Hp) (C : Addr) (cl : List (Str × Addr)) (fp : List Addr), PDTs (X.blk s H scope (compEnvC scope cl C X.env) fp) ifs mt)
    (he : ∀ (s : Shared) (H : Hp) (C : Addr) (cl : List (Str × Addr)) (fp : List Addr), PD (X.blk s H scope (compEnvC scope cl C X.env) fp) elt me) (hs : ∀ x, foldedSetIterable iter X.env x = pure x := by intro _; rfl) (h1 : MonoT mt) (h2 : Mono me) :
    PDS X (.Assign [.Name y py] (.ListComp elt [⟨tg, iter, ifs, 0⟩] scope pos) spos) (mAsgO rs i (moLc (own.map (·.2)) mi t mt me)) := by
  refine ⟨fun z C0 H0 Cb => ps_imp (ps_setLc (tt := liftT X.K mt) (te := lift X.K me) hc hN hy hyl hsw hi.run ok hg (fun s H C cl fp => (hts s H C cl fp).run) (fun s H C cl fp => (he s H C cl fp).run) hs) fun N σ H ⟨C, env, s, q⟩ => ?_, fun E E' env l q => mono_lc hi.mono h1 h2 _ _ _ (fun d ⟨a, q⟩ => ⟨a, l.nx _ q⟩) q⟩
  refine lc_run hi h1 h2 ht (useO s rs (mono_lc hi.mono h1 h2) q fun ds xs a C' H' p s' g2 g3 dn g1 => p _ C' H' (s'.setOwn i g2 g3 dn (s.tr.free g1) fun j e hj ha => ?_))
  obtain ⟨b, _, _, _, e2, _, e4, _⟩ := s.own j e hj
  rw [ha] at e2
  cases e2
  rw [g1] at e4; cases e4
/-- the same, shared at once (where the items hold lists, say) -/
def mAsgS (rs : List Nat) (i : Nat) (m : MA) : MS := mAsg rs i (mLstO m)
theorem pds_setLcS (rs : List Nat) {i : Nat} {y : Str} {py spos : Pos} (hc : X.calm = true) (hN : X.N.Nodup) (hy : X.N[i]? = some y) (hyl : X.env.scope.names.lookup y = some .local)
    (hsw : swapsWith (.ListComp elt [⟨tg, iter, ifs, 0⟩] scope pos) (some (.Name y py)) spos.line X.env = pure true) (hi : PDI X tg iter mi) (ok : BlkOk X.N X.env.scope scope own) (ht : ∀ i ∈ t.sl, i ∈ own.map (·.2))
    (hg : ∀ (s : Shared) (H : Hp) (C : Addr) (cl : List (Str × Addr)) (fp : List Addr), PG (X.blk s H scope (compEnvC scope cl C X.env) fp) tg (t.g X.K)) (hts : ∀ (s : Shared) (H : Hp) (C : Addr) (cl : List (Str × Addr)) (fp : List Addr), PDTs (X.blk s H scope (compEnvC scope cl C X.env) fp) ifs mt)
    (he : ∀ (s : Shared) (H : Hp) (C : Addr) (cl : List (Str × Addr)) (fp : List Addr), PD (X.blk s H scope (compEnvC scope cl C X.env) fp) elt me) (hs : ∀ x, foldedSetIterable iter X.env x = pure x := by intro _; rfl) (h1 : MonoT mt) (h2 : Mono me) :
    PDS X (.Assign [.Name y py] (.ListComp elt [⟨tg, iter, ifs, 0⟩] scope pos) spos) (mAsgS rs i (moLc (own.map (·.2)) mi t mt me)) := by
  have hp := ps_setLc (i := i) (spos := spos) (pos := pos) (own := own) (tt := liftT X.K mt) (te := lift X.K me) hc hN hy hyl hsw hi.run ok hg (fun s H C cl fp => (hts s H C cl fp).run) (fun s H C cl fp => (he s H C cl fp).run) hs
  -- first as a fresh list, then into the core
  refine ⟨fun z C0 H0 Cb => ps_imp hp fun N σ H ⟨C, env, s, q⟩ => ?_, fun E E' env l q => mono_lc hi.mono h1 h2 _ _ _ (fun d q => l.nx _ q) q⟩
  refine lc_run hi h1 h2 ht ?_
  refine ⟨z, _, _, s.okP rs, s.envP rs, mono_lc hi.mono h1 h2 _ _ _ (fun ds p a xs C' H' t g1 g2 g3 dn => ?_) q⟩
  have hz : ∀ b, H b ≠ none → b ≠ a := fun b hb e => hb (by rw [e]; exact g1)
  have o := s.okP rs
  have t' : Tr z (coreP rs env σ C H) H (upd C' a (.lst xs)) H' := by
    refine ⟨t.cc.trans (Ex.new g2), ⟨fun b u e => ?_, ?_⟩, t.keep, fun b hb => ?_⟩
    · by_cases hb : b = a
      · subst hb; rw [upd_same] at e; cases e; exact g3
      · rw [upd_ne hb] at e; exact t.ok.ex b u e
    · obtain ⟨gs, cs, sm, k, f1, f2, f3, f4⟩ := t.ok.pur.at_
      exact ⟨⟨gs, cs, sm, k, f1, f2, f3, f4⟩, by rw [upd_ne (hz _ o.pur.pn)]; exact t.ok.pur.cp, by rw [upd_ne (hz _ o.pur.gn)]; exact t.ok.pur.cg, by rw [upd_ne (hz _ o.pur.cn)]; exact t.ok.pur.cc, t.ok.pur.pg, t.ok.pur.pc, t.ok.pur.gc⟩
    · rw [upd_ne (hz b hb)]; exact t.new b hb
  have s' := s.frozen rs t'
  have p' : (endsOf X.K z C0 H0 Cb N).nx ((aft rs (.lst ds) env).set i (some (false, .lst ds))) := p
  unfold aft at p'
  rw [if_neg (by simp [D.lf])] at p'
  exact p' _ _ H' (s'.set i (dn_new_lst dn g2))
end
end BV

/-! Defs that are called where no repr is under way: their promise, their call, their body, the law's end. -/
namespace BV
open PySem PySem.Spec PyProof.Rows L2 Evl

/-- a def keeps its promise wherever no container is being shown -/
structure FnG (P : Program) (w : World) (K : PySem.W.Frag) (mg : Str → Option Value) (base : Heap) (CX : CXT) (k : Nat) (f : Addr) (fd : FuncData) (ps : List Str) (sp : Sp) : Prop where
  many : ∀ vs H Q E, sp vs H Q E → vs.length = ps.length
  go : ∀ (A : Around) (out : List PySem.Env) (s : Shared) (H : Hp) (ar : Args) (us : List Value) (vs : List V) (Q : VK) (E : XK), Room k A → A.guards = some [] → Env0 P w K mg base A out s H → BindsTo s fd ar (ps.zip us) → Vals vs us → sp vs H Q E →
    codeAny (model P w) A (.call (.ref f) ar) (CR CX out P w H s Q E) s
section
variable {P : Program} {w : World} {K : PySem.W.Frag} {mg : Str → Option Value} {base : Heap} {CX : CXT} {j k : Nat} {f : Addr} {fd : FuncData} {ps : List Str} {sp sp' : Sp}
theorem FnG.up (F : FnG P w K mg base CX j f fd ps sp) (h : j ≤ k) : FnG P w K mg base CX k f fd ps sp := ⟨F.many, fun A o s H ar us vs Q E r => F.go A o s H ar us vs Q E (r.mono h)⟩
theorem FnG.imp (F : FnG P w K mg base CX k f fd ps sp) (h : ∀ vs H Q E, sp' vs H Q E → sp vs H Q E) : FnG P w K mg base CX k f fd ps sp' :=
  ⟨fun vs H Q E q => F.many vs H Q E (h _ _ _ _ q), fun A o s H ar us vs Q E r g e b v q => F.go A o s H ar us vs Q E r g e b v (h _ _ _ _ q)⟩
end

/-! ### the call -/
section
variable {X : Cx} {CX : CXT} {k : Nat} {f : Addr} {fd : FuncData} {ps ks : List Str} {sp : Sp} {E : XK} {x : Str} {p pos : Pos} {e : Expr} {es : List Expr} {t tk : TA} {kws : List Keyword}
theorem end_of {pins : List (Addr × Obj)} {σ : L2.St} {H : Hp} {s : Shared} {Q : VK} (I : Inv X pins σ H s) (hx : Passes CX X E) : ∀ (r : Result) (s' : Shared), CR CX X.stack X.prog X.w H s Q E r s' → match r with
    | .ok (.ret u) => EP X pins σ Q u s'
    | .ok _ => False
    | .error e => X.xe e s'
  | .error e, s', q => hx pins σ H s e s' I q
  | .ok (.ret u), s', q => I.after q
  | .ok .next, s', q => q
  | .ok .brk, s', q => q
  | .ok .cont, s', q => q
theorem pe_callG (F : FnG X.prog X.w X.K X.mg X.base CX k f fd ps sp) (hr : Room k X.A) (hgd : X.A.guards = some []) (hg : Gl X x) (hm : X.mg x = some (.ref f)) (hk : PySem.W.keepIn X.K (.ref f) = true) (hb : Binds X.K fd ps []) (hx : Passes CX X E)
    (ha : PA X (e :: es) t) (hdb : (x == ("__debug__" : Str)) = false) (he : starEach (e :: es) X.env = (false, eval e X.env) :: starEach es X.env) (hpl : (backTo pos (starEach es X.env)).any (·.1) = false) :
    PE X (.Call (.Name x p) (e :: es) [] pos) (tCall sp [] E t) := by
  refine ⟨fun pins s σ H Q I q0 => wpAny_Call_Name_kw (ld_glob I hg hm ?_ hdb)⟩
  refine PySem.W.callWith_K (h₀ := X.base) I.ok.mod.kin hk (thn (ha.run pos pins s σ H _ I q0) fun us s1 ⟨vs, H1, I1, r1, q1⟩ => ⟨I1.kIn, ?_⟩) he hpl
  have q2 : sp vs H1 Q E := by
    have q3 : sp (vs ++ []) H1 Q E := q1
    rwa [List.append_nil] at q3
  have hn : (us ++ ([] : List Value)).length = ps.length := by rw [List.append_nil, ← r1.length]; exact F.many _ _ _ _ q2
  have hbt := hb s1 us I1.kIn hn
  rw [List.append_nil] at hbt
  refine wpAny_call (codeAny_mono (F.go X.A X.stack s1 H1 _ us vs Q E hr hgd I1.env0 hbt r1 q2) fun r s' z => ?_)
  have z' := end_of I1 hx r s' z
  match r, z' with
  | .error _, z' => exact z'
  | .ok (.ret _), z' => exact z'
  | .ok .next, z' => exact z'.elim
  | .ok .brk, z' => exact z'.elim
  | .ok .cont, z' => exact z'.elim
/-- f(k = v, ..), all by name; g puts the values in the parameters' order -/
structure KwB (K : PySem.W.Frag) (fd : FuncData) (ps ks : List Str) (g : List Value → List Value) (gV : List V → List V) : Prop where
  to : ∀ (s : Shared) (ws : List Value), K.In s.heap → ws.length = ks.length → (g ws).length = ps.length → BindsTo s fd ⟨[], ks.zip ws⟩ (ps.zip (g ws))
  rel : ∀ {zs : List V} {ws : List Value}, Vals zs ws → Vals (gV zs) (g ws)
def tCallG (sp : Sp) (gV : List V → List V) (n : Nat) (E : XK) (tk : TA) : TE := fun σ H Q => tk σ H fun zs H1 => zs.length = n ∧ sp (gV zs) H1 Q E
theorem pe_callGK {g : List Value → List Value} {gV : List V → List V} (F : FnG X.prog X.w X.K X.mg X.base CX k f fd ps sp) (hr : Room k X.A) (hgd : X.A.guards = some []) (hg : Gl X x) (hm : X.mg x = some (.ref f)) (hk : PySem.W.keepIn X.K (.ref f) = true)
    (hb : KwB X.K fd ps ks g gV) (hx : Passes CX X E) (hkw : PK X kws tk) (hall : (backToKw pos (keywordEach kws X.env)).all (·.1.isSome) = true) (hks : (backToKw pos (keywordEach kws X.env)).filterMap (·.1) = ks)
    (hdb : (x == ("__debug__" : Str)) = false) (hpl : ((backTo pos (starEach [] X.env)).any (·.1) || (backToKw pos (keywordEach kws X.env)).any (·.1.isNone)) = false) :
    PE X (.Call (.Name x p) [] kws pos) (tCallG sp gV ks.length E tk) := by
  refine ⟨fun pins s σ H Q I q0 => wpAny_Call_Name_kw (ld_glob I hg hm ?_ hdb)⟩
  refine PySem.W.callWith_KW0 (h₀ := X.base) I.ok.mod.kin hk hall (thn (hkw.run pos pins s σ H _ I q0) fun ws s1 ⟨zs, H1, I1, r1, hl, q1⟩ => ⟨I1.kIn, ?_⟩) hpl
  rw [hks]
  have r2 := hb.rel r1
  have hn : (g ws).length = ps.length := by rw [← r2.length]; exact F.many _ _ _ _ q1
  refine wpAny_call (codeAny_mono (F.go X.A X.stack s1 H1 _ (g ws) (gV zs) Q E hr hgd I1.env0 (hb.to s1 ws I1.kIn (by rw [← r1.length]; exact hl) hn) r2 q1) fun r s' z => ?_)
  have z' := end_of I1 hx r s' z
  match r, z' with
  | .error _, z' => exact z'
  | .ok (.ret _), z' => exact z'
  | .ok .next, z' => exact z'.elim
  | .ok .brk, z' => exact z'.elim
  | .ok .cont, z' => exact z'.elim
end

/-! ### the body -/
section
variable {P : Program} {w : World} {K : PySem.W.Frag} {mg : Str → Option Value} {base : Heap} {CX : CXT} {k : Nat} {f : Addr} {fd : FuncData} {N ps : List Str} {sp : Sp} {x qual : Str} {st : Stmt}
theorem fnG_of (F : Fun K x qual st f fd) (S : FnScope N ps (defScope st)) (many : ∀ vs H Q E, sp vs H Q E → vs.length = ps.length)
    (body : ∀ (cdv : Value) (A : Around) (out : List PySem.Env) (s : Shared) (H : Hp) (vs : List V) (Q : VK) (E : XK), Room k (A.deeper (envOfC qual (defScope st) s.heap.objs.size f cdv)) → A.guards = some [] → sp vs H Q E →
      ∃ t, PSs (cxOf CX P w K mg base N qual (defScope st) f cdv A out s H E) (defBody st) t ∧ t { nx := fun _ H' => Q .non H', rt := Q } (start N vs) H) : FnG P w K mg base CX (k + 1) f fd ps sp := by
  obtain ⟨oc, od, kV, doc, pm, an, cdv, ct, osl, rfl, lk, hcd⟩ := F.ex
  refine ⟨many, fun A out s H ar us vs Q E hr gd e0 hb r hsp => ?_⟩
  have hn := many _ _ _ _ hsp
  have KX : K.In s.heap := e0.mod.kin.keeps fun b o e => (e0.bs b o e).1
  have lim := e0.mod.nolimit.keeps fun b o e => (e0.bs b o e).1
  refine codeAny_call_function hr.depth (KX _ _ lk) rfl S.co S.gen rfl (PySem.W.codeRec_of KX hcd) (hb _ _ _ _ (wpAny_newFunctionEnv_cells S.kind (fun y hy => ?_) fun env he s1 x1 => ?_))
  · rcases S.par y.1 (List.of_mem_zip (b := y.2) hy).1 with q | q
    · exact .inl q
    · exact .inr ⟨q, PySem.W.cellsFrom_some _ _ _ (.inl q)⟩
  · subst he
    obtain ⟨t, ht, hq⟩ := body cdv A out s H vs Q E (hr.deeper _) gd hsp
    refine ⟨lim.keeps x1.toInCall.keep, codeAny_func (wpAny_mono (ht.run [] s1 (start N vs) H _ (inv_start S hr.hd e0 hn r x1) hq) (fun fl s' hs => ?_) fun e s' hs => hs)⟩
    match fl, hs with
    | .ret u, ⟨v, σ', H', J, rv, q⟩ => exact ⟨v, H', J.os, J.bare, J.base, J.hok, rv, q⟩
    | .next, ⟨σ', H', J, q⟩ => exact ⟨V.non, H', J.os, J.bare, J.base, J.hok, rfl, q⟩
    | .brk, ⟨_, _, _, q⟩ => exact False.elim q
    | .cont, ⟨_, _, _, q⟩ => exact False.elim q
end

/-! ### the law's end -/
section
/-- what the law's call finds: the script alone, locked, or one of the written part -/
theorem end_law {P : Program} {w : World} {K : PySem.W.Frag} {mg mb : Str → Option Value} {CX : CXT} {k : Nat} {fa a : Addr} {fd : FuncData} {x : Str} {sp : Sp} {s₁ : Shared} {vs : List Value} {ns : List Int}
    (KX : K.In s₁.heap) (hns : s₁.heap.Ns mainGlobals mg) (hb : s₁.heap.Ns builtinsNs mb) (hbb : ∀ x : Str, x ≠ "__name__" → mb x = bootBuiltins x) (hlim : s₁.heap.NoLimit) (hg : s₁.gens = #[])
    (ha : s₁.heap.get? a = some { cls := .type "list", data := .seq vs.toArray }) (hi : IntsAre vs ns) (hl : ns.length ≤ sizeLine) (hr : Room k callerA)
    (F : ∀ base : Heap, K.In base → base.Ns mainGlobals mg → FnG P w K mg base CX k fa fd [x] sp) (hbind : ∀ (s : Shared) (u : Value), BindsTo s fd ⟨[u], []⟩ [(x, u)])
    (hsp : ∀ H : Hp, Only H → SqL K H a (ns.map V.int) → sp [.ref a] H (fun v _ => v = .bl true) fun _ _ _ => False)
    (hCX : ∀ H e s', CX [] H s₁ (fun _ _ _ => False) e s' → False) :
    codeAny (model P w) callerA (.call (.ref fa) ⟨[.ref a], []⟩) (fun r s' => r = .ok (.ret (.bool true)) ∧ OldK s₁.heap s'.heap ∧ s'.os = s₁.os ∧ AllBare s'.gens) s₁ := by
  have rv := vals_ints hi
  have lenV := hi.length
  -- what is told of the script, by whether it is written
  have way : ∃ H : Hp, Only H ∧ SqL K H a (ns.map V.int) ∧ HOk P w H s₁.heap ∧ (∀ b, H b ≠ none → b = a ∧ K.lookup a = none) := by
    cases hk : K.lookup a with
    | some o =>
      have e := KX a o hk
      rw [ha] at e
      cases e
      exact ⟨fun _ => none, fun _ => .inl rfl, .inr ⟨_, vs.toArray, _, hk, rfl, rfl, rfl, by rw [List.size_toArray, lenV]; exact hl, by simpa using rv⟩, fun b u z => (nomatch (show (none : Option HO) = some u from z)), fun b z => absurd rfl z⟩
    | none =>
      refine ⟨fun b => if b = a then some (.frz { cls := .type "list", data := .seq vs.toArray } (.lst (ns.map V.int))) else none, fun b => ?_, .inl (.inr ⟨_, if_pos rfl⟩), fun b u z => ?_, fun b z => ⟨?_, rfl⟩⟩
      · by_cases q : b = a
        · exact .inr ⟨_, _, if_pos q⟩
        · exact .inl (if_neg q)
      · by_cases q : b = a
        · have z' := (if_pos q).symm.trans z
          cases z'
          subst q
          exact ⟨ha, by rw [List.length_map]; exact hl, vs, _, rv, ha⟩
        · have z' := (if_neg q).symm.trans z
          cases z'
      · by_cases q : b = a
        · exact q
        · exact absurd (if_neg q) z
  obtain ⟨H, hO, hS, hok, hA⟩ := way
  have plain : ∀ {b : Addr} {o : Obj} {es : Array DictEntry} {ep : Nat}, s₁.heap.get? b = some o → o.data = .dict es ep → H b = none := fun {b o es ep} e d => by
    cases q : H b with
    | none => rfl
    | some u =>
      obtain ⟨e', _⟩ := hA b (by rw [q]; simp)
      subst e'
      rw [ha] at e
      cases e
      exact nomatch (show Data.seq vs.toArray _ = Data.dict es ep from d)
  have names : ∀ {b : Addr} {m : Str → Option Value}, s₁.heap.Ns b m → (hidT s₁.heap H).Ns b m := fun {b m} ⟨o, es, ep, e, d, r⟩ => ⟨o, es, ep, hidT_get e (plain e d), d, r⟩
  have written : K.In (hidT s₁.heap H) := fun b o e => hidT_get (KX b o e) (by
    cases q : H b with
    | none => rfl
    | some u =>
      obtain ⟨e', n⟩ := hA b (by rw [q]; simp)
      subst e'
      rw [n] at e
      cases e)
  have md : Mod K mg (hidT s₁.heap H) := ⟨written, names hns, ⟨mb, names hb, hbb⟩, let ⟨mc, h1, h2⟩ := hlim; ⟨mc, names h1, h2⟩⟩
  have e0 : Env0 P w K mg (hidT s₁.heap H) callerA [] s₁ H := ⟨rfl, md, fun b o e => of_hidT e, Nat.le_of_eq (hidT_size _ _), trivial, fun b z => (nomatch (show b ∈ ([] : List Addr) from z)), hok, .of_eq hg⟩
  refine codeAny_mono ((F _ written (names hns)).go callerA [] s₁ H ⟨[.ref a], []⟩ [.ref a] [.ref a] _ _ hr rfl e0 (hbind s₁ (.ref a)) (.cons rfl .nil) (hsp H hO hS)) fun r s' z => ?_
  match r, z with
  | .error e, z => exact (hCX H e s' z).elim
  | .ok .next, z => exact False.elim z
  | .ok .brk, z => exact False.elim z
  | .ok .cont, z => exact False.elim z
  | .ok (.ret u), ⟨v, H', os, bare, un, hok', r', q⟩ =>
    have q' : v = .bl true := q
    subst q'
    obtain rfl : u = Value.bool true := r'
    refine ⟨rfl, OldK.of_keep fun b o e => ?_, os, bare⟩
    cases hb' : H b with
    | none => exact un.keep b o e hb' (fun z => (nomatch (show b ∈ ([] : List Addr) from z))) (by simp)
    | some u =>
      rcases hO b with z | ⟨ob, xs, z⟩
      · rw [hb'] at z; cases z
      · obtain ⟨e1, _⟩ := hok b _ z
        obtain ⟨e2, _⟩ := hok' b _ (un.frzs b ob _ z)
        rw [e] at e1
        cases e1
        exact e2
/-- the goal behind the head, from the law's promise -/
theorem end_walk {l : PySem.W.OpenLaw} {n k : Nat} {q : Program} {loose : List Str} {XP : (Str → Option Value) → Heap → Prop} {YP : World → Heap → Prop} {d : DefRec} {K : Params → PySem.W.Frag} {CX : World → CXT} {sp : World → Sp} {x : Str}
    (hn : l.most = some n) (hn2 : n ≤ sizeLine) (hdf : d.params.defaults = []) (hr : Room k callerA) (hY : ∀ (w : World) (h : Heap), YP w h → (K w.params).In h)
    (F : ∀ (w : World) (mg : Str → Option Value) (fa : Addr) (h : Heap), (K w.params).In h → h.Ns mainGlobals mg → mg d.name = some (.ref fa) →
      ∃ fd : FuncData, (∀ (s : Shared) (u : Value), BindsTo s fd ⟨[u], []⟩ [(x, u)]) ∧ ∀ base : Heap, (K w.params).In base → base.Ns mainGlobals mg → FnG l.prog w (K w.params) mg base (CX w) k fa fd [x] (sp w))
    (hsp : ∀ (w : World) (H : Hp) (a : Addr) (ns : List Int), ns.length ≤ n → Only H → SqL (K w.params) H a (ns.map V.int) → sp w [.ref a] H (fun v _ => v = .bl true) fun _ _ _ => False)
    (hCX : ∀ (w : World) (H : Hp) (s : Shared) (e : Value) (s' : Shared), CX w [] H s (fun _ _ _ => False) e s' → False) :
    PySem.W.WalkO q loose XP YP l.row.toRowW d [] (fun f vs => PySem.call f vs) := by
  refine Att.attach_call hn hdf fun w s₀ s₁ mg mb fa o pm cd doc a vs ns G Y ho hd hcd hmg hobj hints hlen hg => ?_
  obtain ⟨fd, hb, hF⟩ := F w mg fa _ (hY w _ Y) G.T.g hmg
  exact end_law (hY w _ Y) G.T.g G.T.b G.T.builtins G.T.nolimit hg hobj hints (Nat.le_trans hlen hn2) hr hF hb (fun H hO hS => hsp w H a ns hlen hO hS) fun H e s' => hCX w H s₁ e s'
end

/-! ### on data -/
abbrev FnD (P : Program) (w : World) (K : PySem.W.Frag) (mg : Str → Option Value) (base : Heap) (k : Nat) (f : Addr) (fd : FuncData) (ps : List Str) (sp : SpD) : Prop := FnG P w K mg base CX0 k f fd ps (liftF K sp)
theorem FnG.says {P : Program} {w : World} {K : PySem.W.Frag} {mg : Str → Option Value} {base : Heap} {k : Nat} {f : Addr} {fd : FuncData} {ps : List Str} {sp sp' : SpD} (F : FnD P w K mg base k f fd ps sp) (h : ∀ ds T, sp' ds T → sp ds T) : FnD P w K mg base k f fd ps sp' :=
  F.imp fun vs H Q E ⟨z, C, ds, T, o, dn, q, k⟩ => ⟨z, C, ds, T, o, dn, h _ _ q, k⟩
section
variable {X : Cx} {e : Expr} {pos : Pos}
def mCall (sp : SpD) (m : MA) : ME := fun env Q => m env fun ds => ∃ T : D → Prop, sp ds T ∧ ∀ d, T d → Q d
theorem call_use {sp : SpD} {ds : List D} {vs : List V} {z : Pz} {C H C' H' : Hp} {K : PySem.W.Frag} {Q : VK} (t : Tr z C H C' H') (dn : Dns K C' z.p ds vs) (p : ∃ T : D → Prop, sp ds T ∧ ∀ d, T d → ∀ v C' H', Tr z C H C' H' → Dn K C' z.p d v → Q v H') : liftF K sp vs H' Q E0 := by
  obtain ⟨T, q, k⟩ := p
  exact ⟨z, C', ds, T, t.ok, dn, q, fun d v C2 H2 hT t2 dn2 => k d hT v C2 H2 (t.trans t2) dn2⟩
theorem pd_call {k : Nat} {f : Addr} {fd : FuncData} {ps : List Str} {sp : SpD} {x : Str} {p : Pos} {es : List Expr} {m : MA} (F : FnD X.prog X.w X.K X.mg X.base k f fd ps sp) (hr : Room k X.A) (hgd : X.A.guards = some []) (hk : PySem.W.keepIn X.K (.ref f) = true) (hb : Binds X.K fd ps [])
    (hm : X.mg x = some (.ref f)) (h : PDA X (e :: es) m) (hg : Gl X x := by rfl) (hdb : (x == ("__debug__" : Str)) = false := by decide) (he : starEach (e :: es) X.env = (false, eval e X.env) :: starEach es X.env := by rfl) (hpl : (backTo pos (starEach es X.env)).any (·.1) = false := by rfl) :
    PD X (.Call (.Name x p) (e :: es) [] pos) (mCall sp m) := by
  refine ⟨pe_imp (pe_callG F hr hgd hg hm hk hb pass0 h.run hdb he hpl) fun σ H Q q => ?_, fun env Q Q' i q => h.mono env _ _ (fun ds ⟨T, q, k⟩ => ⟨T, q, fun d hT => i d (k d hT)⟩) q⟩
  obtain ⟨z, C, env, o, r, q⟩ := q
  refine liftA_use h.mono o r q fun ds vs C' H' p t dn => ?_
  show liftF X.K sp (vs ++ []) H' Q E0
  rw [List.append_nil]
  exact call_use t dn p
/-- by names -/
structure PDK (X : Cx) (kws : List Keyword) (m : MA) : Prop where
  run : PK X kws (liftA X.K m)
  mono : MonoA m
theorem pk_imp {kws : List Keyword} {t t' : TA} (h : PK X kws t) (i : ∀ σ H Q, t' σ H Q → t σ H Q) : PK X kws t' := ⟨fun p pins s σ H Q I q => h.run p pins s σ H Q I (i σ H Q q)⟩
theorem pdk_nil : PDK X [] maNil := ⟨pk_imp pk_nil fun σ H Q ⟨z, C, env, o, r, q⟩ => q [] C H (Tr.refl o) (dns_nil.mpr rfl), fun env Q Q' i q => i _ q⟩
theorem pdk_cons {kws : List Keyword} {nm : Option Str} {kpos : Pos} {ma : ME} {mr : MA} (ha : PD X e ma) (hr : PDK X kws mr) : PDK X (⟨nm, e, kpos⟩ :: kws) (maCons ma mr) := by
  refine ⟨pk_imp (pk_cons ha.run hr.run) fun σ H Q q => ?_, fun env Q Q' i q => ha.mono env _ _ (fun d q => hr.mono env _ _ (fun ds q => i _ q) q) q⟩
  obtain ⟨z, C, env, o, r, q⟩ := q
  exact lift_use ha.mono o r q fun d v C' H' p t dn => liftA_use hr.mono t.ok (r.mono t.cc) p fun ds vs C2 H2 p2 t2 dns => p2 (v :: vs) C2 H2 (t.trans t2) (dns_cons.mpr ⟨v, vs, rfl, dn.mono t2.cc, dns⟩)
/-- keywords in the parameters' order -/
theorem pd_callK {k : Nat} {f : Addr} {fd : FuncData} {ps : List Str} {sp : SpD} {x : Str} {p : Pos} {kws : List Keyword} {m : MA} (F : FnD X.prog X.w X.K X.mg X.base k f fd ps sp) (hr : Room k X.A) (hgd : X.A.guards = some []) (hk : PySem.W.keepIn X.K (.ref f) = true)
    (hb : KwB X.K fd ps ps id id) (hm : X.mg x = some (.ref f)) (h : PDK X kws m) (hall : (backToKw pos (keywordEach kws X.env)).all (·.1.isSome) = true := by rfl) (hks : (backToKw pos (keywordEach kws X.env)).filterMap (·.1) = ps := by rfl)
    (hg : Gl X x := by rfl) (hdb : (x == ("__debug__" : Str)) = false := by decide) (hpl : ((backTo pos (starEach [] X.env)).any (·.1) || (backToKw pos (keywordEach kws X.env)).any (·.1.isNone)) = false := by rfl) :
    PD X (.Call (.Name x p) [] kws pos) (mCall sp m) := by
  refine ⟨pe_imp (pe_callGK F hr hgd hg hm hk hb pass0 h.run hall hks hdb hpl) fun σ H Q q => ?_, fun env Q Q' i q => h.mono env _ _ (fun ds ⟨T, q, k⟩ => ⟨T, q, fun d hT => i d (k d hT)⟩) q⟩
  obtain ⟨z, C, env, o, r, q⟩ := q
  refine liftA_use h.mono o r q fun ds vs C' H' p t dn => ?_
  have q2 : liftF X.K sp vs H' Q E0 := call_use t dn p
  exact ⟨F.many _ _ _ _ q2, q2⟩
end
/-- a def's promise, as its body tells it -/
def startE (n : Nat) (ds : List D) : SEnv := ds.map (fun d => some (false, d)) ++ List.replicate (n - ds.length) none
def endF (T : D → Prop) : EndD := { nx := fun _ => T .non, rt := T, bk := fun _ => False, ct := fun _ => False }
def spOf (np n : Nat) (m : MS) : SpD := fun ds T => ds.length = np ∧ m (endF T) (startE n ds)
section
variable {P : Program} {w : World} {K : PySem.W.Frag} {mg : Str → Option Value} {base : Heap} {k : Nat} {f : Addr} {fd : FuncData} {N ps : List Str} {x qual : Str} {st : Stmt} {m : MS}
theorem startE_at {n : Nat} {ds : List D} {i : Nat} {y : Bool × D} (h : (startE n ds)[i]? = some (some y)) : y.1 = false ∧ ds[i]? = some y.2 := by
  unfold startE at h
  by_cases hi : i < ds.length
  · rw [List.getElem?_append_left (by simpa using hi), List.getElem?_map, List.getElem?_eq_getElem hi] at h
    simp only [Option.map_some, Option.some.injEq] at h
    rw [← h, List.getElem?_eq_getElem hi]
    exact ⟨rfl, rfl⟩
  · rw [List.getElem?_append_right (by simpa using hi), List.getElem?_replicate] at h
    split at h <;> cases h
theorem sr_start {z : Pz} {C H : Hp} {ds : List D} {vs : List V} (o : Ok z C H) (dn : Dns K C z.p ds vs) : SR K z C H C C (startE N.length ds) (L2.start N vs) H := by
  have hl := dn.len
  refine ⟨o, Tr.refl o, Ex.refl C, ?_, fun i d h => ?_, fun i d h => ?_, fun i j d e a h _ _ _ => ?_⟩
  · unfold startE L2.start
    simp [hl]
  · obtain ⟨v, h1, h2⟩ := dn.get (startE_at h).2
    refine ⟨v, ?_, h2⟩
    have hv := (List.getElem?_eq_some_iff.mp h1).1
    unfold L2.start
    rw [List.getElem?_append_left (by simpa using hv), List.getElem?_map, h1]
    rfl
  · cases (startE_at h).1
  · cases (startE_at h).1
/-- THE RULE for a def on data -/
theorem fnD_of (F : Fun K x qual st f fd) (S : FnScope N ps (defScope st))
    (body : ∀ (cdv : Value) (A : Around) (out : List PySem.Env) (s : Shared) (H : Hp) (E : XK), Room k (A.deeper (envOfC qual (defScope st) s.heap.objs.size f cdv)) → A.guards = some [] →
      PDSs (cxOf CX0 P w K mg base N qual (defScope st) f cdv A out s H E).nox (defBody st) m) : FnD P w K mg base (k + 1) f fd ps (spOf ps.length N.length m) := by
  refine fnG_of F S (fun vs H Q E ⟨z, C, ds, T, o, dn, h, _⟩ => by rw [dn.len, h.1]) fun cdv A out s H vs Q E hr gd ⟨z, C, ds, T, o, dn, h, k⟩ => ?_
  have b := body cdv A out s H E hr gd
  refine ⟨_, (b.run z C H C).nox, C, _, sr_start (N := N) o dn, b.mono (endF T) _ _ ⟨fun e q σ' C' H' s' => ?_, fun d q v C' H' t dn => k d v C' H' q t dn, fun _ q => q.elim, fun _ q => q.elim⟩ h.2⟩
  exact k .non .non C' H' q s'.tr (dn_non.mpr rfl)
end
end BV

/-! Operators, subscripts, slices, built-ins, by value. -/
namespace BV
open PySem PySem.Spec PyProof.Rows L2 Evl

section
variable {X : Cx}
def addD : D → D → Option D
  | .int i, .int j => some (.int (i + j))
  | .str a, .str b => if szOk (a.length + b.length) = true then some (.str (a ++ b)) else none
  | .tup a, .tup b => if szOk (a.length + b.length) = true then some (.tup (a ++ b)) else none
  | .lst a, .lst b => if szOk (a.length + b.length) = true then some (.lst (a ++ b)) else none
  | _, _ => none
theorem ite_of {α : Type} {c : Prop} [Decidable c] {a u : α} (h : (if c then some a else none) = some u) : c ∧ a = u := by
  by_cases hc : c
  · rw [if_pos hc] at h; exact ⟨hc, Option.some.inj h⟩
  · rw [if_neg hc] at h; cases h
theorem opd_add : OpD X (binaryOp .Add) addD := by
  refine OpD.of _ (op_add.or (op_add_str.or (op_catA.or op_cat))) fun z C H d e u x y Q o dx dy g k => ?_
  unfold addD at g
  split at g
  · cases g
    exact .inl ⟨_, _, dn_int.mp dx, dn_int.mp dy, k _ C H (Tr.refl o) (dn_int.mpr rfl)⟩
  · obtain ⟨hz, rfl⟩ := ite_of g
    exact .inr (.inl ⟨_, _, dn_str.mp dx, dn_str.mp dy, sz_ok hz, k _ C H (Tr.refl o) (dn_str.mpr rfl)⟩)
  · rename_i as bs
    obtain ⟨hz, rfl⟩ := ite_of g
    obtain ⟨a, xs, e1, e2, e3⟩ := dn_tup.mp dx
    obtain ⟨b, ys, f1, f2, f3⟩ := dn_tup.mp dy
    have l1 := e3.len
    have l2 := f3.len
    refine .inr (.inr (.inl ⟨a, b, xs, ys, e1, f1, ex_t o.ex e2, ex_t o.ex f2, by rw [l1, l2]; exact sz_ok hz, fun h => ?_, fun _ h => ?_, fun _ _ p hp => ?_⟩))
    · refine k _ C H (Tr.refl o) ?_
      have : as = [] := List.eq_nil_of_length_eq_zero (by rw [← l1, h]; rfl)
      rw [this, List.nil_append, ← f1]
      exact dy
    · refine k _ C H (Tr.refl o) ?_
      have : bs = [] := List.eq_nil_of_length_eq_zero (by rw [← l2, h]; rfl)
      rw [this, List.append_nil, ← e1]
      exact dx
    · exact k _ _ _ (Tr.put o hp) (dn_new_tup (e3.app f3) (fresh_back o.ex hp))
  · rename_i as bs
    obtain ⟨hz, rfl⟩ := ite_of g
    obtain ⟨a, xs, e1, e2, e3⟩ := dn_lst.mp dx
    obtain ⟨b, ys, f1, f2, f3⟩ := dn_lst.mp dy
    refine .inr (.inr (.inr ⟨a, b, xs, ys, e1, f1, o.ex _ _ e2, o.ex _ _ f2, by rw [e3.len, f3.len]; exact sz_ok hz, fun p hp => ?_⟩))
    exact k _ _ _ (Tr.put o hp) (dn_new_lst (e3.app f3) (fresh_back o.ex hp))
  · cases g
def subD : D → D → Option D
  | .int i, .int j => some (.int (i - j))
  | _, _ => none
theorem opd_sub : OpD X (binaryOp .Sub) subD := by
  refine OpD.of _ op_sub fun z C H d e u x y Q o dx dy g k => ?_
  unfold subD at g
  split at g
  · cases g
    exact ⟨_, _, dn_int.mp dx, dn_int.mp dy, k _ C H (Tr.refl o) (dn_int.mpr rfl)⟩
  · cases g
def modD : D → D → Option D
  | .int i, .int j => if 0 < j then some (.int (i % j)) else none
  | _, _ => none
theorem opd_mod : OpD X (binaryOp .Mod) modD := by
  refine OpD.of _ op_mod fun z C H d e u x y Q o dx dy g k => ?_
  unfold modD at g
  split at g
  · obtain ⟨hz, rfl⟩ := ite_of g
    exact ⟨_, _, dn_int.mp dx, dn_int.mp dy, hz, k _ C H (Tr.refl o) (dn_int.mpr rfl)⟩
  · cases g
def fdivD : D → D → Option D
  | .int i, .int j => if 0 < j ∧ j < 1073741824 then some (.int (i / j)) else none
  | _, _ => none
theorem opd_fdiv : OpD X (binaryOp .FloorDiv) fdivD := by
  refine OpD.of _ op_fdiv fun z C H d e u x y Q o dx dy g k => ?_
  unfold fdivD at g
  split at g
  · obtain ⟨hz, rfl⟩ := ite_of g
    exact ⟨_, _, dn_int.mp dx, dn_int.mp dy, hz, k _ C H (Tr.refl o) (dn_int.mpr rfl)⟩
  · cases g
def powD : D → D → Option D
  | .int i, .int j => if 0 ≤ j ∧ j ≤ 1000000 ∧ i.natAbs < 2 ^ 64 then some (.int (i ^ j.toNat)) else none
  | _, _ => none
theorem opd_pow : OpD X (binaryOp .Pow) powD := by
  refine OpD.of _ op_pow fun z C H d e u x y Q o dx dy g k => ?_
  unfold powD at g
  split at g
  · obtain ⟨hz, rfl⟩ := ite_of g
    exact ⟨_, _, dn_int.mp dx, dn_int.mp dy, hz, k _ C H (Tr.refl o) (dn_int.mpr rfl)⟩
  · cases g
/-- a text so many times -/
def repS (x : Str) (n : Nat) : Str := ⟨(List.replicate n x.cps.toList).flatten.toArray⟩
theorem foldl_app (l : List (Array Nat)) : ∀ a : Array Nat, (l.foldl (· ++ ·) a).toList = a.toList ++ (l.map Array.toList).flatten := by
  induction l with
  | nil => intro a; simp
  | cons b l ih => intro a; simp [ih]
theorem op_rep_str : OpR X (binaryOp .Mult) (fun x y H Q => ∃ a n, x = .str a ∧ y = .int n ∧ 0 ≤ n ∧ n ≤ 4000000 ∧ a.length * n.toNat ≤ 4000000 ∧ Q (.str (repS a n.toNat)) H) := by
  intro pins s σ H x y v u Q I rx ry h
  obtain ⟨a, n, rfl, rfl, h0, h1, h2, q⟩ := h
  obtain ⟨t, rfl⟩ := rx
  obtain ⟨t', rfl⟩ := ry
  have hl : sizeLine = 16777216 := sizeLine_eq
  refine PySem.P.mul_str (by rw [decide_eq_false (by omega), decide_eq_false (by omega)]; rfl) (fun h3 h4 => ?_) (fun h3 h4 => ?_) ?_
  · have h5 : (a.length : Int) * n ≤ 4000000 := by
      have : ((a.length * n.toNat : Nat) : Int) ≤ 4000000 := by omega
      rw [Int.natCast_mul, Int.toNat_of_nonneg h0] at this
      exact this
    have hn : 0 < n := by omega
    have h7 : (a.length : Int) ≤ (2 ^ 63 - 1) / n := by
      rw [Int.le_ediv_iff_mul_le hn]
      omega
    omega
  · show decide (a.length * n.toNat > sizeLine) = false
    exact decide_eq_false (by omega)
  · by_cases hn : n < 1
    · rw [if_pos hn]
      have e0 : n = 0 := by omega
      subst e0
      refine ⟨by decide, .str Str.empty, H, I.tok _, ⟨_, rfl⟩, ?_⟩
      exact q
    · rw [if_neg hn]
      by_cases h4 : (n == 1 || a.length == 0) = true
      · rw [if_pos h4]
        have e : repS a n.toNat = a := by
          unfold repS
          rcases Bool.or_eq_true _ _ ▸ h4 with e | e
          · have : n = 1 := by simpa using e
            subst this
            simp
          · have : a.cps.toList = [] := by
              have : a.cps.size = 0 := by
                have e' : a.length = 0 := by simpa using e
                exact e'
              exact List.eq_nil_of_length_eq_zero (by rw [Array.length_toList]; exact this)
            rw [this]
            cases a with
            | mk cps =>
              simp only at this
              have : cps = #[] := by simpa using this
              subst this
              simp
        rw [e] at q
        exact ⟨.str a, H, I, ⟨_, rfl⟩, q⟩
      · rw [if_neg h4]
        have e : (⟨(List.replicate n.toNat a.cps).foldl (· ++ ·) #[]⟩ : Str) = repS a n.toNat := by
          unfold repS
          congr 1
          apply Array.toList_inj.mp
          rw [foldl_app]
          simp
        rw [e]
        refine ⟨?_, .str _, H, I.tok _, ⟨_, rfl⟩, q⟩
        show (repS a n.toNat).length ≤ sizeLine
        have : (repS a n.toNat).length = n.toNat * a.length := by
          unfold repS Str.length
          simp [List.length_flatten]
        rw [this, Nat.mul_comm]
        omega
def mulD : D → D → Option D
  | .int i, .int j => if (-(2 ^ 64) < i ∧ i < 2 ^ 64) ∨ (-(2 ^ 64) < j ∧ j < 2 ^ 64) then some (.int (i * j)) else none
  | .str a, .int n => if 0 ≤ n ∧ n ≤ 4000000 ∧ a.length * n.toNat ≤ 4000000 then some (.str (repS a n.toNat)) else none
  | .lst a, .int n => if 0 ≤ n ∧ n ≤ 4000000 ∧ a.length * n.toNat ≤ 4000000 then some (.lst (List.replicate n.toNat a).flatten) else none
  | _, _ => none
theorem opd_mul : OpD X (binaryOp .Mult) mulD := by
  refine OpD.of _ (op_mul.or (op_rep_str.or op_rep)) fun z C H d e u x y Q o dx dy g k => ?_
  unfold mulD at g
  split at g
  · obtain ⟨hz, rfl⟩ := ite_of g
    exact .inl ⟨_, _, dn_int.mp dx, dn_int.mp dy, hz, k _ C H (Tr.refl o) (dn_int.mpr rfl)⟩
  · obtain ⟨⟨h1, h2, h3⟩, rfl⟩ := ite_of g
    exact .inr (.inl ⟨_, _, dn_str.mp dx, dn_int.mp dy, h1, h2, h3, k _ C H (Tr.refl o) (dn_str.mpr rfl)⟩)
  · obtain ⟨⟨h1, h2, h3⟩, rfl⟩ := ite_of g
    obtain ⟨a, xs, e1, e2, e3⟩ := dn_lst.mp dx
    have hl : sizeLine = 16777216 := sizeLine_eq
    refine .inr (.inr ⟨a, _, xs, e1, dn_int.mp dy, o.ex _ _ e2, by omega, by omega, by rw [e3.len]; omega, fun p hp => ?_⟩)
    exact k _ _ _ (Tr.put o hp) (dn_new_lst (e3.rep _) (fresh_back o.ex hp))
  · cases g
def negD : D → Option D
  | .int i => some (.int (-i))
  | _ => none
theorem und_neg : UnD X (unaryOp .USub) negD := by
  refine ⟨_, un_neg, fun z C H d u x Q o dx g k => ?_⟩
  unfold negD at g
  split at g
  · cases g
    exact ⟨_, dn_int.mp dx, k _ C H (Tr.refl o) (dn_int.mpr rfl)⟩
  · cases g

/-! ### comparisons -/
def leD : D → D → Option D
  | .int i, .int j => some (.bl (decide (i ≤ j)))
  | _, _ => none
theorem opd_le : OpD X (compareOp .LtE) leD := by
  refine OpD.of _ op_le fun z C H d e u x y Q o dx dy g k => ?_
  unfold leD at g
  split at g
  · cases g
    exact ⟨_, _, dn_int.mp dx, dn_int.mp dy, k _ C H (Tr.refl o) (dn_bl.mpr rfl)⟩
  · cases g
def gtD : D → D → Option D
  | .int i, .int j => some (.bl (decide (j < i)))
  | _, _ => none
theorem opd_gt : OpD X (compareOp .Gt) gtD := by
  refine OpD.of _ op_gt fun z C H d e u x y Q o dx dy g k => ?_
  unfold gtD at g
  split at g
  · cases g
    exact ⟨_, _, dn_int.mp dx, dn_int.mp dy, k _ C H (Tr.refl o) (dn_bl.mpr rfl)⟩
  · cases g
def geD : D → D → Option D
  | .int i, .int j => some (.bl (decide (j ≤ i)))
  | _, _ => none
theorem opd_ge : OpD X (compareOp .GtE) geD := by
  refine OpD.of _ op_ge fun z C H d e u x y Q o dx dy g k => ?_
  unfold geD at g
  split at g
  · cases g
    exact ⟨_, _, dn_int.mp dx, dn_int.mp dy, k _ C H (Tr.refl o) (dn_bl.mpr rfl)⟩
  · cases g
/-- data that == looks at -/
def okEq (d : D) : Bool := d.pf && SeqAt.shaped d.py
def eqD (d e : D) : Option D := if okEq d = true ∧ okEq e = true then some (.bl (PyData.eqv d.py e.py)) else none
def neD (d e : D) : Option D := if okEq d = true ∧ okEq e = true then some (.bl (!PyData.eqv d.py e.py)) else none
theorem okEq_of {d : D} (h : okEq d = true) : d.pf = true ∧ SeqAt.shaped d.py = true := by simpa [okEq] using h
theorem opd_eq (hu : X.A.units + 64 < cLine) : OpD X (compareOp .Eq) eqD := by
  refine OpD.of _ (op_eqD hu) fun z C H d e u x y Q o dx dy g k => ?_
  obtain ⟨⟨h1, h2⟩, rfl⟩ := ite_of g
  exact ⟨d.py, e.py, dx.dp o.ex d x (okEq_of h1).1, dy.dp o.ex e y (okEq_of h2).1, (okEq_of h1).2, (okEq_of h2).2, k _ C H (Tr.refl o) (dn_bl.mpr rfl)⟩
theorem opd_ne (hu : X.A.units + 64 < cLine) : OpD X (compareOp .NotEq) neD := by
  refine OpD.of _ (op_neD hu) fun z C H d e u x y Q o dx dy g k => ?_
  obtain ⟨⟨h1, h2⟩, rfl⟩ := ite_of g
  exact ⟨d.py, e.py, dx.dp o.ex d x (okEq_of h1).1, dy.dp o.ex e y (okEq_of h2).1, (okEq_of h1).2, (okEq_of h2).2, k _ C H (Tr.refl o) (dn_bl.mpr rfl)⟩

/-! ### subscripts -/
def ixD : D → D → Option D
  | .lst xs, .int i => atI xs i
  | .tup xs, .int i => atI xs i
  | .str x, .int i => if szOk x.length = true then (atI x.cps.toList i).map fun c => .str ⟨#[c]⟩ else none
  | _, _ => none
theorem at_dn {K : PySem.W.Frag} {C : Hp} {pu : Addr} {ds : List D} {xs : List V} {i : Int} {d : D} (h : Dns K C pu ds xs) (e : atI ds i = some d) : ∃ v, atI xs i = some v ∧ Dn K C pu d v := by
  unfold atI at e ⊢
  rw [h.len]
  cases hx : ixN ds.length i with
  | none => rw [hx] at e; cases e
  | some j =>
    rw [hx] at e
    exact h.get e
theorem pd_ix {a b : Expr} {ma mb : ME} {pos : Pos} (ha : PD X a ma) (hb : PD X b mb) (hs : PlainIx b) : PD X (.Subscript a b pos) (mOp ixD ma mb) := by
  refine ⟨pe_imp (pe_ix ix_seq ha.run hb.run hs) fun σ H Q q => ?_, mono_op ha.mono hb.mono⟩
  obtain ⟨z, C, env, o, r, q⟩ := q
  refine two (ta := lift X.K ma) (tb := lift X.K mb) o r ha.mono hb.mono q fun d e x y C' H' ⟨w, g, p⟩ t dx dy => ?_
  unfold ixD at g
  split at g
  · obtain ⟨l, xs, e1, e2, e3⟩ := dn_lst.mp dx
    obtain ⟨v, h1, h2⟩ := at_dn e3 g
    exact .inl ⟨l, xs, _, v, e1, dn_int.mp dy, ex_l t.ok.ex (sq_of e2), h1, p v C' H' t h2⟩
  · obtain ⟨l, xs, e1, e2, e3⟩ := dn_tup.mp dx
    obtain ⟨v, h1, h2⟩ := at_dn e3 g
    exact .inr (.inl ⟨l, xs, _, v, e1, dn_int.mp dy, ex_t t.ok.ex e2, h1, p v C' H' t h2⟩)
  · split at g
    · rename_i hz
      obtain ⟨c, h1, rfl⟩ := Option.map_eq_some_iff.mp g
      exact .inr (.inr ⟨_, _, c, dn_str.mp dx, dn_int.mp dy, sz_ok hz, h1, p _ C' H' t (dn_str.mpr rfl)⟩)
    · cases g
  · cases g
/-! ### slices -/
abbrev MO := Env → (Option Int → Prop) → Prop
def liftP (K : PySem.W.Frag) (m : MO) : TO := fun σ H Q => ∃ z C env, Ok z C H ∧ EnvR K z C env σ ∧ m env fun o => ∀ C' H', Tr z C H C' H' → Q o H'
structure PDO' (X : Cx) (e : Option Expr) (m : MO) : Prop where
  run : PO X e (liftP X.K m)
  mono : ∀ env (Q Q' : Option Int → Prop), (∀ d, Q d → Q' d) → m env Q → m env Q'
def moNo : MO := fun _ Q => Q none
def moYes (m : ME) : MO := fun env Q => m env fun d => ∃ i, d = .int i ∧ Q (some i)
theorem po_imp {e : Option Expr} {t t' : TO} (h : PO X e t) (i : ∀ σ H Q, t' σ H Q → t σ H Q) : PO X e t' := ⟨fun pins s σ H Q I q => h.run pins s σ H Q I (i σ H Q q)⟩
theorem pdp_none : PDO' X none moNo := ⟨po_imp po_none fun σ H Q ⟨z, C, env, o, r, q⟩ => q C H (Tr.refl o), fun env Q Q' i q => i _ q⟩
theorem pdp_some {e : Expr} {m : ME} (h : PD X e m) : PDO' X (some e) (moYes m) := by
  refine ⟨po_imp (po_some h.run) fun σ H Q q => ?_, fun env Q Q' i q => h.mono _ _ _ (fun d ⟨j, e, q⟩ => ⟨j, e, i _ q⟩) q⟩
  obtain ⟨z, C, env, o, r, q⟩ := q
  exact lift_use h.mono o r q fun d v C' H' ⟨j, e, p⟩ t dn => ⟨j, dn_int.mp (e ▸ dn), p C' H' t⟩
def cutD {α : Type} (xs : List α) (lo hi : Option Int) : List α := (xs.drop (HT.sIx xs.length 0 lo)).take (HT.sIx xs.length xs.length hi - HT.sIx xs.length 0 lo)
def slD (d : D) (lo hi : Option Int) : Option D := match d with
  | .lst xs => some (.lst (cutD xs lo hi))
  | .tup xs => some (.tup (cutD xs lo hi))
  | .str x => if szOk x.length = true then some (.str ⟨(cutD x.cps.toList lo hi).toArray⟩) else none
  | _ => none
theorem dn_cut {K : PySem.W.Frag} {C : Hp} {pu : Addr} {ds : List D} {xs : List V} {lo hi : Option Int} (h : Dns K C pu ds xs) : Dns K C pu (cutD ds lo hi) (cutV xs lo hi) := by
  unfold cutD cutV
  rw [h.len]
  exact (h.drop _).take _
def mSl (ma : ME) (ml mh : MO) : ME := fun env Q => ma env fun d => ml env fun lo => mh env fun hi => ∃ u, slD d lo hi = some u ∧ Q u
theorem pd_slice {e : Expr} {lo hi : Option Expr} {ma : ME} {ml mh : MO} {pos p2 : Pos} (ha : PD X e ma) (hl : PDO' X lo ml) (hh : PDO' X hi mh) : PD X (.Subscript e (.Slice lo hi none p2) pos) (mSl ma ml mh) := by
  refine ⟨pe_imp (pe_slice (sl_list.or (sl_tupA.or sl_str)) ha.run hl.run hh.run) fun σ H Q q => ?_, fun env Q Q' i q => ha.mono _ _ _ (fun d q => hl.mono _ _ _ (fun l q => hh.mono _ _ _ (fun h ⟨u, g, q⟩ => ⟨u, g, i _ q⟩) q) q) q⟩
  obtain ⟨z, C, env, o, r, q⟩ := q
  refine lift_use ha.mono o r q fun d x C1 H1 q t1 dn => ?_
  refine ⟨z, C1, env, t1.ok, r.mono t1.cc, hl.mono _ _ _ (fun l q C2 H2 t2 => ?_) q⟩
  refine ⟨z, C2, env, t2.ok, (r.mono t1.cc).mono t2.cc, hh.mono _ _ _ (fun h ⟨u, g, p⟩ C3 H3 t3 => ?_) q⟩
  have t23 := t2.trans t3
  have t := t1.trans t23
  have dn3 := dn.mono t23.cc
  have o3 := t.ok
  unfold slD at g
  split at g
  · cases g
    obtain ⟨a, xs, e1, e2, e3⟩ := dn_lst.mp dn3
    exact .inl ⟨a, xs, e1, ex_l o3.ex (sq_of e2), fun q hq => p _ _ _ (t.trans (Tr.put o3 hq)) (dn_new_lst (dn_cut e3) (fresh_back o3.ex hq))⟩
  · cases g
    obtain ⟨a, xs, e1, e2, e3⟩ := dn_tup.mp dn3
    refine .inr (.inl ⟨a, xs, e1, ex_t o3.ex e2, fun hw => ?_, fun _ q hq => p _ _ _ (t.trans (Tr.put o3 hq)) (dn_new_tup (dn_cut e3) (fresh_back o3.ex hq))⟩)
    have e : ∀ es : List D, es.length = xs.length → cutD es l h = es := fun es he => by
      unfold cutD
      rw [he, hw.1, hw.2, List.drop_zero, Nat.sub_zero, ← he]
      exact List.take_length
    rw [e _ e3.len.symm] at p
    exact p _ _ _ t (e1 ▸ dn3)
  · obtain ⟨hz, rfl⟩ := ite_of g
    refine .inr (.inr ⟨_, dn_str.mp dn3, sz_ok hz, p _ _ _ t (dn_str.mpr ?_)⟩)
    rfl
  · cases g

/-! ### built-ins -/
def lenD : List D → Option D
  | [.lst xs] => some (.int xs.length)
  | [.tup xs] => some (.int xs.length)
  | [.str x] => if szOk x.length = true then some (.int x.length) else none
  | _ => none
theorem cd_len : CallD X (.builtin "len") lenD := by
  refine ⟨_, call_len, fun z C H ds u xs Q o dn g k => ?_⟩
  unfold lenD at g
  split at g
  · cases g
    obtain ⟨v, e1, e2⟩ := dns1 dn
    obtain ⟨a, ys, f1, f2, f3⟩ := dn_lst.mp e2
    subst f1
    refine ⟨_, ys.length, e1, .inl ⟨ys, ex_l o.ex (sq_of f2), rfl⟩, ?_⟩
    rw [f3.len]
    exact k _ C H (Tr.refl o) (dn_int.mpr rfl)
  · cases g
    obtain ⟨v, e1, e2⟩ := dns1 dn
    obtain ⟨a, ys, f1, f2, f3⟩ := dn_tup.mp e2
    subst f1
    refine ⟨_, ys.length, e1, .inr ⟨ys, ex_t o.ex f2, rfl⟩, ?_⟩
    rw [f3.len]
    exact k _ C H (Tr.refl o) (dn_int.mpr rfl)
  · obtain ⟨hz, rfl⟩ := ite_of g
    obtain ⟨v, e1, e2⟩ := dns1 dn
    rw [dn_str.mp e2] at e1
    exact ⟨_, _, e1, ⟨sz_ok hz, rfl⟩, k _ C H (Tr.refl o) (dn_int.mpr rfl)⟩
  · cases g
def minD : List D → Option D
  | [.int i, .int j] => some (.int (if j < i then j else i))
  | _ => none
theorem cd_min2 (hc : X.calm = true) : CallD X (.builtin "min") minD := by
  refine ⟨_, call_min2 hc, fun z C H ds u xs Q o dn g k => ?_⟩
  unfold minD at g
  split at g
  · cases g
    obtain ⟨v, w, e1, e2, e3⟩ := dns2 dn
    rw [dn_int.mp e2, dn_int.mp e3] at e1
    exact ⟨_, _, e1, k _ C H (Tr.refl o) (dn_int.mpr rfl)⟩
  · cases g
def ordD : List D → Option D
  | [.str x] => if x.length = 1 then some (.int ((x.cps.getD 0 0 : Nat) : Int)) else none
  | _ => none
theorem cd_ord : CallD X (.builtin "ord") ordD := by
  refine ⟨_, call_ord, fun z C H ds u xs Q o dn g k => ?_⟩
  unfold ordD at g
  split at g
  · obtain ⟨hz, rfl⟩ := ite_of g
    obtain ⟨v, e1, e2⟩ := dns1 dn
    rw [dn_str.mp e2] at e1
    exact ⟨_, e1, hz, k _ C H (Tr.refl o) (dn_int.mpr rfl)⟩
  · cases g
def intD : List D → Option D
  | [.int i] => some (.int i)
  | _ => none
theorem cd_int : CallD X (.type "int") intD := by
  refine ⟨_, call_int1, fun z C H ds u xs Q o dn g k => ?_⟩
  unfold intD at g
  split at g
  · cases g
    obtain ⟨v, e1, e2⟩ := dns1 dn
    rw [dn_int.mp e2] at e1
    exact .inl ⟨_, e1, k _ C H (Tr.refl o) (dn_int.mpr rfl)⟩
  · cases g
def tupleD : List D → Option D
  | [.lst xs] => some (.tup xs)
  | [.tup xs] => some (.tup xs)
  | _ => none
theorem cd_tuple : CallD X (.type "tuple") tupleD := by
  refine ⟨_, call_tuple_of, fun z C H ds u xs Q o dn g k => ?_⟩
  unfold tupleD at g
  split at g
  · cases g
    obtain ⟨v, e1, e2⟩ := dns1 dn
    obtain ⟨a, ys, f1, f2, f3⟩ := dn_lst.mp e2
    subst f1
    exact ⟨a, ys, e1, .inl ⟨ex_l o.ex (sq_of f2), fun l hl => k _ _ _ (Tr.put o hl) (dn_new_tup f3 (fresh_back o.ex hl))⟩⟩
  · cases g
    obtain ⟨v, e1, e2⟩ := dns1 dn
    obtain ⟨a, ys, f1, f2, f3⟩ := dn_tup.mp e2
    have f1' := f1
    subst f1
    exact ⟨a, ys, e1, .inr ⟨ex_t o.ex f2, k _ C H (Tr.refl o) e2⟩⟩
  · cases g
def listD : List D → Option D
  | [.lst xs] => some (.lst xs)
  | [.tup xs] => some (.lst xs)
  | _ => none
theorem cd_list : CallD X (.type "list") listD := by
  refine ⟨_, call_list_of, fun z C H ds u xs Q o dn g k => ?_⟩
  unfold listD at g
  split at g
  · cases g
    obtain ⟨v, e1, e2⟩ := dns1 dn
    obtain ⟨a, ys, f1, f2, f3⟩ := dn_lst.mp e2
    subst f1
    exact ⟨a, ys, e1, .inl (ex_l o.ex (sq_of f2)), fun l hl => k _ _ _ (Tr.put o hl) (dn_new_lst f3 (fresh_back o.ex hl))⟩
  · cases g
    obtain ⟨v, e1, e2⟩ := dns1 dn
    obtain ⟨a, ys, f1, f2, f3⟩ := dn_tup.mp e2
    subst f1
    exact ⟨a, ys, e1, .inr (ex_t o.ex f2), fun l hl => k _ _ _ (Tr.put o hl) (dn_new_lst f3 (fresh_back o.ex hl))⟩
  · cases g
/-- repr of data -/
def okRepr (d : D) : Bool := d.pf && d.py.showable && decide (d.py.depth ≤ 60) && szOk d.py.shown.length
def reprD : List D → Option D
  | [d] => if okRepr d = true then some (.str d.py.shown) else none
  | _ => none
mutual
theorem noDict : ∀ d : D, d.py.hasDict = false
  | .non => rfl
  | .bl b => rfl
  | .int i => rfl
  | .str s => rfl
  | .pur => rfl
  | .tup ds => by simp only [D.py, PyData.hasDict]; exact noDicts ds
  | .lst ds => by simp only [D.py, PyData.hasDict]; exact noDicts ds
theorem noDicts : ∀ ds : List D, PyData.hasDictAll (D.pys ds) = false
  | [] => rfl
  | d :: ds => by simp only [D.pys, PyData.hasDictAll, noDict d, noDicts ds, Bool.or_false]
end
def rRepr (K : PySem.W.Frag) : List V → Hp → VK → Prop := fun xs H Q => ∃ x d, xs = [x] ∧ Dp K H x d ∧ d.showable = true ∧ d.hasDict = false ∧ d.depth ≤ 60 ∧ d.shown.length ≤ 4000000 ∧ Q (.str d.shown) H
theorem call_reprD (hu : X.A.units + 64 < cLine) (hgd : X.A.guards = some []) : CallR X (.builtin "repr") (rRepr X.K) := by
  intro pins s σ H xs us Q I r h
  obtain ⟨x, d, rfl, hd, h1, h2, h3, h4, q⟩ := h
  obtain ⟨u, rfl, ru⟩ := vals1 r
  have hl : sizeLine = 16777216 := sizeLine_eq
  cases hd with
  | non =>
    cases ru
    exact PySem.P.repr_of_none ⟨.str _, H, I.tok _, ⟨_, rfl⟩, q⟩
  | bl b =>
    cases ru
    exact PySem.P.repr_of_bool ⟨.str _, H, I.tok _, ⟨_, rfl⟩, by cases b <;> exact q⟩
  | int i =>
    obtain ⟨t, rfl⟩ := ru
    exact PySem.P.repr_of_int (by simpa [PyData.showable] using h1) ⟨.str _, H, I.tok _, ⟨_, rfl⟩, q⟩
  | str y =>
    obtain ⟨t, rfl⟩ := ru
    have h5 : (reprText y).length ≤ sizeLine := by
      have : (reprText y).length ≤ 4000000 := h4
      omega
    exact PySem.P.repr_of_str ⟨.str _, H, I.tok _, ⟨_, rfl⟩, q⟩ h5
  | lst hs ha =>
    obtain ⟨as, hr⟩ := Dp.reads I _ _ _ (.lst hs ha) ru
    cases ru
    exact repr_of_reads' (h₀ := s.heap) hr h1 (fun e => by rw [h2] at e; cases e) hgd (by omega) (fun _ _ e => e) (fun h' t' tk hk => ⟨.str _, H, I.kept hk, ⟨_, rfl⟩, q⟩) (by omega)
  | tup hs ha =>
    obtain ⟨as, hr⟩ := Dp.reads I _ _ _ (.tup hs ha) ru
    cases ru
    exact repr_of_reads' (h₀ := s.heap) hr h1 (fun e => by rw [h2] at e; cases e) hgd (by omega) (fun _ _ e => e) (fun h' t' tk hk => ⟨.str _, H, I.kept hk, ⟨_, rfl⟩, q⟩) (by omega)
theorem cd_repr (hu : X.A.units + 64 < cLine) (hgd : X.A.guards = some []) : CallD X (.builtin "repr") reprD := by
  refine ⟨_, call_reprD hu hgd, fun z C H ds u xs Q o dn g k => ?_⟩
  unfold reprD at g
  split at g
  · rename_i d
    obtain ⟨hz, rfl⟩ := ite_of g
    obtain ⟨v, e1, e2⟩ := dns1 dn
    have hz' : ((d.pf = true ∧ d.py.showable = true) ∧ d.py.depth ≤ 60) ∧ szOk d.py.shown.length = true := by simpa [okRepr] using hz
    obtain ⟨⟨⟨a, b⟩, c⟩, f⟩ := hz'
    have f' : d.py.shown.length ≤ 4000000 := of_decide_eq_true f
    exact ⟨v, d.py, e1, e2.dp o.ex d v a, b, noDict d, c, f', k _ C H (Tr.refl o) (dn_str.mpr rfl)⟩
  · cases g
end
end BV

/-! The order of data of any depth, sorted, isinstance, join, insert, several targets. -/
namespace BV
open PySem PySem.Spec PyProof.Rows L2 Evl
open PySem.SeqAt (EqAt)

/-! ### < of data -/
inductive LexR (A : Around) (s : Shared) (z : Bool) : List Value → List Value → Bool → Prop where
  | nil {ws : List Value} : LexR A s z [] ws z
  | nil2 {v : Value} {vs : List Value} : LexR A s z (v :: vs) [] z
  | eq {v w : Value} {vs ws : List Value} {b : Bool} : EqAt A.in1 s v w true → LexR A s z vs ws b → LexR A s z (v :: vs) (w :: ws) b
  | ne {v w : Value} {vs ws : List Value} {b : Bool} : EqAt A.in1 s v w false → Ob.RcOp .Lt A.in1 s v w b → LexR A s z (v :: vs) (w :: ws) b
section
open PySem.AutoSeq1 (wpAny_loadPart')
open PySem.MeetsSeq PySem.MeetsSeq2 PySem.MeetsSeq3
theorem lex_meets (l b : Addr) (xs ys : Array Value) (n n2 : Nat) (dd dd2 : Option Addr) (sl sl2 : Array (Option Value)) (res : Bool) :
    Meets (Builtin.«tuple.__lt__» ⟨[.ref l, .ref b], []⟩)
      (fun A R s => s.heap.get? l = some { cls := .type "tuple", dict := dd, data := .seq xs n, slots := sl } ∧ s.heap.get? b = some { cls := .type "tuple", dict := dd2, data := .seq ys n2, slots := sl2 } ∧
        LexR A s (decide (xs.size < ys.size)) xs.toList ys.toList res ∧ R (.ok (.ret (.bool res))) s) :=
  .of_wp fun prog w A R s h => by
    obtain ⟨hp, g, d, tk, os⟩ := s
    obtain ⟨hl, hb, hx, h⟩ := h
    have f2 := AutoSeq1.sub_tuple_tuple
    wp_walk using wpAny_loadPart' hl, wpAny_loadPart' hb, wpAny_forIn_list _ (fun rest b s' => b.1 = none ∧ s' = ⟨hp, g, d, tk, os⟩ ∧ ∃ vs ws, rest = vs.zip ws ∧ LexR A ⟨hp, g, d, tk, os⟩ (decide (xs.size < ys.size)) vs ws res) _
    case turn =>
      rintro ⟨y, x⟩ rest b s' ⟨hb', rfl, vs, ws, hz, hR⟩
      cases hR with
      | nil => rw [List.zip_nil_left] at hz; cases hz
      | nil2 => rw [List.zip_nil_right] at hz; cases hz
      | eq he hr =>
        rw [List.zip_cons_cons] at hz
        injection hz with e1 e2
        cases e1
        refine wpAny_bind (he prog w _ _ ?_)
        wp_walk
        exact ⟨rfl, rfl, _, _, e2, hr⟩
      | ne he hr =>
        rw [List.zip_cons_cons] at hz
        injection hz with e1 e2
        cases e1
        refine wpAny_bind (he prog w _ _ ?_)
        have hri := hr prog w
        wp_walk using hri
        exact ⟨_, rfl, by simpa using h⟩
    case fin =>
      rintro ⟨b1, b2⟩ s' ⟨hb', rfl, vs, ws, hz, hR⟩
      simp only at hb'
      subst hb'
      have e : res = decide (xs.size < ys.size) := by
        cases hR with
        | nil => rfl
        | nil2 => rfl
        | eq he hr => rw [List.zip_cons_cons] at hz; cases hz
        | ne he hr => rw [List.zip_cons_cons] at hz; cases hz
      rw [e] at h
      wp_walk
      exact ⟨_, rfl, by simpa [Builtin.Tuple.tupleCompareSizes] using h⟩
    case h =>
      exact ⟨rfl, rfl, xs.toList, ys.toList, rfl, hx⟩
theorem lex_lt {A : Around} {s : Shared} {l b : Addr} {xs ys : Array Value} {res : Bool} (hl : s.heap.IsTuple l xs) (hb : s.heap.IsTuple b ys) (hu : A.units < cLine) (h : LexR A s (decide (xs.size < ys.size)) xs.toList ys.toList res) :
    Ob.RcOp .Lt A s (.ref l) (.ref b) res := fun prog w E Q q => by
  obtain ⟨⟨cls, dd, data, sl⟩, ho, hc, n, hd⟩ := id hl
  obtain ⟨⟨cls2, dd2, data2, sl2⟩, ho2, hc2, n2, hd2⟩ := id hb
  simp only at hc hd hc2 hd2
  subst hc hd hc2 hd2
  exact richCompare_meets_room (op := .Lt) ⟨_, ho, rfl⟩ ⟨_, ho2, rfl⟩ F.slot_tuple_lt F.entry_tuple_lt (F.args_tuple_lt_2 _ _) (lex_meets l b xs ys n n2 dd dd2 sl sl2 res) ⟨ho, ho2, h, ⟨(fun x => nomatch x), q⟩⟩ hu
end
mutual
def ltO : D → D → Option Bool
  | .int i, e => match e with
    | .int j => some (decide (i < j))
    | _ => none
  | .str a, e => match e with
    | .str b => some (decide (a.cps.toList < b.cps.toList))
    | _ => none
  | .tup xs, e => match e with
    | .tup ys => ltOs xs ys
    | _ => none
  | _, _ => none
def ltOs : List D → List D → Option Bool
  | [], ys => some (!ys.isEmpty)
  | x :: xs, ys => match ys with
    | [] => some false
    | y :: ys => if PyData.eqv x.py y.py = true then ltOs xs ys else ltO x y
end
mutual
theorem lt_reads {s : Shared} : ∀ (d e : D) (b : Bool) (A : Around) (v u : Value) (as bs : List Addr), Reads s.heap v d.py as → Reads s.heap u e.py bs → d.py.canLay0 = true → e.py.canLay0 = true → ltO d e = some b → A.units + d.py.depth + 1 < cLine → Ob.RcOp .Lt A s v u b
  | .int i, e, b, A, v, u, as, bs, r1, r2, c1, c2, h, hu => by
    cases e with
    | int j =>
      simp only [ltO, Option.some.injEq] at h
      subst h
      simp only [D.py] at r1 r2
      cases r1
      cases r2
      exact Ob.RcOp.lt_int _ _ _ _
    | _ => simp [ltO] at h
  | .str x, e, b, A, v, u, as, bs, r1, r2, c1, c2, h, hu => by
    cases e with
    | str y =>
      simp only [ltO, Option.some.injEq] at h
      subst h
      simp only [D.py] at r1 r2
      cases r1
      cases r2
      exact fun prog w E Q q => PyProof.Rows.lt_str q
    | _ => simp [ltO] at h
  | .tup ds, e, b, A, v, u, as, bs, r1, r2, c1, c2, h, hu => by
    cases e with
    | tup es =>
      simp only [ltO] at h
      simp only [D.py] at r1 r2
      cases r1 with
      | tuple h1 h2 h3 h4 =>
        cases r2 with
        | tuple k1 k2 k3 k4 =>
          rename_i o1 v1 n1 a2 o2 v2 n2
          have l1 := PySem.SeqAt.ReadsAll.length _ _ _ h4
          have l2 := PySem.SeqAt.ReadsAll.length _ _ _ k4
          refine lex_lt ⟨_, h1, h2, _, h3⟩ ⟨_, k1, k2, _, k3⟩ (by omega) ?_
          refine lts_reads ds es b A _ _ _ _ _ h4 k4 (by simpa [D.py, PyData.canLay0] using c1) (by simpa [D.py, PyData.canLay0] using c2) h (by simp only [D.py, PyData.depth] at hu; omega) ?_
          have e1 : (D.pys ds).length = ds.length := pys_len ds
          have e2 : (D.pys es).length = es.length := pys_len es
          rw [← Array.length_toList, ← Array.length_toList, l1, l2, e1, e2]
    | _ => simp [ltO] at h
  | .non, e, b, A, v, u, as, bs, r1, r2, c1, c2, h, hu => by simp [ltO] at h
  | .bl _, e, b, A, v, u, as, bs, r1, r2, c1, c2, h, hu => by simp [ltO] at h
  | .lst _, e, b, A, v, u, as, bs, r1, r2, c1, c2, h, hu => by simp [ltO] at h
  | .pur, e, b, A, v, u, as, bs, r1, r2, c1, c2, h, hu => by simp [ltO] at h
theorem lts_reads {s : Shared} : ∀ (ds es : List D) (b : Bool) (A : Around) (z : Bool) (vs us : List Value) (as bs : List Addr), ReadsAll s.heap vs (D.pys ds) as → ReadsAll s.heap us (D.pys es) bs → PyData.canLayAll0 (D.pys ds) = true → PyData.canLayAll0 (D.pys es) = true →
    ltOs ds es = some b → A.units + PyData.depthAll (D.pys ds) + 2 < cLine → z = decide (ds.length < es.length) → LexR A s z vs us b
  | [], es, b, A, z, vs, us, as, bs, r1, r2, c1, c2, h, hu, hz => by
    simp only [D.pys] at r1
    cases r1
    simp only [ltOs, Option.some.injEq] at h
    have : b = z := by
      rw [← h, hz]
      cases es <;> simp
    subst this
    exact .nil
  | d :: ds, [], b, A, z, vs, us, as, bs, r1, r2, c1, c2, h, hu, hz => by
    simp only [D.pys] at r1 r2
    cases r1 with
    | cons h1 h2 =>
      cases r2
      simp only [ltOs, Option.some.injEq] at h
      have : b = z := by rw [← h, hz]; simp
      subst this
      exact .nil2
  | d :: ds, e :: es, b, A, z, vs, us, as, bs, r1, r2, c1, c2, h, hu, hz => by
    simp only [D.pys] at r1 r2
    cases r1 with
    | cons h1 h2 =>
      cases r2 with
      | cons k1 k2 =>
        have c1' : d.py.canLay0 = true ∧ PyData.canLayAll0 (D.pys ds) = true := by simpa [D.pys, PyData.canLayAll0] using c1
        have c2' : e.py.canLay0 = true ∧ PyData.canLayAll0 (D.pys es) = true := by simpa [D.pys, PyData.canLayAll0] using c2
        have hd : A.units + max d.py.depth (PyData.depthAll (D.pys ds)) + 2 < cLine := by simpa [D.pys, PyData.depthAll] using hu
        have heq := PySem.SeqAt.eqAt_reads d.py e.py A.in1 s _ _ _ _ h1 k1 c1'.1 c2'.1 (by show A.units + 1 + _ < _; omega)
        simp only [ltOs] at h
        by_cases hq : PyData.eqv d.py e.py = true
        · rw [if_pos hq] at h
          rw [hq] at heq
          exact .eq heq (lts_reads ds es b A z _ _ _ _ h2 k2 c1'.2 c2'.2 h (by omega) (by rw [hz]; simp))
        · rw [if_neg hq] at h
          rw [Bool.not_eq_true] at hq
          rw [hq] at heq
          exact .ne heq (lt_reads d e b A.in1 _ _ _ _ h1 k1 c1'.1 c2'.1 h (by show A.units + 1 + _ + 1 < _; omega))
theorem pys_len : ∀ ds : List D, (D.pys ds).length = ds.length
  | [] => rfl
  | d :: ds => by simp [D.pys, pys_len ds]
end

/-- everything of it can be looked at: no purse, texts of signs, not too deep -/
theorem canLay_ok {d : D} (h : okEq d = true) : d.py.canLay0 = true := PySem.SeqAt.canLay_of_shaped (okEq_of h).2
theorem depth_ok {d : D} (h : okEq d = true) : d.py.depth ≤ 64 := PySem.SeqAt.depth_of_shaped (okEq_of h).2
def ltD (d e : D) : Option D := if okEq d = true ∧ okEq e = true ∧ d.py.depth ≤ 60 then (ltO d e).map D.bl else none
section
variable {X : Cx}
theorem op_ltO (hu : X.A.units + 64 < cLine) : OpR X (compareOp .Lt) (fun x y H Q => ∃ d e b, Dp X.K H x d.py ∧ Dp X.K H y e.py ∧ d.py.canLay0 = true ∧ e.py.canLay0 = true ∧ ltO d e = some b ∧ d.py.depth ≤ 60 ∧ Q (.bl b) H) := by
  intro pins s σ H x y v u Q I rx ry h
  obtain ⟨d, e, b, h1, h2, c1, c2, hl, hd, q⟩ := h
  obtain ⟨as, r1⟩ := Dp.reads I _ x v h1 rx
  obtain ⟨bs, r2⟩ := Dp.reads I _ y u h2 ry
  exact lt_reads d e b X.A v u as bs r1 r2 c1 c2 hl (by omega) X.prog X.w X.xe _ ⟨.bl b, H, I, rfl, q⟩
theorem opd_lt (hu : X.A.units + 64 < cLine) : OpD X (compareOp .Lt) ltD := by
  refine OpD.of _ (op_ltO hu) fun z C H d e u x y Q o dx dy g k => ?_
  unfold ltD at g
  split at g
  · rename_i hc
    obtain ⟨h1, h2, h3⟩ := hc
    obtain ⟨b, hb, rfl⟩ := Option.map_eq_some_iff.mp g
    exact ⟨d, e, b, dx.dp o.ex d x (okEq_of h1).1, dy.dp o.ex e y (okEq_of h2).1, canLay_ok h1, canLay_ok h2, hb, h3, k _ C H (Tr.refl o) (dn_bl.mpr rfl)⟩
  · cases g
end

/-! ### data is told by its value -/
section
variable {X : Cx} {pins : List (Addr × Obj)} {σ : L2.St} {H : Hp} {s : Shared} {z : Pz} {C : Hp}
theorem pu_no (I : Inv X pins σ H s) (o : Ok z C H) : (∀ xs, ¬ SqT X.K C z.p xs) ∧ ∀ xs, C z.p ≠ some (.lst xs) := by
  refine ⟨fun xs h => ?_, fun xs h => by rw [o.pur.cp] at h; cases h⟩
  obtain ⟨gs, cs, sm, k, h1, _⟩ := o.pur.at_
  obtain ⟨_, _, ⟨ob, e1, e2, _⟩, _⟩ := I.tuple (ex_t o.ex h)
  obtain ⟨_, _, ⟨ob', _, f1, f2, _⟩, _⟩ := I.list (sq_of (K := X.K) h1)
  rw [e1] at f1
  cases f1
  rw [e2] at f2
  exact absurd (Value.type.inj f2) (by decide)
theorem lst_tup_no (I : Inv X pins σ H s) (o : Ok z C H) {a : Addr} {xs ys : List V} (h : C a = some (.lst xs)) (h' : SqT X.K C a ys) : False := by
  obtain ⟨_, _, ⟨ob, e1, e2, _⟩, _⟩ := I.tuple (ex_t o.ex h')
  obtain ⟨_, _, ⟨ob', _, f1, f2, _⟩, _⟩ := I.list (sq_of (K := X.K) (o.ex _ _ h))
  rw [e1] at f1
  cases f1
  rw [e2] at f2
  exact absurd (Value.type.inj f2) (by decide)
mutual
theorem Dn.inj (I : Inv X pins σ H s) (o : Ok z C H) : ∀ (d e : D) (v : V), Dn X.K C z.p d v → Dn X.K C z.p e v → d = e
  | .non, e, v, h, k => by
    have hv := dn_non.mp h
    subst hv
    cases e with
    | non => rfl
    | bl b => cases dn_bl.mp k
    | int i => cases dn_int.mp k
    | str i => cases dn_str.mp k
    | tup ds => obtain ⟨a, xs, e1, _⟩ := dn_tup.mp k; cases e1
    | lst ds => obtain ⟨a, xs, e1, _⟩ := dn_lst.mp k; cases e1
    | pur => cases dn_pur.mp k
  | .bl b, e, v, h, k => by
    have hv := dn_bl.mp h
    subst hv
    cases e with
    | non => cases dn_non.mp k
    | bl b => cases dn_bl.mp k; rfl
    | int i => cases dn_int.mp k
    | str i => cases dn_str.mp k
    | tup ds => obtain ⟨a, xs, e1, _⟩ := dn_tup.mp k; cases e1
    | lst ds => obtain ⟨a, xs, e1, _⟩ := dn_lst.mp k; cases e1
    | pur => cases dn_pur.mp k
  | .int i, e, v, h, k => by
    have hv := dn_int.mp h
    subst hv
    cases e with
    | non => cases dn_non.mp k
    | bl b => cases dn_bl.mp k
    | int i => cases dn_int.mp k; rfl
    | str i => cases dn_str.mp k
    | tup ds => obtain ⟨a, xs, e1, _⟩ := dn_tup.mp k; cases e1
    | lst ds => obtain ⟨a, xs, e1, _⟩ := dn_lst.mp k; cases e1
    | pur => cases dn_pur.mp k
  | .str i, e, v, h, k => by
    have hv := dn_str.mp h
    subst hv
    cases e with
    | non => cases dn_non.mp k
    | bl b => cases dn_bl.mp k
    | int i => cases dn_int.mp k
    | str i => cases dn_str.mp k; rfl
    | tup ds => obtain ⟨a, xs, e1, _⟩ := dn_tup.mp k; cases e1
    | lst ds => obtain ⟨a, xs, e1, _⟩ := dn_lst.mp k; cases e1
    | pur => cases dn_pur.mp k
  | .pur, e, v, h, k => by
    have hv := dn_pur.mp h
    subst hv
    cases e with
    | non => cases dn_non.mp k
    | bl b => cases dn_bl.mp k
    | int i => cases dn_int.mp k
    | str i => cases dn_str.mp k
    | tup ds =>
      obtain ⟨a, xs, e1, e2, _⟩ := dn_tup.mp k
      cases e1
      exact ((pu_no I o).1 _ e2).elim
    | lst ds =>
      obtain ⟨a, xs, e1, e2, _⟩ := dn_lst.mp k
      cases e1
      exact ((pu_no I o).2 _ e2).elim
    | pur => rfl
  | .tup ds, e, v, h, k => by
    obtain ⟨a, xs, e1, e2, e3⟩ := dn_tup.mp h
    subst e1
    cases e with
    | non => cases dn_non.mp k
    | bl b => cases dn_bl.mp k
    | int i => cases dn_int.mp k
    | str i => cases dn_str.mp k
    | tup es =>
      obtain ⟨b, ys, f1, f2, f3⟩ := dn_tup.mp k
      cases f1
      have := I.tuple_inj (ex_t o.ex e2) (ex_t o.ex f2)
      subst this
      rw [Dns.inj I o ds es xs e3 f3]
    | lst es =>
      obtain ⟨b, ys, f1, f2, f3⟩ := dn_lst.mp k
      cases f1
      exact (lst_tup_no I o f2 e2).elim
    | pur =>
      cases dn_pur.mp k
      exact ((pu_no I o).1 _ e2).elim
  | .lst ds, e, v, h, k => by
    obtain ⟨a, xs, e1, e2, e3⟩ := dn_lst.mp h
    subst e1
    cases e with
    | non => cases dn_non.mp k
    | bl b => cases dn_bl.mp k
    | int i => cases dn_int.mp k
    | str i => cases dn_str.mp k
    | tup es =>
      obtain ⟨b, ys, f1, f2, f3⟩ := dn_tup.mp k
      cases f1
      exact (lst_tup_no I o e2 f2).elim
    | lst es =>
      obtain ⟨b, ys, f1, f2, f3⟩ := dn_lst.mp k
      cases f1
      rw [e2] at f2
      cases f2
      rw [Dns.inj I o ds es xs e3 f3]
    | pur =>
      cases dn_pur.mp k
      exact ((pu_no I o).2 _ e2).elim
theorem Dns.inj (I : Inv X pins σ H s) (o : Ok z C H) : ∀ (ds es : List D) (xs : List V), Dns X.K C z.p ds xs → Dns X.K C z.p es xs → ds = es
  | [], es, xs, h, k => by
    rw [dns_nil.mp h] at k
    cases es with
    | nil => rfl
    | cons e es => obtain ⟨v, r, e1, _⟩ := dns_cons.mp k; cases e1
  | d :: ds, es, xs, h, k => by
    obtain ⟨v, r, e1, e2, e3⟩ := dns_cons.mp h
    cases es with
    | nil => rw [dns_nil.mp k] at e1; cases e1
    | cons e es =>
      obtain ⟨v', r', f1, f2, f3⟩ := dns_cons.mp k
      rw [e1] at f1
      cases f1
      rw [Dn.inj I o d e v e2 f2, Dns.inj I o ds es r e3 f3]
end
end

/-! ### sorted of tuples whose first items are tuples -/
/-- such a tuple -/
def tupFirst : D → Bool
  | .tup (.tup _ :: _) => true
  | _ => false
theorem lex_kat {prog : Program} {w : World} {A : Around} {s : Shared} {z b : Bool} {Q : Bool → Shared → Prop} (q : Q b s) : ∀ {vs ws : List Value}, LexR A s z vs ws b → ∀ i, PySem.W.KatLex prog w A.in1 false z Q (vs.zip ws) i s
  | _, _, .nil, i => by rw [List.zip_nil_left]; exact PySem.W.kat_nil q
  | _, _, .nil2, i => by rw [List.zip_nil_right]; exact PySem.W.kat_nil q
  | _, _, .eq he hr, i => by
    rw [List.zip_cons_cons]
    exact PySem.W.kat_cons (he prog w _ _ (PySem.W.kat_yes (lex_kat q hr (i + 1))))
  | _, _, .ne he hr, i => by
    rw [List.zip_cons_cons]
    exact PySem.W.kat_cons (he prog w _ _ (PySem.W.kat_no (PySem.W.kat_one _ _ (hr prog w _ _ q))))
def okSort (d : D) : Bool := tupFirst d && okEq d && decide (d.py.depth ≤ 50)
/-- what stands there is such a tuple -/
theorem kat_tups {h : Heap} : ∀ {us : List Value} {ds : List D}, Paired (fun u d => (∃ as, Reads h u (D.py d) as) ∧ tupFirst d = true) us ds → ∃ fs, PySem.W.KatTups h us fs ∧ fs.length = us.length ∧ ∀ f ∈ fs, ∃ (a : Addr) (o : Obj), f = .ref a ∧ h.get? a = some o ∧ o.cls = .type "tuple"
  | _, _, .nil => ⟨[], PySem.W.KatTups.nil, rfl, fun f m => (nomatch m)⟩
  | u :: us, d :: ds, .cons ⟨⟨as, r⟩, t⟩ hr => by
    obtain ⟨fs, h1, h2, h3⟩ := kat_tups hr
    match d, t, r with
    | .tup (.tup es :: ds'), _, r =>
      simp only [D.py, D.pys] at r
      cases r with
      | tuple k1 k2 k3 k4 =>
        rename_i a o vs n
        obtain ⟨l⟩ := vs
        have k4' : ReadsAll h l (PyData.tuple (D.pys es) :: D.pys ds') _ := k4
        cases k4' with
        | cons m1 m2 =>
          rename_i v vs' as1 bs1
          have m1' := m1
          cases m1 with
          | tuple g1 g2 g3 g4 =>
            rename_i a2 o2 vs2 n2
            refine ⟨.ref a2 :: fs, PySem.W.KatTups.cons k1 k2 k3 (by simp) h1, by simp [h2], fun f m => ?_⟩
            rcases List.mem_cons.mp m with e | m
            · exact ⟨_, _, e, g1, g2⟩
            · exact h3 f m
section
variable {X : Cx}
def rSortT (K : PySem.W.Frag) : List V → Hp → VK → Prop := fun xs H Q => ∃ z C a vs ds, ∃ ltf : D → D → Bool, xs = [V.ref a] ∧ Ok z C H ∧ C a = some (.lst vs) ∧ Dns K C z.p ds vs ∧ (∀ d ∈ ds, okSort d = true) ∧ SrtO.Swo ltf ∧ (∀ d ∈ ds, ∀ e ∈ ds, ltO d e = some (ltf d e)) ∧
  ∀ out outv p, SrtO.Srtd ltf out → SrtO.Stb ltf out ds → Dns K C z.p out outv → H p = none → Q (.ref p) (upd H p (.lst outv))
theorem paired_get {α β : Type} {F : α → β → Prop} : ∀ {l : List α} {m : List β}, l.length = m.length → (∀ (i : Nat) (a : α) (b : β), l[i]? = some a → m[i]? = some b → F a b) → Paired F l m
  | [], [], _, _ => .nil
  | a :: l, b :: m, e, h => .cons (h 0 a b rfl rfl) (paired_get (by simpa using e) fun i x y h1 h2 => h (i + 1) x y (by simpa using h1) (by simpa using h2))
theorem call_sortT (hu : X.A.units + 64 < cLine) : CallR X (.builtin "sorted") (rSortT X.K) := by
  intro pins s σ H xs us Q I r h
  obtain ⟨z, C, a, vs, ds, ltf, rfl, o, ha, dn, hok, O, hlt, q⟩ := h
  obtain ⟨u, rfl, ru⟩ := vals1 r
  obtain rfl : u = Value.ref a := ru
  obtain ⟨its, rv, hl, hz⟩ := I.list (sq_of (K := X.K) (o.ex _ _ ha))
  have e1 := rv.length
  have e2 := dn.len
  -- what a value of the list is
  have known : ∀ i u, its[i]? = some u → ∃ d v, ds[i]? = some d ∧ vs[i]? = some v ∧ RelV v u ∧ Dn X.K C z.p d v := fun i u hi => by
    have hlt' := (List.getElem?_eq_some_iff.mp hi).1
    have hv : vs[i]? = some (vs[i]'(by omega)) := List.getElem?_eq_getElem (by omega)
    obtain ⟨d, h1, h2⟩ := dn.get' hv
    obtain ⟨u', h3, h4⟩ := rv.get hv
    rw [hi] at h3
    cases h3
    exact ⟨d, _, h1, hv, h4, h2⟩
  classical
  let dec : Value → D := fun u => if h : ∃ d v, d ∈ ds ∧ RelV v u ∧ Dn X.K C z.p d v then h.choose else .non
  have decOk : ∀ u, (∃ d v, d ∈ ds ∧ RelV v u ∧ Dn X.K C z.p d v) → ∃ v, dec u ∈ ds ∧ RelV v u ∧ Dn X.K C z.p (dec u) v := fun u h => by
    have := h.choose_spec
    obtain ⟨v, h1, h2, h3⟩ := this
    have e : dec u = h.choose := dif_pos h
    rw [e]
    exact ⟨v, h1, h2, h3⟩
  have decAt : ∀ i u d, its[i]? = some u → ds[i]? = some d → dec u = d := fun i u d hi hd => by
    obtain ⟨d', v, h1, h2, h3, h4⟩ := known i u hi
    rw [hd] at h1
    cases h1
    obtain ⟨v', _, g2, g3⟩ := decOk u ⟨d, v, List.mem_of_getElem? hd, h3, h4⟩
    rw [h3.inj g2] at h4
    exact Dn.inj I o _ _ _ g3 h4
  have decMap : its.map dec = ds := by
    apply List.ext_getElem?
    intro i
    rw [List.getElem?_map]
    cases hi : its[i]? with
    | none =>
      have : ds[i]? = none := by
        rw [List.getElem?_eq_none_iff] at hi ⊢
        omega
      rw [this]
      rfl
    | some u =>
      obtain ⟨d, v, h1, _⟩ := known i u hi
      rw [h1]
      show some (dec u) = some d
      rw [decAt i u d hi h1]
  have mem : ∀ u ∈ its, dec u ∈ ds ∧ ∃ v, RelV v u ∧ Dn X.K C z.p (dec u) v := fun u hu => by
    obtain ⟨i, hi⟩ := List.mem_iff_getElem?.mp hu
    obtain ⟨d, v, h1, h2, h3, h4⟩ := known i u hi
    obtain ⟨v', g1, g2, g3⟩ := decOk u ⟨d, v, List.mem_of_getElem? h1, h3, h4⟩
    exact ⟨g1, v', g2, g3⟩
  have okp : ∀ d ∈ ds, tupFirst d = true ∧ okEq d = true ∧ d.py.depth ≤ 50 := fun d hd => by simpa [okSort, and_assoc] using hok d hd
  have reads : ∀ u ∈ its, ∃ as, Reads s.heap u (dec u).py as := fun u hu => by
    obtain ⟨h1, v, h2, h3⟩ := mem u hu
    exact Dp.reads I _ v u (h3.dp o.ex _ v (okEq_of (okp _ h1).2.1).1) h2
  have isref : ∀ u ∈ its, ∃ t, u = Value.ref t := fun u hu => by
    obtain ⟨h1, v, h2, h3⟩ := mem u hu
    have ht := (okp _ h1).1
    cases hd : dec u with
    | tup es =>
      rw [hd] at h3
      obtain ⟨t, _, e, _⟩ := dn_tup.mp h3
      subst e
      exact ⟨t, h2⟩
    | _ => rw [hd] at ht; cases ht
  have Ov : SrtO.Swo fun u w => ltf (dec u) (dec w) := ⟨fun x y => O.asym _ _, fun x y z => O.tr _ _ _⟩
  refine SrtO.sorted_ord (ltv := fun u w => ltf (dec u) (dec w)) Ov hl.isList (by rw [← e1]; exact hz) (fun h2 h₁ a' ha' kk => ?_) fun out hs hb => ?_
  · intro h' keep
    have kp : ∀ b ob, s.heap.get? b = some ob → h'.get? b = some ob := fun b ob e => keep b ob (kk b ob e).1 (kk b ob e).2
    have reads' : ∀ u ∈ its, ∃ as, Reads h' u (dec u).py as := fun u hu => let ⟨as, r⟩ := reads u hu; ⟨as, Reads.keeps kp r⟩
    obtain ⟨fs, f1, f2, f3⟩ := kat_tups (h := h') (us := its) (ds := ds) (paired_get (by omega) fun i u d h1 h2 => by
      rw [← decAt i u d h1 h2]
      have hm := List.mem_of_getElem? h1
      exact ⟨reads' u hm, (okp _ (mem u hm).1).1⟩)
    refine ⟨tuples' false, fun Q' E' hq => ?_, fun p q' hp hq' => ?_⟩
    · refine PySem.W.kat_kind (T := .type "tuple") f1 (by omega) (fun f hf => ?_) (by rfl) ?_
      · obtain ⟨b, ob, rfl, g1, g2⟩ := f3 f hf
        have : PySem.W.Looks (model X.prog X.w) h' (typeOf (.ref b)) ob.cls := (PySem.W.Looks.ld g1).andThen .now
        rw [g2] at this
        exact this
      · exact hq
    · have hp1 : p.1 ∈ its := hp
      have hq1 : q'.1 ∈ its := hq'
      obtain ⟨as, r1⟩ := reads' _ hp1
      obtain ⟨bs, r2⟩ := reads' _ hq1
      have hb := hlt _ (mem _ hp1).1 _ (mem _ hq1).1
      have o1 := okp _ (mem _ hp1).1
      have o2 := okp _ (mem _ hq1).1
      show wpAny (model X.prog X.w) X.A.in1.in1 (keyLt' (tuples' false) p.1 q'.1) (fun r s' => s' = { s with heap := h' } ∧ r = ltf (dec p.1) (dec q'.1)) (fun _ _ => False) { s with heap := h' }
      generalize hd1 : dec p.1 = d1 at r1 hb o1 ⊢
      generalize hd2 : dec q'.1 = d2 at r2 hb o2 ⊢
      match d1, d2, o1.1, o2.1, r1, r2, hb, o1, o2 with
      | .tup es, .tup gs, _, _, r1, r2, hb, o1, o2 =>
        simp only [D.py] at r1 r2
        generalize hp0 : p.1 = p1 at r1 ⊢
        generalize hq0 : q'.1 = q1 at r2 ⊢
        cases r1 with
        | tuple k1 k2 k3 k4 =>
          cases r2 with
          | tuple m1 m2 m3 m4 =>
            rename_i a1 ob1 v1 n1 a2 ob2 v2 n2
            simp only [ltO] at hb
            have g1 := PySem.SeqAt.ReadsAll.length _ _ _ k4
            have g2 := PySem.SeqAt.ReadsAll.length _ _ _ m4
            have c1 := canLay_ok o1.2.1
            have c2 := canLay_ok o2.2.1
            have hdep := o1.2.2
            simp only [D.py, PyData.depth] at hdep
            have lx := lts_reads (s := { s with heap := h' }) es gs _ X.A.in1 (decide (v1.size < v2.size)) _ _ _ _ k4 m4 (by simpa [D.py, PyData.canLay0] using c1) (by simpa [D.py, PyData.canLay0] using c2) hb (by show X.A.units + 1 + _ + 2 < _; omega)
              (by rw [← Array.length_toList, ← Array.length_toList, g1, g2, pys_len, pys_len])
            exact PySem.W.kat_lt (s := { s with heap := h' }) k1 k3 m1 m3 (lex_kat (Q := fun r s' => s' = { s with heap := h' } ∧ r = ltf (.tup es) (.tup gs)) ⟨rfl, rfl⟩ lx 0)
  · have memo : ∀ u ∈ out, u ∈ its := fun u hu => hb.perm.mem_iff.mp hu
    have hbm : SrtO.Stb ltf (out.map dec) ds := by
      have := SrtO.Stb.map O dec hb
      rwa [decMap] at this
    obtain ⟨ep, he'⟩ := PyProof.Rows.sortedAll_at s.heap its out.toArray
    have dno : Dns X.K C z.p (out.map dec) (out.map backV) := by
      have : ∀ l : List Value, (∀ u ∈ l, u ∈ its) → Dns X.K C z.p (l.map dec) (l.map backV) := by
        intro l
        induction l with
        | nil => intro _; exact dns_nil.mpr rfl
        | cons u l ih =>
          intro hl'
          have hu' := hl' u (by simp)
          obtain ⟨h1, v, h2, h3⟩ := mem u hu'
          obtain ⟨t, rfl⟩ := isref u hu'
          have : v = .ref t := h2.inj (show RelV (.ref t) (.ref t) from rfl)
          subst this
          exact dns_cons.mpr ⟨_, _, rfl, h3, ih fun w hw => hl' w (by simp [hw])⟩
      exact this out memo
    have hlen : (out.map backV).length ≤ sizeLine := by
      rw [List.length_map, hb.len, ← e1]
      exact hz
    refine ⟨.ref _, upd H (s.heap.objs.size + 1) (.lst (out.map backV)), I.laid (t' := s.toks) (fun _ _ => PyProof.Rows.sortedAll_old) (Nat.le_succ _) ⟨hlen, out, ep, vals_back fun u hu => isref u (memo u hu), he'⟩, rfl, ?_⟩
    exact q _ _ _ (SrtO.srtd_map hs) hbm dno (I.hok.fresh (Nat.le_succ _))
/-- calls that leave something open: r tells what may come of the data -/
def CallP (X : Cx) (f : Value) (r : List D → (D → Prop) → Prop) : Prop :=
  (∃ R : List V → Hp → VK → Prop, CallR X f R ∧ ∀ (z : Pz) (C H : Hp) (ds : List D) (T : D → Prop) (xs : List V) (Q : VK), Ok z C H → Dns X.K C z.p ds xs → r ds T → (∀ d v C' H', T d → Tr z C H C' H' → Dn X.K C' z.p d v → Q v H') → R xs H Q) ∧
    ∀ ds (T T' : D → Prop), (∀ d, T d → T' d) → r ds T → r ds T'
def mCP (r : List D → (D → Prop) → Prop) (m : MA) : ME := fun env T => m env fun ds => r ds T
theorem pd_callP {x : Str} {e : Expr} {p pos : Pos} {es : List Expr} {m : MA} {id : String} {r : List D → (D → Prop) → Prop} (hc : CallP X (.builtin id) r) (hg : Gl X x) (hm : X.mg x = none) (hv : bootBuiltins x = some (.builtin id)) (h : PDA X (e :: es) m)
    (hn : x ≠ "__name__" := by decide) (hdb : (x == ("__debug__" : Str)) = false := by decide) (he : starEach (e :: es) X.env = (false, eval e X.env) :: starEach es X.env := by rfl) (hpl : (backTo pos (starEach es X.env)).any (·.1) = false := by rfl) :
    PD X (.Call (.Name x p) (e :: es) [] pos) (mCP r m) := by
  obtain ⟨⟨R, hR, hi⟩, hmo⟩ := hc
  refine ⟨pe_imp (pe_callB hR hg hm hv h.run hn hdb he hpl) fun σ H Q q => ?_, fun env Q Q' i q => h.mono env _ _ (fun ds q => hmo ds _ _ i q) q⟩
  obtain ⟨z, C, env, o, r, q⟩ := q
  exact liftA_use h.mono o r q fun ds vs C' H' q t dn => hi z C' H' ds _ vs Q t.ok dn q fun d v C2 H2 hT t2 dn2 => hT v C2 H2 (t.trans t2) dn2
def sortedP (ds : List D) (T : D → Prop) : Prop := ∃ xs, ∃ ltf : D → D → Bool, ds = [.lst xs] ∧ (∀ d ∈ xs, okSort d = true) ∧ SrtO.Swo ltf ∧ (∀ d ∈ xs, ∀ e ∈ xs, ltO d e = some (ltf d e)) ∧ ∀ out, SrtO.Srtd ltf out → SrtO.Stb ltf out xs → T (.lst out)
theorem cp_sorted (hu : X.A.units + 64 < cLine) : CallP X (.builtin "sorted") sortedP := by
  refine ⟨⟨_, call_sortT hu, fun z C H ds T xs Q o dn ⟨ys, ltf, e, h1, O, h2, h3⟩ k => ?_⟩, fun ds T T' i ⟨ys, ltf, e, h1, O, h2, h3⟩ => ⟨ys, ltf, e, h1, O, h2, fun out a b => i _ (h3 out a b)⟩⟩
  subst e
  obtain ⟨v, e1, e2⟩ := dns1 dn
  obtain ⟨a, vs, f1, f2, f3⟩ := dn_lst.mp e2
  rw [f1] at e1
  exact ⟨z, C, a, vs, ys, ltf, e1, o, f2, f3, h1, O, h2, fun out outv p s1 s2 dno hp => k _ _ _ _ (h3 out s1 s2) (Tr.put o hp) (dn_new_lst dno (fresh_back o.ex hp))⟩
end
end BV

/-! isinstance, join, insert, several targets at once. -/
namespace BV
open PySem PySem.Spec PyProof.Rows L2 Evl

section
variable {X : Cx} {pos : Pos}
/-! ### isinstance(x, T) -/
def tyN : D → Option String
  | .non => some "NoneType"
  | .bl _ => some "bool"
  | .int _ => some "int"
  | .str _ => some "str"
  | .tup _ => some "tuple"
  | .lst _ => some "list"
  | .pur => none
def isiD (T : String) (d : D) : Option Bool := (tyN d).bind fun n => kitB n T
def mIsi (T : String) (m : ME) : ME := fun env Q => m env fun d => ∃ b, isiD T d = some b ∧ Q (.bl b)
theorem tyX_of {z : Pz} {C H : Hp} (o : Ok z C H) {d : D} {v : V} {n : String} (dn : Dn X.K C z.p d v) (h : tyN d = some n) : TyX X.K H v (.type n) := by
  cases d with
  | non => cases h; rw [dn_non.mp dn]; exact .base .non
  | bl b => cases h; rw [dn_bl.mp dn]; exact .base (.bl b)
  | int i => cases h; rw [dn_int.mp dn]; exact .base (.int i)
  | str i => cases h; rw [dn_str.mp dn]; exact .base (.str i)
  | tup ds =>
    cases h
    obtain ⟨a, xs, e1, e2, e3⟩ := dn_tup.mp dn
    subst e1
    rcases ex_t o.ex e2 with (h | ⟨ob, h⟩) | ⟨ob, its, k, hk, hc, _⟩
    · exact .base (.tup h)
    · exact .fTuple h
    · exact .kTuple hk hc
  | lst ds =>
    cases h
    obtain ⟨a, xs, e1, e2, e3⟩ := dn_lst.mp dn
    subst e1
    exact .base (.lst (o.ex _ _ e2))
  | pur => cases h
theorem pd_isi {e : Expr} {m : ME} {T : String} {p pt : Pos} (h : PD X e m) (hm : X.mg "isinstance" = none) (hT : X.mg T = none) (hv : bootBuiltins T = some (.type T)) (hg : Gl X "isinstance" := by rfl) (hgT : Gl X T := by rfl)
    (hn : (Str.ofString T) ≠ "__name__" := by decide) (hdb : ((Str.ofString T) == ("__debug__" : Str)) = false := by decide)
    (s1 : starEach [e, .Name T pt] X.env = (false, eval e X.env) :: starEach [.Name T pt] X.env := by rfl) (s2 : starEach [Expr.Name T pt] X.env = (false, eval (.Name T pt) X.env) :: starEach [] X.env := by rfl) (hpl : ((backTo pos (starEach [.Name T pt] X.env)).any fun x => x.1) = false := by rfl) :
    PD X (.Call (.Name "isinstance" p) [e, .Name T pt] [] pos) (mIsi T m) := by
  refine ⟨pe_imp (pe_callB call_isi hg hm boot_isinstance (pa_cons h.run (pa_cons (pe_bltn (v := .ty T) hgT hT hv rfl hn hdb) pa_nil s2) s1) (by decide) (by decide) s1 hpl) fun σ H Q q => ?_, fun env Q Q' i q => h.mono _ _ _ (fun d ⟨b, g, q⟩ => ⟨b, g, i _ q⟩) q⟩
  obtain ⟨z, C, env, o, r, q⟩ := q
  refine lift_use h.mono o r q fun d v C' H' ⟨b, g, p⟩ t dn => ?_
  unfold isiD at g
  cases hn' : tyN d with
  | none => rw [hn'] at g; cases g
  | some n =>
    rw [hn'] at g
    exact ⟨v, .ty T, .type n, .type T, b, rfl, .ty T, tyX_of t.ok dn hn', kit_ty g, p _ C' H' t (dn_bl.mpr rfl)⟩

/-! ### sep.join(a list of texts) -/
def strsOf : List D → Option (List Str)
  | [] => some []
  | .str x :: r => (strsOf r).map (x :: ·)
  | _ => none
theorem strs_dn {K : PySem.W.Frag} {C : Hp} {pu : Addr} : ∀ {ds : List D} {ys : List Str} {xs : List V}, strsOf ds = some ys → Dns K C pu ds xs → xs = ys.map V.str
  | [], ys, xs, h, dn => by cases h; rw [dns_nil.mp dn]; rfl
  | .str x :: r, ys, xs, h, dn => by
    simp only [strsOf] at h
    obtain ⟨ys', h1, rfl⟩ := Option.map_eq_some_iff.mp h
    obtain ⟨v, w, e1, e2, e3⟩ := dns_cons.mp dn
    rw [e1, dn_str.mp e2, strs_dn h1 e3]
    rfl
def mJoin (mo me : ME) : ME := fun env Q => mo env fun s => ∃ x, s = .str x ∧ me env fun d => ∃ ds ys, d = .lst ds ∧ strsOf ds = some ys ∧ (ys.map (·.length)).sum + ys.length * x.length ≤ 4000000 ∧ Q (.str (Txt.join x ys))
theorem pd_join {o e : Expr} {mo me : ME} {apos : Pos} (ho : PD X o mo) (he : PD X e me) (hs : starEach [e] X.env = [(false, eval e X.env)] := by rfl) (hb : attributeBase o "join" X.env (eval o X.env) = eval o X.env := by rfl) (hl : (apos.endLine == pos.line) = true := by rfl) :
    PD X (.Call (.Attribute o "join" apos) [e] [] pos) (mJoin mo me) := by
  refine ⟨pe_imp (pe_join ho.run he.run hs hb hl) fun σ H Q q => ?_, fun env Q Q' i q => ho.mono _ _ _ (fun s ⟨x, e, q⟩ => ⟨x, e, he.mono _ _ _ (fun d ⟨ds, ys, a, b, c, q⟩ => ⟨ds, ys, a, b, c, i _ q⟩) q⟩) q⟩
  obtain ⟨z, C, env, ok, r, q⟩ := q
  refine lift_use ho.mono ok r q fun d v C' H' ⟨x, ed, p⟩ t dn => ?_
  subst ed
  refine ⟨⟨x, dn_str.mp dn⟩, lift_use he.mono t.ok (r.mono t.cc) p fun d2 w C2 H2 ⟨ds, ys, e1, e2, e3, p⟩ t2 dn2 => ?_⟩
  subst e1
  obtain ⟨a, xs, f1, f2, f3⟩ := dn_lst.mp dn2
  have := strs_dn e2 f3
  subst this
  exact ⟨x, a, ys, dn_str.mp dn, by rw [f1], .inl (ex_l t2.ok.ex (sq_of f2)), by omega, p _ C2 H2 (t.trans t2) (dn_str.mpr rfl)⟩

/-! ### several values under one view -/
def aftL (rs : List Nat) (ds : List D) (env : SEnv) : SEnv := if D.lfs ds = true then env else frz rs 0 env
theorem SR.useA {K : PySem.W.Frag} {z : Pz} {C0 H0 Cb C H : Hp} {env : SEnv} {σ : L2.St} (s : SR K z C0 H0 Cb C env σ H) {m : MA} {P : List D → Prop} {Q : List V → Hp → Prop} (rs : List Nat) (hm : MonoA m) (q : m (view rs 0 env) P)
    (k : ∀ ds vs C' H', P ds → SR K z C0 H0 Cb C' (aftL rs ds env) σ H' → Dns K C' z.p ds vs → Q vs H') : liftA K m σ H Q := by
  refine ⟨z, _, _, s.okP rs, s.envP rs, hm _ _ _ (fun ds p vs C' H' t dn => ?_) q⟩
  by_cases hd : D.lfs ds = true
  · refine k ds vs (coreM rs env σ C') H' p ?_ (dn.lf (s.tupSub rs t) ds vs hd)
    unfold aftL
    rw [if_pos hd]
    exact s.thaw rs t
  · refine k ds vs C' H' p ?_ dn
    unfold aftL
    rw [if_neg hd]
    exact s.frozen rs t
/-- a, b = e1, e2 (plain local names) -/
def mPar2 (rs : List Nat) (i j : Nat) (m : MA) : MS := fun E env => m (view rs 0 env) fun ds => ∃ d e, ds = [d, e] ∧ E.nx (((aftL rs ds env).set i (some (false, d))).set j (some (false, e)))
theorem pds_par2 (rs : List Nat) {i j : Nat} {st : Stmt} {m : MA} {es : List Expr} (h : PDA X es m) (hp : PS X st (tPar i j (liftA X.K m))) : PDS X st (mPar2 rs i j m) := by
  refine ⟨fun z C0 H0 Cb => ps_imp hp fun N σ H ⟨C, env, s, q⟩ => ?_, fun E E' env l q => h.mono _ _ _ (fun ds ⟨d, e, a, q⟩ => ⟨d, e, a, l.nx _ q⟩) q⟩
  refine s.useA rs h.mono q fun ds vs C' H' ⟨d, e, g, p⟩ s' dn => ?_
  subst g
  obtain ⟨v, w, e1, e2, e3⟩ := dns2 dn
  exact ⟨v, w, e1, p _ C' H' ((s'.set i e2).set j e3)⟩
def mPar3 (rs : List Nat) (i j l : Nat) (m : MA) : MS := fun E env => m (view rs 0 env) fun ds => ∃ d e f, ds = [d, e, f] ∧ E.nx ((((aftL rs ds env).set i (some (false, d))).set j (some (false, e))).set l (some (false, f)))
theorem pds_par3 (rs : List Nat) {i j l : Nat} {st : Stmt} {m : MA} {es : List Expr} (h : PDA X es m) (hp : PS X st (tPar3 i j l (liftA X.K m))) : PDS X st (mPar3 rs i j l m) := by
  refine ⟨fun z C0 H0 Cb => ps_imp hp fun N σ H ⟨C, env, s, q⟩ => ?_, fun E E' env l q => h.mono _ _ _ (fun ds ⟨d, e, f, a, q⟩ => ⟨d, e, f, a, l.nx _ q⟩) q⟩
  refine s.useA rs h.mono q fun ds vs C' H' ⟨d, e, f, g, p⟩ s' dn => ?_
  subst g
  obtain ⟨v, r, e1, e2, e3⟩ := dns_cons.mp dn
  obtain ⟨w, u, e4, e5, e6⟩ := dns2 e3
  rw [e4] at e1
  exact ⟨v, w, u, e1, p _ C' H' (((s'.set i e2).set j e5).set l e6)⟩
/-- any target = e -/
def mAsgT (rs : List Nat) (t : Tgt) (me : ME) : MS := fun E env => me (view rs 0 env) fun d => ∃ env', t.put shd d (aft rs d env) = some env' ∧ E.nx env'
theorem pds_asgT (rs : List Nat) {t : Tgt} {st : Stmt} {e : Expr} {me : ME} (h : PD X e me) (hp : PS X st (tAsg (lift X.K me) (t.g X.K))) : PDS X st (mAsgT rs t me) := by
  refine ⟨fun z C0 H0 Cb => ps_imp hp fun N σ H ⟨C, env, s, q⟩ => ?_, fun E E' env l q => h.mono _ _ _ (fun d ⟨env', a, q⟩ => ⟨env', a, l.nx _ q⟩) q⟩
  exact s.use rs h.mono q fun d v C' H' ⟨env', g, p⟩ s' dn => s'.put dn g fun σ' s2 => p _ C' H' s2

/-! ### x.insert(i, e), x an own list -/
def mIns (rs : List Nat) (i : Nat) (m : MA) : MS := fun E env => (∃ ds0, env[i]? = some (some (true, .lst ds0))) ∧ m (view rs 0 env) fun as => ∃ n d ds, as = [.int n, d] ∧ (aftL rs as env)[i]? = some (some (true, .lst ds)) ∧ szOk (ds.length + 1) = true ∧ 0 ≤ n ∧ n ≤ 4000000 ∧
  E.nx ((aftL rs as env).set i (some (true, .lst (ds.take n.toNat ++ [d] ++ ds.drop n.toNat))))
theorem pds_ins (rs : List Nat) {i : Nat} {o e1 e2 : Expr} {apos cpos : Pos} {m : MA} (ho : PE X o (tVar i)) (h : PDA X [e1, e2] m)
    (h1 : attributeBase o "insert" X.env (eval o X.env) = eval o X.env := by rfl)
    (h2 : ((((backTo cpos (starEach [e1, e2] X.env)).all fun x => !x.1) && ((backToKw cpos (keywordEach [] X.env)).all fun x => x.1.isSome) && decide (([e1, e2] : List Expr).length + ([] : List Keyword).length + (if ([] : List Keyword).isEmpty = true then 0 else 1) < 30)) = true) := by rfl)
    (h3 : (apos.endLine == cpos.line) = true := by rfl) (h4 : starEach [e1, e2] X.env = (false, eval e1 X.env) :: starEach [e2] X.env := by rfl) (h5 : ((backTo cpos (starEach [e2] X.env)).any fun x => x.1) = false := by rfl)
    (hs : swapsWith (.Call (.Attribute o "insert" apos) [e1, e2] [] cpos) none pos.line X.env = pure false := by rfl) : PDS X (.Expr (.Call (.Attribute o "insert" apos) [e1, e2] [] cpos) pos) (mIns rs i m) := by
  refine ⟨fun z C0 H0 Cb => ps_imp (ps_expr (pe_bm PySem.F.plainAttrs_list PySem.F.slot_list_insert PySem.F.type_list_insert mt_insert ho h.run h1 h2 h3 h4 h5) hs) fun N σ H ⟨C, env, s, q⟩ => ?_,
    fun E E' env l ⟨q0, q⟩ => ⟨q0, h.mono _ _ _ (fun as ⟨n, d, ds, a, b, c, f, g, q⟩ => ⟨n, d, ds, a, b, c, f, g, l.nx _ q⟩) q⟩⟩
  obtain ⟨⟨ds0, h0⟩, q⟩ := q
  obtain ⟨a, _, xs, _, ea, _, eH, _⟩ := s.own i _ h0
  refine ⟨.ref a, ea, .inl ⟨rfl, xs, sq_of eH⟩, ?_⟩
  refine s.useA rs h.mono q fun as vs C' H' ⟨n, d, ds, g, e1', hz, hn0, hn, p⟩ s' dn => ?_
  subst g
  obtain ⟨v, w, f1, f2, f3⟩ := dns2 dn
  rw [dn_int.mp f2] at f1
  obtain ⟨b, ds', ys, g1, g2, g3, g4, g5, g6⟩ := s'.own i _ e1'
  rw [ea] at g2
  cases g2
  cases g1
  have hl := g5.len
  refine ⟨a, ys, n, w, rfl, f1, g4, sz_lt (by unfold szOk at hz ⊢; rw [hl]; simp at hz ⊢; omega), hn0, by omega, ?_⟩
  exact p σ C' _ (s'.write e1' ea (((g5.take _).app (Dns.one f3)).app (g5.drop _)))
end
end BV

/-! Short forms for printed proofs; the purse and its draws. -/
namespace BV
open PySem PySem.Spec PyProof.Rows L2 Evl

section
variable {X : Cx} {pos : Pos} {e : Expr} {me : ME}
theorem pd_v (i : Nat) {x : Str} (hN : X.N[i]? = some x := by rfl) (hv : Vis X.env.scope x := by first | exact Or.inl rfl | exact Or.inr (Or.inl rfl) | exact Or.inr (Or.inr rfl)) (hd : (x == ("__debug__" : Str)) = false := by decide) (hcd : (x == ("__classdict__" : Str)) = false := by decide) : PD X (.Name x pos) (mVar i) :=
  pd_var i (pe_var hN hv hd hcd)
theorem pds_set (rs : List Nat) (i : Nat) {x : Str} {py : Pos} (hN : X.N.Nodup) (h : PD X e me) (hi : X.N[i]? = some x := by rfl) (hx : Loc X.env.scope x := by first | exact Or.inl rfl | exact Or.inr rfl) (hs : swapsWith e (some (.Name x py)) pos.line X.env = pure false := by rfl)
    (hf : X.fn x = true ∨ X.env.scope.names.lookup x = some .local := by first | exact .inl rfl | exact .inr rfl) : PDS X (.Assign [.Name x py] e pos) (mAsg rs i me) := pds_asg rs h (ps_set hN hi hx h.run hs hf)
theorem pds_setO (rs : List Nat) (i : Nat) {x : Str} {py : Pos} {m : MA} (hN : X.N.Nodup) (h : PDO X e m) (hi : X.N[i]? = some x := by rfl) (hx : Loc X.env.scope x := by first | exact Or.inl rfl | exact Or.inr rfl) (hs : swapsWith e (some (.Name x py)) pos.line X.env = pure false := by rfl)
    (hf : X.fn x = true ∨ X.env.scope.names.lookup x = some .local := by first | exact .inl rfl | exact .inr rfl) : PDS X (.Assign [.Name x py] e pos) (mAsgO rs i m) := pds_asgO rs h (ps_set hN hi hx h.run hs hf)
theorem pgt_nm (i : Nat) {x : Str} (hN : X.N.Nodup) (hi : X.N[i]? = some x := by rfl) (hx : Loc X.env.scope x := by first | exact Or.inl rfl | exact Or.inr rfl) (hf : X.fn x = true ∨ X.env.scope.names.lookup x = some .local := by first | exact .inl rfl | exact .inr rfl) : PG X (.Name x pos) ((Tgt.nm i).g X.K) := pg_name hN hi hx hf
theorem pgs_nm (i : Nat) {x : Str} {is : List Nat} {es : List Expr} (hN : X.N.Nodup) (k : PGs X es (gNs is)) (hi : X.N[i]? = some x := by rfl) (hx : Loc X.env.scope x := by first | exact Or.inl rfl | exact Or.inr rfl) (hf : X.fn x = true ∨ X.env.scope.names.lookup x = some .local := by first | exact .inl rfl | exact .inr rfl)
    (hs : (assignEach (.Name x pos :: es) X.env).map (·.2) = assign (.Name x pos) X.env :: (assignEach es X.env).map (·.2) := by rfl) : PGs X (.Name x pos :: es) (gNs (i :: is)) := pgs_cons (pg_name hN hi hx hf) k hs
theorem pgs_end : PGs X [] (gNs []) := pgs_nil
theorem pgt_tp {is : List Nat} {es : List Expr} {k : Nat} (hc : X.calm = true) (h : PGs X es (gNs is)) (hn : (assignEach es X.env).length = is.length := by rfl) (hst : (assignEach es X.env).findIdx? (·.1) = none := by rfl) : PG X (.Tuple es k pos) ((Tgt.tp is).g X.K) := pg_tup hc h hn hst
theorem pds_p2 (rs : List Nat) (i j : Nat) {x y : Str} {a b : Expr} {m : MA} {px py pt pt2 : Pos} {kt k2 : Nat} (hc : X.calm = true) (hN : X.N.Nodup) (h : PDA X [a, b] m) (hi : X.N[i]? = some x := by rfl) (hj : X.N[j]? = some y := by rfl) (hij : i ≠ j := by decide)
    (hx : X.env.scope.names.lookup x = some .local := by rfl) (hy : X.env.scope.names.lookup y = some .local := by rfl) (hw : swappedStores [.Tuple [.Name x px, .Name y py] kt pt] (.Tuple [a, b] k2 pt2) X.env = pure (some [x, y]) := by rfl)
    (hs : swapsWithSole [.Tuple [.Name x px, .Name y py] kt pt] (.Tuple [a, b] k2 pt2) pos.line X.env = pure false := by rfl) : PDS X (.Assign [.Tuple [.Name x px, .Name y py] kt pt] (.Tuple [a, b] k2 pt2) pos) (mPar2 rs i j m) :=
  pds_par2 rs h (ps_par hc hN hi hj hij hx hy h.run hw hs)
theorem pds_p3 (rs : List Nat) (i j l : Nat) {x y z : Str} {a b c : Expr} {m : MA} {px py pz pt pt2 : Pos} {kt k2 : Nat} (hc : X.calm = true) (hN : X.N.Nodup) (h : PDA X [a, b, c] m) (hi : X.N[i]? = some x := by rfl) (hj : X.N[j]? = some y := by rfl) (hl : X.N[l]? = some z := by rfl) (hij : i ≠ j := by decide) (hil : i ≠ l := by decide) (hjl : j ≠ l := by decide)
    (hx : X.env.scope.names.lookup x = some .local := by rfl) (hy : X.env.scope.names.lookup y = some .local := by rfl) (hz : X.env.scope.names.lookup z = some .local := by rfl)
    (hw : swappedStores [.Tuple [.Name x px, .Name y py, .Name z pz] kt pt] (.Tuple [a, b, c] k2 pt2) X.env = pure (some [x, y, z]) := by rfl)
    (hs : swapsWithSole [.Tuple [.Name x px, .Name y py, .Name z pz] kt pt] (.Tuple [a, b, c] k2 pt2) pos.line X.env = pure false := by rfl) : PDS X (.Assign [.Tuple [.Name x px, .Name y py, .Name z pz] kt pt] (.Tuple [a, b, c] k2 pt2) pos) (mPar3 rs i j l m) :=
  pds_par3 rs h (ps_par3 hc hN hi hj hl hij hil hjl hx hy hz h.run hw hs)
/-- any targets (among them cells) = a tuple -/
theorem pds_tt (rs : List Nat) {t : Tgt} {tg : Expr} (h : PD X e me) (hg : PG X tg (t.g X.K)) (hs : swapsWithSole [tg] e pos.line X.env = pure false := by rfl) (hw : swappedStores [tg] e X.env = pure none := by rfl)
    (h1 : (assignEach [tg] X.env).map (·.2) = [assign tg X.env] := by rfl) : PDS X (.Assign [tg] e pos) (mAsgT rs t me) := pds_asgT rs h (ps_asg h.run hg hs hw h1)
theorem mono_var (i : Nat) : Mono (mVar i) := fun env Q Q' k ⟨d, a, q⟩ => ⟨d, a, k d q⟩
end
theorem Fun.kwb {K : PySem.W.Frag} {x qual : Str} {st : Stmt} {f : Addr} {fd : FuncData} {ps : List Str} (F : Fun K x qual st f fd)
    (h : ∀ (kV doc pm : Value) (an : Option Addr) (cdv ct : Value) (ws : List Value), ws.length = ps.length → bindArgs (PySem.W.fnOf x qual (defArgs st) (defBody st) (defScope st) .none kV doc pm an cdv ct) ⟨[], ps.zip ws⟩ = pure (ps.zip ws)) : KwB K fd ps ps id id := by
  obtain ⟨oc, od, kV, doc, pm, an, cdv, ct, osl, rfl, lk, hcd⟩ := F.ex
  exact ⟨fun s ws _ hl _ => .of_eq (h kV doc pm an cdv ct ws hl), fun r => r⟩

/-! ### the purse -/
theorem Tr.drawn {z : Pz} {C H H' : Hp} (o : Ok z C H) (keep : ∀ a u, H a = some u → a ≠ z.p → a ≠ z.g → H' a = some u)
    (at_ : ∃ (gs cs : List Int) (s k : Int), H' z.p = some (.lst [.ref z.g, .ref z.c, .int s, .int k]) ∧ H' z.g = some (.lst (gs.map V.int)) ∧ H' z.c = some (.lst (cs.map V.int)) ∧ gs.length ≤ 64 ∧ cs ≠ [] ∧ cs.length ≤ 64) : Tr z C H C H' :=
  ⟨Ex.refl C, ⟨fun a u e => keep a u (o.ex a u e) (fun q => by rw [q, o.pur.cp] at e; cases e) (fun q => by rw [q, o.pur.cg] at e; cases e), at_, o.pur.cp, o.pur.cg, o.pur.cc, o.pur.pg, o.pur.pc, o.pur.gc⟩, keep, fun _ _ => rfl⟩
/-- a draw: any number below the bound -/
def spDraw : SpD := fun ds T => ∃ k, ds = [.pur, .int k] ∧ 1 ≤ k ∧ k < 1073741824 ∧ ∀ i, 0 ≤ i → i < k → T (.int i)
theorem shaped_ints : ∀ ns : List Int, SeqAt.shaped (.list (ns.map PyData.int)) = true := fun ns => by
  have h1 : ∀ ns : List Int, PyData.canLayAll0 (ns.map PyData.int) = true := by
    intro ns
    induction ns with
    | nil => rfl
    | cons n ns ih => simp [PyData.canLayAll0, PyData.canLay0, ih]
  have h2 : ∀ ns : List Int, PyData.depthAll (ns.map PyData.int) = 0 := by
    intro ns
    induction ns with
    | nil => rfl
    | cons n ns ih => simp [PyData.depthAll, PyData.depth, ih]
  simp [SeqAt.shaped, PyData.canLay0, PyData.depth, h1, h2]
theorem dpAll_ints {K : PySem.W.Frag} {H : Hp} : ∀ ns : List Int, DpAll K H (ns.map V.int) (ns.map PyData.int)
  | [] => .nil
  | n :: ns => .cons (.int n) (dpAll_ints ns)
theorem fmod_pos {i j : Int} (h : 0 < j) : 0 ≤ i % j ∧ i % j < j := ⟨Int.emod_nonneg i (by omega), Int.emod_lt_of_pos i h⟩
section
variable {P : Program} {w : World} {K : PySem.W.Frag} {mg : Str → Option Value} {base : Heap} {f : Addr} {fd : FuncData} {x : Str} {st : Stmt} {n0 n1 n2 n3 n4 n5 : Str}
end
end BV

/-! What is known of the defs that a def calls. -/
namespace BV
open PySem PySem.Spec PyProof.Rows L2 Evl

/-- the def x is there and keeps its promise -/
structure Kn (P : Program) (w : World) (K : PySem.W.Frag) (mg : Str → Option Value) (base : Heap) (x : Str) (k : Nat) (ps : List Str) (sp : SpD) : Prop where
  ex : ∃ (f : Addr) (fd : FuncData), FnD P w K mg base k f fd ps sp ∧ Binds K fd ps [] ∧ PySem.W.keepIn K (.ref f) = true ∧ mg x = some (.ref f)
structure KnK (P : Program) (w : World) (K : PySem.W.Frag) (mg : Str → Option Value) (base : Heap) (x : Str) (k : Nat) (ps : List Str) (sp : SpD) : Prop where
  ex : ∃ (f : Addr) (fd : FuncData), FnD P w K mg base k f fd ps sp ∧ Binds K fd ps [] ∧ PySem.W.keepIn K (.ref f) = true ∧ mg x = some (.ref f) ∧ KwB K fd ps ps id id
section
variable {P : Program} {w : World} {K : PySem.W.Frag} {mg : Str → Option Value} {base : Heap} {x : Str} {j k : Nat} {ps : List Str} {sp sp' : SpD}
theorem Kn.says (F : Kn P w K mg base x k ps sp) (h : ∀ ds T, sp' ds T → sp ds T) : Kn P w K mg base x k ps sp' := by
  obtain ⟨f, fd, a, b⟩ := F.ex
  exact ⟨f, fd, a.says h, b⟩
theorem KnK.says (F : KnK P w K mg base x k ps sp) (h : ∀ ds T, sp' ds T → sp ds T) : KnK P w K mg base x k ps sp' := by
  obtain ⟨f, fd, a, b⟩ := F.ex
  exact ⟨f, fd, a.says h, b⟩
theorem KnK.kn (F : KnK P w K mg base x k ps sp) : Kn P w K mg base x k ps sp := by
  obtain ⟨f, fd, a, b, c, d, e⟩ := F.ex
  exact ⟨f, fd, a, b, c, d⟩
end
section
variable {X : Cx} {j k : Nat} {ps : List Str} {sp : SpD} {x : Str} {p pos : Pos} {e : Expr} {es : List Expr} {m : MA}
theorem pd_callN (G : Kn X.prog X.w X.K X.mg X.base x j ps sp) (hr : Room k X.A) (hj : j ≤ k) (hgd : X.A.guards = some []) (h : PDA X (e :: es) m) (hg : Gl X x := by rfl) (hdb : (x == ("__debug__" : Str)) = false := by decide) (he : starEach (e :: es) X.env = (false, eval e X.env) :: starEach es X.env := by rfl) (hpl : (backTo pos (starEach es X.env)).any (·.1) = false := by rfl) :
    PD X (.Call (.Name x p) (e :: es) [] pos) (mCall sp m) := by
  obtain ⟨f, fd, F, b, kp, gm⟩ := G.ex
  exact pd_call F (hr.mono hj) hgd kp b gm h hg hdb he hpl
theorem pd_callNK {kws : List Keyword} (G : KnK X.prog X.w X.K X.mg X.base x j ps sp) (hr : Room k X.A) (hj : j ≤ k) (hgd : X.A.guards = some []) (h : PDK X kws m) (hall : (backToKw pos (keywordEach kws X.env)).all (·.1.isSome) = true := by rfl) (hks : (backToKw pos (keywordEach kws X.env)).filterMap (·.1) = ps := by rfl)
    (hg : Gl X x := by rfl) (hdb : (x == ("__debug__" : Str)) = false := by decide) (hpl : ((backTo pos (starEach [] X.env)).any (·.1) || (backToKw pos (keywordEach kws X.env)).any (·.1.isNone)) = false := by rfl) :
    PD X (.Call (.Name x p) [] kws pos) (mCall sp m) := by
  obtain ⟨f, fd, F, b, kp, gm, kb⟩ := G.ex
  exact pd_callK F (hr.mono hj) hgd kp kb gm h hall hks hg hdb hpl
end
section
variable {X : Cx} {elt tg iter : Expr} {ifs : List Expr} {scope : Scope} {own : List (Str × Nat)} {pos : Pos} {mi : MI} {t : Tgt} {mt : MT} {me : ME}
theorem pdo_lcN (hc : X.calm = true) (hN : X.N.Nodup) (hi : PDI X tg iter mi) (ok : BlkOk X.N X.env.scope scope own) (ht : ∀ i ∈ t.sl, i ∈ own.map (·.2))
    (hg : ∀ (s : Shared) (H : Hp) (C : Addr) (cl : List (Str × Addr)) (fp : List Addr), PG (X.blk s H scope (compEnvC scope cl C X.env) fp) tg (t.g X.K)) (hts : ∀ (s : Shared) (H : Hp) (C : Addr) (cl : List (Str × Addr)) (fp : List Addr), PDTs (X.blk s H scope (compEnvC scope cl C X.env) fp) ifs mt)
    (he : ∀ (s : Shared) (H : Hp) (C : Addr) (cl : List (Str × Addr)) (fp : List Addr), PD (X.blk s H scope (compEnvC scope cl C X.env) fp) elt me) (hs : ∀ x, foldedSetIterable iter X.env x = pure x := by intro _; rfl) :
    PDO X (.ListComp elt [⟨tg, iter, ifs, 0⟩] scope pos) (moLc (own.map (·.2)) mi t mt me) :=
  pdo_lc hc hN hi ok ht hg hts he hs (hts X.s_0 X.H_0 0 [] []).mono (he X.s_0 X.H_0 0 [] []).mono
theorem pds_setLcON (rs : List Nat) {i : Nat} {y : Str} {py spos : Pos} (hc : X.calm = true) (hN : X.N.Nodup) (hy : X.N[i]? = some y) (hyl : X.env.scope.names.lookup y = some .local)
    (hsw : swapsWith (.ListComp elt [⟨tg, iter, ifs, 0⟩] scope pos) (some (.Name y py)) spos.line X.env = pure true) (hi : PDI X tg iter mi) (ok : BlkOk X.N X.env.scope scope own) (ht : ∀ i ∈ t.sl, i ∈ own.map (·.2))
    (hg : ∀ (s : Shared) (H : Hp) (C : Addr) (cl : List (Str × Addr)) (fp : List Addr), PG (X.blk s H scope (compEnvC scope cl C X.env) fp) tg (t.g X.K)) (hts : ∀ (s : Shared) (H : Hp) (C : Addr) (cl : List (Str × Addr)) (fp : List Addr), PDTs (X.blk s H scope (compEnvC scope cl C X.env) fp) ifs mt)
    (he : ∀ (s : Shared) (H : Hp) (C : Addr) (cl : List (Str × Addr)) (fp : List Addr), PD (X.blk s H scope (compEnvC scope cl C X.env) fp) elt me) (hs : ∀ x, foldedSetIterable iter X.env x = pure x := by intro _; rfl) :
    PDS X (.Assign [.Name y py] (.ListComp elt [⟨tg, iter, ifs, 0⟩] scope pos) spos) (mAsgO rs i (moLc (own.map (·.2)) mi t mt me)) :=
  pds_setLcO rs hc hN hy hyl hsw hi ok ht hg hts he hs (hts X.s_0 X.H_0 0 [] []).mono (he X.s_0 X.H_0 0 [] []).mono
theorem pds_setLcSN (rs : List Nat) {i : Nat} {y : Str} {py spos : Pos} (hc : X.calm = true) (hN : X.N.Nodup) (hy : X.N[i]? = some y) (hyl : X.env.scope.names.lookup y = some .local)
    (hsw : swapsWith (.ListComp elt [⟨tg, iter, ifs, 0⟩] scope pos) (some (.Name y py)) spos.line X.env = pure true) (hi : PDI X tg iter mi) (ok : BlkOk X.N X.env.scope scope own) (ht : ∀ i ∈ t.sl, i ∈ own.map (·.2))
    (hg : ∀ (s : Shared) (H : Hp) (C : Addr) (cl : List (Str × Addr)) (fp : List Addr), PG (X.blk s H scope (compEnvC scope cl C X.env) fp) tg (t.g X.K)) (hts : ∀ (s : Shared) (H : Hp) (C : Addr) (cl : List (Str × Addr)) (fp : List Addr), PDTs (X.blk s H scope (compEnvC scope cl C X.env) fp) ifs mt)
    (he : ∀ (s : Shared) (H : Hp) (C : Addr) (cl : List (Str × Addr)) (fp : List Addr), PD (X.blk s H scope (compEnvC scope cl C X.env) fp) elt me) (hs : ∀ x, foldedSetIterable iter X.env x = pure x := by intro _; rfl) :
    PDS X (.Assign [.Name y py] (.ListComp elt [⟨tg, iter, ifs, 0⟩] scope pos) spos) (mAsgS rs i (moLc (own.map (·.2)) mi t mt me)) :=
  pds_setLcS rs hc hN hy hyl hsw hi ok ht hg hts he hs (hts X.s_0 X.H_0 0 [] []).mono (he X.s_0 X.H_0 0 [] []).mono
end
end BV

namespace K02
open PySem PySem.Spec PyProof.Rows L2 Evl BV
def topS (i : Nat) : Stmt := PySem.Challenge.pw_onlywith_k02_ranks_of_values_and_rows.main.body.getD i (.Pass ⟨0, 0, 0, 0⟩)

abbrev s_draw : Stmt := topS 5
theorem sc_draw : FnScope ["_law_purse_here", "_law_many", "_law_great", "_law_cell", "_law_turn", "_law_mixed"] ["_law_purse_here", "_law_many"] (defScope s_draw) := ⟨rfl, rfl, rfl, by decide +kernel, rfl, by decide +kernel, by decide +kernel⟩
section
variable {P : Program} {w : World} {K : PySem.W.Frag} {mg : Str → Option Value} {base : Heap}
theorem ok_draw {f : Addr} {fd : FuncData} (F : Fun K "_law_draw" "_law_draw" s_draw f fd) (ml : mg "len" = none) (mi : mg "int" = none) : FnD P w K mg base 1 f fd ["_law_purse_here", "_law_many"] spDraw := by
  have nd := sc_draw.nd
  refine fnG_of F sc_draw (fun vs H Q E ⟨z, C, ds, T, o, dn, ⟨k, e, _⟩, _⟩ => by rw [dn.len, e]; rfl) fun cdv A out s H vs Q E hr gd ⟨z, C, ds, T, o, dn, ⟨k, e, k1, k2, hT⟩, fin⟩ => ?_
  subst e
  obtain ⟨v0, v1, e1, e2, e3⟩ := dns2 dn
  rw [dn_pur.mp e2, dn_int.mp e3] at e1
  subst e1
  obtain ⟨gs, cs, sm, n, hp, hgg, hc, hgl, hcn, hcl⟩ := o.pur.at_
  have pe_i : ∀ {X : Cx} {e : Expr} {t : TE} {p pos : Pos}, Gl X "int" → X.mg "int" = none → PE X e t → (starEach [e] X.env = (false, eval e X.env) :: starEach [] X.env) → ((backTo pos (starEach [] X.env)).any (·.1) = false) → PE X (.Call (.Name "int" p) [e] [] pos) (tCB _ (tCons t tNil)) := fun g m h h1 h2 => pe_callTy call_int1 g m PyProof.Rows.boot_int (pa_cons h pa_nil h1) (by decide) (by decide) h1 h2
  refine ⟨_, (pss_cons (ps_set (i := 2) nd rfl (.inl rfl) (pe_ix ix_list (pv 0) pe_int (fun _ _ => rfl)))
    (pss_cons (ps_if (pt_cmpR (op_neD (by have := hr.units; exact this)) (pv 2) (pe_lst pa_nil) (nomark _))
      (pss_cons (ps_set (i := 3) nd rfl (.inl rfl) (pe_bm0 PySem.F.plainAttrs_list PySem.F.slot_list_pop PySem.F.type_list_pop mt_pop (pv 2)))
      (pss_cons (ps_if (pt_cmpR op_ge (pv 3) (pv 1) (nomark _))
        (pss_one (ps_expr (pe_bm PySem.F.plainAttrs_list PySem.F.slot_list_append PySem.F.type_list_append mt_append (pv 2) (pa_cons (pe_op op_fdiv (pv 3) (pv 1)) pa_nil)))) pss_nil)
      (pss_one (ps_ret (pe_op op_mod (pe_i (by rfl) mi (pv 3) rfl rfl) (pv 1)))))) pss_nil)
    (pss_cons (ps_asg (pe_op op_add (pe_ix ix_list (pv 0) pe_int (fun _ _ => rfl)) pe_int) (pg_sub (pv 0) pe_int set_list))
    (pss_cons (ps_set (i := 4) nd rfl (.inl rfl) (pe_ix ix_list (pv 0) pe_int (fun _ _ => rfl)))
    (pss_cons (ps_set (i := 3) nd rfl (.inl rfl) (pe_ix ix_list (pe_ix ix_list (pv 0) pe_int (fun _ _ => rfl)) (pe_op op_mod (pe_i (by rfl) mi (pv 4) rfl rfl) (pe_callB call_len_seq (by rfl) ml PySem.boot_len (pa_cons (pe_ix ix_list (pv 0) pe_int (fun _ _ => rfl)) pa_nil))) (fun _ _ => rfl)))
    (pss_cons (ps_set (i := 5) nd rfl (.inl rfl) (pe_i (by rfl) mi (pe_op op_add (pe_op op_add (pe_op op_mul (pv 3) pe_int) (pe_op op_mul (pe_ix ix_list (pv 0) pe_int (fun _ _ => rfl)) pe_int)) (pe_op op_mul (pv 4) pe_int)) rfl rfl))
    (pss_cons (ps_set (i := 5) nd rfl (.inl rfl) (pe_op op_mod (pe_i (by rfl) mi (pv 5) rfl rfl) pe_int))
    (pss_cons (ps_set (i := 5) nd rfl (.inl rfl) (pe_op op_mod (pe_i (by rfl) mi (pe_op op_add (pe_op op_add (pe_op op_mul (pv 5) (pv 5)) (pe_op op_mul (pv 4) pe_int)) pe_int) rfl rfl) pe_int))
    (pss_one (ps_ret (pe_op op_mod (pe_op op_fdiv (pe_op op_mod (pe_i (by rfl) mi (pe_op op_add (pe_op op_add (pe_op op_mul (pv 5) (pv 5)) (pe_op op_mul pe_int (pv 5))) (pv 4)) rfl rfl) pe_int) pe_int) (pv 1))))))))))) : PSs _ (defBody s_draw) _).nox, ?_⟩
  -- great = the purse's first
  refine ⟨.ref z.p, rfl, z.p, _, 0, .ref z.g, rfl, rfl, sq_of hp, rfl, ?_⟩
  -- great != []
  refine ⟨.ref z.g, rfl, Nat.zero_le _, fun q hq => ?_⟩
  have nqg : z.g ≠ q := fun e => o.pur.gn (by rw [e]; exact hq)
  have nqp : z.p ≠ q := fun e => o.pur.pn (by rw [e]; exact hq)
  have nqc : z.c ≠ q := fun e => o.pur.cn (by rw [e]; exact hq)
  have hg1 : (upd H q (.lst [])) z.g = some (.lst (gs.map V.int)) := by rw [upd_ne nqg]; exact hgg
  have hp1 : (upd H q (.lst [])) z.p = some (.lst [.ref z.g, .ref z.c, .int sm, .int n]) := by rw [upd_ne nqp]; exact hp
  have hc1 : (upd H q (.lst [])) z.c = some (.lst (cs.map V.int)) := by rw [upd_ne nqc]; exact hc
  have kp1 : ∀ a u, H a = some u → (upd H q (.lst [])) a = some u := Ex.new hq
  generalize hH1 : upd H q (.lst []) = H1 at hg1 hp1 hc1 kp1
  have hq1 : H1 q = some (.lst []) := by rw [← hH1]; exact upd_same
  refine ⟨.list (gs.map PyData.int), .list [], .lst (sq_of hg1) (dpAll_ints gs), .lst (sq_of hq1) .nil, shaped_ints gs, shaped_ints [], _, rfl, ?_⟩
  rcases List.eq_nil_or_concat gs with hgs | ⟨gs', g, hgs⟩
  · subst hgs
    refine iteF ?_
    -- the count
    refine ⟨.ref z.p, rfl, z.p, _, 3, .int n, rfl, rfl, sq_of hp1, rfl, n, 1, rfl, rfl, ?_⟩
    refine ⟨.ref z.p, rfl, z.p, _, 3, 3, rfl, rfl, hp1, rfl, ?_⟩
    have hp2 : (upd H1 z.p (.lst [.ref z.g, .ref z.c, .int sm, .int (n + 1)])) z.p = some (.lst [.ref z.g, .ref z.c, .int sm, .int (n + 1)]) := upd_same
    have hg2 : (upd H1 z.p (.lst [.ref z.g, .ref z.c, .int sm, .int (n + 1)])) z.g = some (.lst []) := by rw [upd_ne o.pur.pg.symm]; exact hg1
    have hc2 : (upd H1 z.p (.lst [.ref z.g, .ref z.c, .int sm, .int (n + 1)])) z.c = some (.lst (cs.map V.int)) := by rw [upd_ne o.pur.pc.symm]; exact hc1
    have kp2 : ∀ a u, H a = some u → a ≠ z.p → a ≠ z.g → (upd H1 z.p (.lst [.ref z.g, .ref z.c, .int sm, .int (n + 1)])) a = some u := fun a u e n1 _ => by rw [upd_ne n1]; exact kp1 a u e
    show tSeq _ _ _ _ (upd H1 z.p (.lst [.ref z.g, .ref z.c, .int sm, .int (n + 1)]))
    generalize upd H1 z.p (.lst [.ref z.g, .ref z.c, .int sm, .int (n + 1)]) = H2 at hp2 hg2 hc2 kp2
    -- turn
    refine ⟨.ref z.p, rfl, z.p, _, 3, .int (n + 1), rfl, rfl, sq_of hp2, rfl, ?_⟩
    -- cell
    have hcl0 : (0 : Int) < (cs.map V.int).length := by
      rw [List.length_map]
      cases cs with
      | nil => exact absurd rfl hcn
      | cons => simp only [List.length_cons]; omega
    obtain ⟨m1, m2⟩ := fmod_pos (i := n + 1) hcl0
    have hat : ∃ c, atI (cs.map V.int) ((n + 1) % ((cs.map V.int).length : Int)) = some (.int c) := by
      have hj : ((n + 1) % ((cs.map V.int).length : Int)).toNat < cs.length := by
        rw [List.length_map] at m2 ⊢
        rw [List.length_map] at m1
        omega
      refine ⟨cs[((n + 1) % ((cs.map V.int).length : Int)).toNat], ?_⟩
      refine at_of (j := ((n + 1) % ((cs.map V.int).length : Int)).toNat) (by omega) ?_
      rw [List.getElem?_map, List.getElem?_eq_getElem hj]
      rfl
    obtain ⟨c, hat⟩ := hat
    refine ⟨.ref z.p, rfl, z.p, _, 1, .ref z.c, rfl, rfl, sq_of hp2, rfl, ?_⟩
    refine ⟨.int (n + 1), rfl, .inl ⟨n + 1, rfl, ?_⟩⟩
    refine ⟨.ref z.p, rfl, z.p, _, 1, .ref z.c, rfl, rfl, sq_of hp2, rfl, z.c, _, rfl, .inl (sq_of hc2), ?_⟩
    refine ⟨n + 1, _, rfl, rfl, hcl0, ?_⟩
    refine ⟨z.c, _, _, .int c, rfl, rfl, sq_of hc2, hat, ?_⟩
    -- mixed
    refine ⟨.int c, rfl, c, 1181783497276652981, rfl, rfl, .inr ⟨by decide, by decide⟩, ?_⟩
    refine ⟨.ref z.p, rfl, z.p, _, 2, .int sm, rfl, rfl, sq_of hp2, rfl, sm, 7046029254386353131, rfl, rfl, .inr ⟨by decide, by decide⟩, ?_⟩
    refine ⟨_, _, rfl, rfl, ?_⟩
    refine ⟨.int (n + 1), rfl, n + 1, 3037000507, rfl, rfl, .inr ⟨by decide, by decide⟩, ?_⟩
    refine ⟨_, _, rfl, rfl, .inl ⟨_, rfl, ?_⟩⟩
    generalize c * 1181783497276652981 + sm * 7046029254386353131 + (n + 1) * 3037000507 = x1
    refine ⟨.int x1, rfl, .inl ⟨x1, rfl, x1, 2305843009213693951, rfl, rfl, by show (0:Int) < 2305843009213693951; decide, ?_⟩⟩
    obtain ⟨a1, a2⟩ := fmod_pos (i := x1) (j := 2305843009213693951) (by decide)
    dsimp only
    generalize x1 % 2305843009213693951 = x2 at a1 a2 ⊢
    refine ⟨.int x2, rfl, .int x2, rfl, x2, x2, rfl, rfl, .inl ⟨by omega, by omega⟩, ?_⟩
    refine ⟨.int (n + 1), rfl, n + 1, 2862933555777941757, rfl, rfl, .inr ⟨by decide, by decide⟩, ?_⟩
    refine ⟨_, _, rfl, rfl, _, _, rfl, rfl, .inl ⟨_, rfl, ?_⟩⟩
    generalize x2 * x2 + (n + 1) * 2862933555777941757 + 1442695041 = x3
    refine ⟨x3, 2305843009213693921, rfl, rfl, by show (0:Int) < 2305843009213693921; decide, ?_⟩
    obtain ⟨b1, b2⟩ := fmod_pos (i := x3) (j := 2305843009213693921) (by decide)
    dsimp only
    generalize x3 % 2305843009213693921 = x4 at b1 b2 ⊢
    refine ⟨.int x4, rfl, .int x4, rfl, x4, x4, rfl, rfl, .inl ⟨by omega, by omega⟩, ?_⟩
    refine ⟨.int x4, rfl, 3, x4, rfl, rfl, .inl ⟨by decide, by decide⟩, ?_⟩
    refine ⟨_, _, rfl, rfl, .int (n + 1), rfl, _, _, rfl, rfl, .inl ⟨_, rfl, ?_⟩⟩
    generalize x4 * x4 + 3 * x4 + (n + 1) = x5
    refine ⟨x5, 2305843009213693951, rfl, rfl, by show (0:Int) < 2305843009213693951; decide, ?_⟩
    refine ⟨_, 1048576, rfl, rfl, ⟨by decide, by decide⟩, ?_⟩
    refine ⟨.int k, rfl, _, k, rfl, rfl, by show 0 < k; omega, ?_⟩
    obtain ⟨c1, c2⟩ := fmod_pos (i := x5 % 2305843009213693951 / 1048576) (j := k) (by omega)
    exact fin _ _ C H2 (hT _ c1 c2) (Tr.drawn o kp2 ⟨[], cs, sm, n + 1, hp2, hg2, hc2, by simp, hcn, hcl⟩) (dn_int.mpr rfl)
  · have hgs' : gs = gs' ++ [g] := by simpa using hgs
    subst hgs'
    have hne : (!PyData.eqv (.list ((gs' ++ [g]).map PyData.int)) (.list [])) = true := by
      cases gs' <;> rfl
    rw [hne]
    refine iteT ?_
    -- pop
    have hpop : ((gs' ++ [g]).map V.int)[((gs' ++ [g]).map V.int).length - 1]? = some (.int g) := by simp
    have hdl : ((gs' ++ [g]).map V.int).dropLast = gs'.map V.int := by simp
    have hgl' : gs'.length + 1 ≤ 64 := by simpa using hgl
    refine ⟨.ref z.g, rfl, .inl ⟨rfl, _, sq_of hg1⟩, z.g, _, .int g, rfl, rfl, hg1, hpop, ?_⟩
    rw [hdl]
    have hg2 : (upd H1 z.g (.lst (gs'.map V.int))) z.g = some (.lst (gs'.map V.int)) := upd_same
    have hp2 : (upd H1 z.g (.lst (gs'.map V.int))) z.p = some (.lst [.ref z.g, .ref z.c, .int sm, .int n]) := by rw [upd_ne o.pur.pg]; exact hp1
    have hc2 : (upd H1 z.g (.lst (gs'.map V.int))) z.c = some (.lst (cs.map V.int)) := by rw [upd_ne o.pur.gc.symm]; exact hc1
    have kp2 : ∀ a u, H a = some u → a ≠ z.p → a ≠ z.g → (upd H1 z.g (.lst (gs'.map V.int))) a = some u := fun a u e _ n2 => by rw [upd_ne n2]; exact kp1 a u e
    generalize upd H1 z.g (.lst (gs'.map V.int)) = H2 at hp2 hg2 hc2 kp2
    -- what is left of the cell goes back
    have last : ∀ H3, (∃ (gs cs : List Int) (s k : Int), H3 z.p = some (.lst [.ref z.g, .ref z.c, .int s, .int k]) ∧ H3 z.g = some (.lst (gs.map V.int)) ∧ H3 z.c = some (.lst (cs.map V.int)) ∧ gs.length ≤ 64 ∧ cs ≠ [] ∧ cs.length ≤ 64) → (∀ a u, H a = some u → a ≠ z.p → a ≠ z.g → H3 a = some u) →
        Q (.int (g % k)) H3 := fun H3 h1 h2 => by
      obtain ⟨c1, c2⟩ := fmod_pos (i := g) (j := k) (by omega)
      exact fin _ _ C H3 (hT _ c1 c2) (Tr.drawn o h2 h1) (dn_int.mpr rfl)
    refine ⟨.int g, rfl, .int k, rfl, g, k, rfl, rfl, _, rfl, ite2 (fun _ => ?_) (fun _ => ?_)⟩
    · refine ⟨.ref z.g, rfl, .inl ⟨rfl, _, sq_of hg2⟩, .int g, rfl, .int k, rfl, g, k, rfl, rfl, ⟨by omega, k2⟩, ?_⟩
      refine ⟨z.g, _, .int (g / k), rfl, rfl, hg2, by rw [List.length_map]; exact Nat.lt_of_lt_of_le (by omega : gs'.length < 1000) (by decide), ?_⟩
      refine ⟨.int g, rfl, .inl ⟨g, rfl, .int k, rfl, g, k, rfl, rfl, by show 0 < k; omega, ?_⟩⟩
      refine last _ ⟨gs' ++ [g / k], cs, sm, n, by rw [upd_ne o.pur.pg]; exact hp2, by rw [upd_same]; simp, by rw [upd_ne o.pur.gc.symm]; exact hc2, by simpa using hgl', hcn, hcl⟩ fun a u e n1 n2 => by rw [upd_ne n2]; exact kp2 a u e n1 n2
    · refine ⟨.int g, rfl, .inl ⟨g, rfl, .int k, rfl, g, k, rfl, rfl, by show 0 < k; omega, ?_⟩⟩
      exact last _ ⟨gs', cs, sm, n, hp2, hg2, hc2, by omega, hcn, hcl⟩ kp2
end
end K02

namespace K02
open PySem PySem.Spec PyProof.Rows L2 Evl BV
abbrev s_value_rank : Stmt := topS 1
abbrev N_value_rank : List Str := ["value"]
theorem sc_value_rank : FnScope N_value_rank ["value"] (defScope s_value_rank) := ⟨rfl, rfl, rfl, by decide +kernel, rfl, by decide +kernel, by decide +kernel⟩
def m_value_rank : MS :=
    (mSeq (mIfS [] (tBl (mIsi "str" (mVar 0)))
    (mRet [] (mTup (maCons (mC (.int 1)) (maCons (mVar 0) maNil))))
    mNext)
    (mRet [] (mTup (maCons (mC (.int 0)) (maCons (mVar 0) maNil)))))
theorem ok_value_rank {P : Program} {w : World} {K : PySem.W.Frag} {mg : Str → Option Value} {base : Heap} {f : Addr} {fd : FuncData} (F : Fun K "value_rank" "value_rank" s_value_rank f fd) (bi_isinstance : mg "isinstance" = none) (bi_str : mg "str" = none) : FnD P w K mg base 1 f fd ["value"] (spOf 1 N_value_rank.length (m_value_rank )) := by
  have nd := sc_value_rank.nd
  refine fnD_of F sc_value_rank fun cdv A out s H E hr hgd => ?_
  have hu := hr.units
  exact (pdss_cons (pds_if [] (pdt_val (pd_isi (pd_v 0) bi_isinstance bi_str boot_str))
    (pdss_one (pds_ret [] (pd_tup (pda_cons pd_int (pda_cons (pd_v 0) pda_nil)))))
    pdss_nil)
    (pdss_one (pds_ret [] (pd_tup (pda_cons pd_int (pda_cons (pd_v 0) pda_nil))))))
abbrev s_row_rank : Stmt := topS 2
abbrev N_row_rank : List Str := ["row", "value"]
theorem sc_row_rank : FnScope N_row_rank ["row"] (defScope s_row_rank) := ⟨rfl, rfl, rfl, by decide +kernel, rfl, by decide +kernel, by decide +kernel⟩
def m_row_rank (sp_value_rank : SpD) : MS :=
    (mRet [] (mCB tupleD (maCons (mLstO (moLc [1] (mSeqI (mVar 0)) (.nm 1) mYes (mCall sp_value_rank (maCons (mVar 1) maNil)))) maNil)))
theorem ok_row_rank {P : Program} {w : World} {K : PySem.W.Frag} {mg : Str → Option Value} {base : Heap} {f : Addr} {fd : FuncData} (F : Fun K "row_rank" "row_rank" s_row_rank f fd) (bi_tuple : mg "tuple" = none) {sp_value_rank : SpD} (G_value_rank : Kn P w K mg base "value_rank" 1 ["value"] sp_value_rank) : FnD P w K mg base 2 f fd ["row"] (spOf 1 N_row_rank.length (m_row_rank sp_value_rank)) := by
  have nd := sc_row_rank.nd
  refine fnD_of F sc_row_rank fun cdv A out s H E hr hgd => ?_
  have hu := hr.units
  exact (pdss_one (pds_ret [] (pd_callTy cd_tuple (by rfl) bi_tuple boot_tuple (pda_cons (pd_ofO (pdo_lcN (own := [("value", 1)]) (t := (.nm 1)) (mt := mYes) (me := (mCall sp_value_rank (maCons (mVar 1) maNil))) rfl nd (pdi_seq (pd_v 0)) (blkOk_by (N := N_row_rank) (sc := defScope s_row_rank) (by decide +kernel)) (by decide) (fun _ _ _ _ _ => (pgt_nm 1 nd)) (fun _ _ _ _ _ => pdts_nil) (fun _ _ _ _ _ => (pd_callN G_value_rank hr (by decide) hgd (pda_cons (pd_v 1) pda_nil))))) pda_nil))))
abbrev s_purse : Stmt := topS 4
abbrev N_purse : List Str := ["_law_script", "_law_cells", "_law_cell"]

abbrev N_draw : List Str := ["_law_purse_here", "_law_many", "_law_great", "_law_cell", "_law_turn", "_law_mixed"]
abbrev s_pick : Stmt := topS 6
abbrev N_pick : List Str := ["_law_purse_here", "_law_some"]
theorem sc_pick : FnScope N_pick ["_law_purse_here", "_law_some"] (defScope s_pick) := ⟨rfl, rfl, rfl, by decide +kernel, rfl, by decide +kernel, by decide +kernel⟩
def m_pick (sp_draw : SpD) : MS :=
    (mRet [] (mOp ixD (mVar 1) (mCall sp_draw (maCons (mVar 0) (maCons (mCB lenD (maCons (mVar 1) maNil)) maNil)))))
theorem ok_pick {P : Program} {w : World} {K : PySem.W.Frag} {mg : Str → Option Value} {base : Heap} {f : Addr} {fd : FuncData} (F : Fun K "_law_pick" "_law_pick" s_pick f fd) (bi_len : mg "len" = none) {sp_draw : SpD} (G_draw : Kn P w K mg base "_law_draw" 1 ["_law_purse_here", "_law_many"] sp_draw) : FnD P w K mg base 2 f fd ["_law_purse_here", "_law_some"] (spOf 2 N_pick.length (m_pick sp_draw)) := by
  have nd := sc_pick.nd
  refine fnD_of F sc_pick fun cdv A out s H E hr hgd => ?_
  have hu := hr.units
  exact (pdss_one (pds_ret [] (pd_ix (pd_v 1) (pd_callN G_draw hr (by decide) hgd (pda_cons (pd_v 0) (pda_cons (pd_callB cd_len (by rfl) bi_len boot_len (pda_cons (pd_v 1) pda_nil)) pda_nil))) (fun _ _ => rfl))))
abbrev s_word : Stmt := topS 7
abbrev N_word : List Str := ["_law_purse_here", "_law_size", "_law_turn"]
theorem sc_word : FnScope N_word ["_law_purse_here", "_law_size"] (defScope s_word) := ⟨rfl, rfl, rfl, by decide +kernel, rfl, by decide +kernel, by decide +kernel⟩
def m_word (sp_pick : SpD) : MS :=
    (mRet [] (mJoin (mC (.str (Str.ofString ""))) (mLstO (moLc [2] (mRng1 (maCons (mVar 1) maNil)) (.nm 2) mYes (mCall sp_pick (maCons (mVar 0) (maCons (mC (.str (Str.ofString "abcdefghijklmnopqrstuvwxyz"))) maNil)))))))
theorem ok_word {P : Program} {w : World} {K : PySem.W.Frag} {mg : Str → Option Value} {base : Heap} {f : Addr} {fd : FuncData} (F : Fun K "_law_word" "_law_word" s_word f fd) (bi_range : mg "range" = none) {sp_pick : SpD} (G_pick : Kn P w K mg base "_law_pick" 2 ["_law_purse_here", "_law_some"] sp_pick) : FnD P w K mg base 3 f fd ["_law_purse_here", "_law_size"] (spOf 2 N_word.length (m_word sp_pick)) := by
  have nd := sc_word.nd
  refine fnD_of F sc_word fun cdv A out s H E hr hgd => ?_
  have hu := hr.units
  exact (pdss_one (pds_ret [] (pd_join pd_str (pd_ofO (pdo_lcN (own := [("_law_turn", 2)]) (t := (.nm 2)) (mt := mYes) (me := (mCall sp_pick (maCons (mVar 0) (maCons (mC (.str (Str.ofString "abcdefghijklmnopqrstuvwxyz"))) maNil)))) rfl nd (PDR.pdi (pdr_1 (by rfl) bi_range (pda_cons (pd_v 1) pda_nil))) (blkOk_by (N := N_word) (sc := defScope s_word) (by decide +kernel)) (by decide) (fun _ _ _ _ _ => (pgt_nm 2 nd)) (fun _ _ _ _ _ => pdts_nil) (fun _ _ _ _ _ => (pd_callN G_pick hr (by decide) hgd (pda_cons (pd_v 0) (pda_cons pd_str pda_nil)))))))))
abbrev s_stock : Stmt := topS 8
abbrev N_stock : List Str := ["_law_purse_here", "_law_many", "_law_word_here", "_law_letter", "_law_some", "_law_turn"]
theorem sc_stock : FnScope N_stock ["_law_purse_here"] (defScope s_stock) := ⟨rfl, rfl, rfl, by decide +kernel, rfl, by decide +kernel, by decide +kernel⟩
def m_stock (sp_word sp_draw sp_pick : SpD) : MS :=
    (mSeq (mPar3 [] 1 2 3 (maCons (mCall sp_draw (maCons (mVar 0) (maCons (mOp powD (mC (.int 10)) (mC (.int 9))) maNil))) (maCons (mCall sp_word (maCons (mVar 0) (maCons (mOp addD (mC (.int 1)) (mCall sp_draw (maCons (mVar 0) (maCons (mC (.int 11)) maNil)))) maNil))) (maCons (mCall sp_word (maCons (mVar 0) (maCons (mC (.int 1)) maNil))) maNil))))
    (mSeq (mAsg [] 4 (mLst (maCons (mVar 1) (maCons (mOp addD (mVar 1) (mC (.int 1))) (maCons (mUn negD (mVar 1)) (maCons (mOp subD (mUn negD (mVar 1)) (mC (.int 1))) (maCons (mOp powD (mC (.int 10)) (mC (.int 9))) (maCons (mUn negD (mOp powD (mC (.int 10)) (mC (.int 9)))) (maCons (mC (.int 0)) (maCons (mC (.int 1)) (maCons (mCall sp_draw (maCons (mVar 0) (maCons (mC (.int 12)) maNil))) (maCons (mVar 2) (maCons (mOp addD (mVar 2) (mVar 3)) maNil)))))))))))))
    (mSeq (mAsg [] 4 (mOp addD (mVar 4) (mLst (maCons (mVar 3) (maCons (mOp mulD (mVar 3) (mC (.int 12))) (maCons (mOp addD (mSl (mVar 2) moNo (moYes (mUn negD (mC (.int 1))))) (mVar 3)) (maCons (mOp addD (mVar 2) (mC (.str (Str.ofString "a")))) (maCons (mSl (mVar 2) moNo (moYes (mC (.int 1)))) maNil))))))))
    (mRet [] (mLstO (moLc [5] (mRng1 (maCons (mC (.int 7)) maNil)) (.nm 5) mYes (mCall sp_pick (maCons (mVar 0) (maCons (mVar 4) maNil)))))))))
theorem ok_stock {P : Program} {w : World} {K : PySem.W.Frag} {mg : Str → Option Value} {base : Heap} {f : Addr} {fd : FuncData} (F : Fun K "_law_stock" "_law_stock" s_stock f fd) (bi_range : mg "range" = none) {sp_word : SpD} (G_word : Kn P w K mg base "_law_word" 3 ["_law_purse_here", "_law_size"] sp_word) {sp_draw : SpD} (G_draw : Kn P w K mg base "_law_draw" 1 ["_law_purse_here", "_law_many"] sp_draw) {sp_pick : SpD} (G_pick : Kn P w K mg base "_law_pick" 2 ["_law_purse_here", "_law_some"] sp_pick) : FnD P w K mg base 4 f fd ["_law_purse_here"] (spOf 1 N_stock.length (m_stock sp_word sp_draw sp_pick)) := by
  have nd := sc_stock.nd
  refine fnD_of F sc_stock fun cdv A out s H E hr hgd => ?_
  have hu := hr.units
  exact (pdss_cons (pds_p3 [] 1 2 3 rfl nd (pda_cons (pd_callN G_draw hr (by decide) hgd (pda_cons (pd_v 0) (pda_cons (pd_op opd_pow pd_int pd_int) pda_nil))) (pda_cons (pd_callN G_word hr (by decide) hgd (pda_cons (pd_v 0) (pda_cons (pd_op opd_add pd_int (pd_callN G_draw hr (by decide) hgd (pda_cons (pd_v 0) (pda_cons pd_int pda_nil)))) pda_nil))) (pda_cons (pd_callN G_word hr (by decide) hgd (pda_cons (pd_v 0) (pda_cons pd_int pda_nil))) pda_nil))))
    (pdss_cons (pds_set [] 4 nd (pd_lst (pda_cons (pd_v 1) (pda_cons (pd_op opd_add (pd_v 1) pd_int) (pda_cons (pd_un und_neg (pd_v 1)) (pda_cons (pd_op opd_sub (pd_un und_neg (pd_v 1)) pd_int) (pda_cons (pd_op opd_pow pd_int pd_int) (pda_cons (pd_un und_neg (pd_op opd_pow pd_int pd_int)) (pda_cons pd_int (pda_cons pd_int (pda_cons (pd_callN G_draw hr (by decide) hgd (pda_cons (pd_v 0) (pda_cons pd_int pda_nil))) (pda_cons (pd_v 2) (pda_cons (pd_op opd_add (pd_v 2) (pd_v 3)) pda_nil)))))))))))))
    (pdss_cons (pds_set [] 4 nd (pd_op opd_add (pd_v 4) (pd_lst (pda_cons (pd_v 3) (pda_cons (pd_op opd_mul (pd_v 3) pd_int) (pda_cons (pd_op opd_add (pd_slice (pd_v 2) pdp_none (pdp_some (pd_un und_neg pd_int))) (pd_v 3)) (pda_cons (pd_op opd_add (pd_v 2) pd_str) (pda_cons (pd_slice (pd_v 2) pdp_none (pdp_some pd_int)) pda_nil))))))))
    (pdss_one (pds_ret [] (pd_ofO (pdo_lcN (own := [("_law_turn", 5)]) (t := (.nm 5)) (mt := mYes) (me := (mCall sp_pick (maCons (mVar 0) (maCons (mVar 4) maNil)))) rfl nd (PDR.pdi (pdr_1 (by rfl) bi_range (pda_cons pd_int pda_nil))) (blkOk_by (N := N_stock) (sc := defScope s_stock) (by decide +kernel)) (by decide) (fun _ _ _ _ _ => (pgt_nm 5 nd)) (fun _ _ _ _ _ => pdts_nil) (fun _ _ _ _ _ => (pd_callN G_pick hr (by decide) hgd (pda_cons (pd_v 0) (pda_cons (pd_v 4) pda_nil)))))))))))
abbrev s_lines : Stmt := topS 9
abbrev N_lines : List Str := ["_law_purse_here", "_law_stock_here", "_law_found", "_law_turn", "_law_way", "_law_elder", "_law_at", "_law_size", "_law_k"]
theorem sc_lines : FnScope N_lines ["_law_purse_here", "_law_stock_here"] (defScope s_lines) := ⟨rfl, rfl, rfl, by decide +kernel, rfl, by decide +kernel, by decide +kernel⟩
def m_lines (sp_pick sp_draw : SpD) : MS :=
    (mSeq (mAsgO [] 2 (moLst (maCons (mTup maNil) maNil)))
    (mSeq (mForR [] (mRng1 (maCons (mC (.int 6)) maNil)) (.nm 3)
    (mSeq (mPar2 [2] 4 5 (maCons (mCall sp_draw (maCons (mVar 0) (maCons (mC (.int 4)) maNil))) (maCons (mCall sp_pick (maCons (mVar 0) (maCons (mVar 2) maNil))) maNil)))
    (mIfS [] (tBl (mOp eqD (mVar 4) (mC (.int 0))))
    (mApp [] 2 (mOp addD (mVar 5) (mTup (maCons (mCall sp_pick (maCons (mVar 0) (maCons (mVar 1) maNil))) maNil))))
    (mIfS [] (tBl (mOp eqD (mVar 4) (mC (.int 1))))
    (mApp [] 2 (mSl (mVar 5) moNo (moYes (mCall sp_draw (maCons (mVar 0) (maCons (mOp addD (mCB lenD (maCons (mVar 5) maNil)) (mC (.int 1))) maNil))))))
    (mIfS [] (mAndT (tBl (mOp eqD (mVar 4) (mC (.int 2)))) (tBl (mOp neD (mVar 5) (mTup maNil))))
    (mSeq (mAsg [] 6 (mCall sp_draw (maCons (mVar 0) (maCons (mCB lenD (maCons (mVar 5) maNil)) maNil))))
    (mApp [] 2 (mOp addD (mOp addD (mSl (mVar 5) moNo (moYes (mVar 6))) (mTup (maCons (mCall sp_pick (maCons (mVar 0) (maCons (mVar 1) maNil))) maNil))) (mSl (mVar 5) (moYes (mOp addD (mVar 6) (mC (.int 1)))) moNo))))
    (mSeq (mAsg [] 7 (mCall sp_pick (maCons (mVar 0) (maCons (mLst (maCons (mC (.int 1)) (maCons (mC (.int 2)) (maCons (mC (.int 3)) (maCons (mC (.int 6)) (maCons (mC (.int 30)) maNil)))))) maNil))))
    (mApp [] 2 (mCB tupleD (maCons (mLstO (moLc [8] (mRng1 (maCons (mVar 7) maNil)) (.nm 8) mYes (mCall sp_pick (maCons (mVar 0) (maCons (mVar 1) maNil))))) maNil)))))))))
    (mRet [2] (mVar 2))))
theorem ok_lines {P : Program} {w : World} {K : PySem.W.Frag} {mg : Str → Option Value} {base : Heap} {f : Addr} {fd : FuncData} (F : Fun K "_law_lines" "_law_lines" s_lines f fd) (bi_range : mg "range" = none) (bi_len : mg "len" = none) (bi_tuple : mg "tuple" = none) {sp_pick : SpD} (G_pick : Kn P w K mg base "_law_pick" 2 ["_law_purse_here", "_law_some"] sp_pick) {sp_draw : SpD} (G_draw : Kn P w K mg base "_law_draw" 1 ["_law_purse_here", "_law_many"] sp_draw) : FnD P w K mg base 3 f fd ["_law_purse_here", "_law_stock_here"] (spOf 2 N_lines.length (m_lines sp_pick sp_draw)) := by
  have nd := sc_lines.nd
  refine fnD_of F sc_lines fun cdv A out s H E hr hgd => ?_
  have hu := hr.units
  exact (pdss_cons (pds_setO [] 2 nd (pdo_lst (pda_cons (pd_tup pda_nil) pda_nil)))
    (pdss_cons (pds_forR [] (t := (.nm 3)) PassesOwn.never rfl (pdr_1 (by rfl) bi_range (pda_cons pd_int pda_nil)) (pgt_nm 3 nd)
    (pdss_cons (pds_p2 [2] 4 5 rfl nd (pda_cons (pd_callN G_draw hr (by decide) hgd (pda_cons (pd_v 0) (pda_cons pd_int pda_nil))) (pda_cons (pd_callN G_pick hr (by decide) hgd (pda_cons (pd_v 0) (pda_cons (pd_v 2) pda_nil))) pda_nil)))
    (pdss_one (pds_if [] (pdt_cmp (opd_eq hu) (pd_v 4) pd_int (nomark _))
    (pdss_one (pds_app [] (pv 2) (pd_op opd_add (pd_v 5) (pd_tup (pda_cons (pd_callN G_pick hr (by decide) hgd (pda_cons (pd_v 0) (pda_cons (pd_v 1) pda_nil))) pda_nil)))))
    (pdss_one (pds_if [] (pdt_cmp (opd_eq hu) (pd_v 4) pd_int (nomark _))
    (pdss_one (pds_app [] (pv 2) (pd_slice (pd_v 5) pdp_none (pdp_some (pd_callN G_draw hr (by decide) hgd (pda_cons (pd_v 0) (pda_cons (pd_op opd_add (pd_callB cd_len (by rfl) bi_len boot_len (pda_cons (pd_v 5) pda_nil)) pd_int) pda_nil)))))))
    (pdss_one (pds_if [] (PDW.pdt (pdw_and (pdt_cmp (opd_eq hu) (pd_v 4) pd_int (nomark _)) (pdw_and1 (pdt_cmp (opd_ne hu) (pd_v 5) (pd_tup pda_nil) (nomark _)))))
    (pdss_cons (pds_set [] 6 nd (pd_callN G_draw hr (by decide) hgd (pda_cons (pd_v 0) (pda_cons (pd_callB cd_len (by rfl) bi_len boot_len (pda_cons (pd_v 5) pda_nil)) pda_nil))))
    (pdss_one (pds_app [] (pv 2) (pd_op opd_add (pd_op opd_add (pd_slice (pd_v 5) pdp_none (pdp_some (pd_v 6))) (pd_tup (pda_cons (pd_callN G_pick hr (by decide) hgd (pda_cons (pd_v 0) (pda_cons (pd_v 1) pda_nil))) pda_nil))) (pd_slice (pd_v 5) (pdp_some (pd_op opd_add (pd_v 6) pd_int)) pdp_none)))))
    (pdss_cons (pds_set [] 7 nd (pd_callN G_pick hr (by decide) hgd (pda_cons (pd_v 0) (pda_cons (pd_lst (pda_cons pd_int (pda_cons pd_int (pda_cons pd_int (pda_cons pd_int (pda_cons pd_int pda_nil)))))) pda_nil))))
    (pdss_one (pds_app [] (pv 2) (pd_callTy cd_tuple (by rfl) bi_tuple boot_tuple (pda_cons (pd_ofO (pdo_lcN (own := [("_law_k", 8)]) (t := (.nm 8)) (mt := mYes) (me := (mCall sp_pick (maCons (mVar 0) (maCons (mVar 1) maNil)))) rfl nd (PDR.pdi (pdr_1 (by rfl) bi_range (pda_cons (pd_v 7) pda_nil))) (blkOk_by (N := N_lines) (sc := defScope s_lines) (by decide +kernel)) (by decide) (fun _ _ _ _ _ => (pgt_nm 8 nd)) (fun _ _ _ _ _ => pdts_nil) (fun _ _ _ _ _ => (pd_callN G_pick hr (by decide) hgd (pda_cons (pd_v 0) (pda_cons (pd_v 1) pda_nil)))))) pda_nil)))))))))))))
    (pdss_one (pds_ret [2] (pd_v 2)))))
abbrev s_is_ahead : Stmt := topS 10
abbrev N_is_ahead : List Str := ["_law_one", "_law_two", "_law_at"]
theorem sc_is_ahead : FnScope N_is_ahead ["_law_one", "_law_two"] (defScope s_is_ahead) := ⟨rfl, rfl, rfl, by decide +kernel, rfl, by decide +kernel, by decide +kernel⟩
def m_is_ahead : MS :=
    (mSeq (mIfS [] (mOrT (tBl (mIsi "int" (mVar 0))) (tBl (mIsi "int" (mVar 1))))
    (mRet [] (mAndV (mIsi "int" (mVar 0)) (mOrV (mNotV (mIsi "int" (mVar 1))) (mOp ltD (mVar 0) (mVar 1)))))
    mNext)
    (mSeq (mForR [] (mRng1 (maCons (mCB minD (maCons (mCB lenD (maCons (mVar 0) maNil)) (maCons (mCB lenD (maCons (mVar 1) maNil)) maNil))) maNil)) (.nm 2)
    (mIfS [] (tBl (mOp neD (mOp ixD (mVar 0) (mVar 2)) (mOp ixD (mVar 1) (mVar 2))))
    (mRet [] (mOp ltD (mCB ordD (maCons (mOp ixD (mVar 0) (mVar 2)) maNil)) (mCB ordD (maCons (mOp ixD (mVar 1) (mVar 2)) maNil))))
    mNext))
    (mRet [] (mOp ltD (mCB lenD (maCons (mVar 0) maNil)) (mCB lenD (maCons (mVar 1) maNil))))))
theorem ok_is_ahead {P : Program} {w : World} {K : PySem.W.Frag} {mg : Str → Option Value} {base : Heap} {f : Addr} {fd : FuncData} (F : Fun K "_law_is_ahead" "_law_is_ahead" s_is_ahead f fd) (bi_isinstance : mg "isinstance" = none) (bi_int : mg "int" = none) (bi_range : mg "range" = none) (bi_min : mg "min" = none) (bi_len : mg "len" = none) (bi_ord : mg "ord" = none) : FnD P w K mg base 1 f fd ["_law_one", "_law_two"] (spOf 2 N_is_ahead.length (m_is_ahead )) := by
  have nd := sc_is_ahead.nd
  refine fnD_of F sc_is_ahead fun cdv A out s H E hr hgd => ?_
  have hu := hr.units
  exact (pdss_cons (pds_if [] (PDW.pdt (pdw_or (pdt_val (pd_isi (pd_v 0) bi_isinstance bi_int boot_int)) (pdw_or1 (pdt_val (pd_isi (pd_v 1) bi_isinstance bi_int boot_int)))))
    (pdss_one (pds_ret [] (pd_and (pd_isi (pd_v 0) bi_isinstance bi_int boot_int) (pd_one (pd_or (pd_not (pd_isi (pd_v 1) bi_isinstance bi_int boot_int)) (pd_one (pd_cmp (opd_lt hu) (pd_v 0) (pd_v 1) (nomark _))))))))
    pdss_nil)
    (pdss_cons (pds_forR [] (t := (.nm 2)) PassesOwn.never rfl (pdr_1 (by rfl) bi_range (pda_cons (pd_callB (cd_min2 rfl) (by rfl) bi_min boot_min (pda_cons (pd_callB cd_len (by rfl) bi_len boot_len (pda_cons (pd_v 0) pda_nil)) (pda_cons (pd_callB cd_len (by rfl) bi_len boot_len (pda_cons (pd_v 1) pda_nil)) pda_nil))) pda_nil)) (pgt_nm 2 nd)
    (pdss_one (pds_if [] (pdt_cmp (opd_ne hu) (pd_ix (pd_v 0) (pd_v 2) (fun _ _ => rfl)) (pd_ix (pd_v 1) (pd_v 2) (fun _ _ => rfl)) (nomark _))
    (pdss_one (pds_ret [] (pd_cmp (opd_lt hu) (pd_callB cd_ord (by rfl) bi_ord boot_ord (pda_cons (pd_ix (pd_v 0) (pd_v 2) (fun _ _ => rfl)) pda_nil)) (pd_callB cd_ord (by rfl) bi_ord boot_ord (pda_cons (pd_ix (pd_v 1) (pd_v 2) (fun _ _ => rfl)) pda_nil)) (nomark _))))
    pdss_nil)))
    (pdss_one (pds_ret [] (pd_cmp (opd_lt hu) (pd_callB cd_len (by rfl) bi_len boot_len (pda_cons (pd_v 0) pda_nil)) (pd_callB cd_len (by rfl) bi_len boot_len (pda_cons (pd_v 1) pda_nil)) (nomark _))))))
abbrev s_is_row_ahead : Stmt := topS 11
abbrev N_is_row_ahead : List Str := ["_law_one", "_law_two", "_law_at"]
theorem sc_is_row_ahead : FnScope N_is_row_ahead ["_law_one", "_law_two"] (defScope s_is_row_ahead) := ⟨rfl, rfl, rfl, by decide +kernel, rfl, by decide +kernel, by decide +kernel⟩
def m_is_row_ahead (sp_is_ahead : SpD) : MS :=
    (mSeq (mForR [] (mRng1 (maCons (mCB minD (maCons (mCB lenD (maCons (mVar 0) maNil)) (maCons (mCB lenD (maCons (mVar 1) maNil)) maNil))) maNil)) (.nm 2)
    (mIfS [] (tBl (mOp neD (mOp ixD (mVar 0) (mVar 2)) (mOp ixD (mVar 1) (mVar 2))))
    (mRet [] (mCall sp_is_ahead (maCons (mOp ixD (mVar 0) (mVar 2)) (maCons (mOp ixD (mVar 1) (mVar 2)) maNil))))
    mNext))
    (mRet [] (mOp ltD (mCB lenD (maCons (mVar 0) maNil)) (mCB lenD (maCons (mVar 1) maNil)))))
theorem ok_is_row_ahead {P : Program} {w : World} {K : PySem.W.Frag} {mg : Str → Option Value} {base : Heap} {f : Addr} {fd : FuncData} (F : Fun K "_law_is_row_ahead" "_law_is_row_ahead" s_is_row_ahead f fd) (bi_range : mg "range" = none) (bi_min : mg "min" = none) (bi_len : mg "len" = none) {sp_is_ahead : SpD} (G_is_ahead : Kn P w K mg base "_law_is_ahead" 1 ["_law_one", "_law_two"] sp_is_ahead) : FnD P w K mg base 2 f fd ["_law_one", "_law_two"] (spOf 2 N_is_row_ahead.length (m_is_row_ahead sp_is_ahead)) := by
  have nd := sc_is_row_ahead.nd
  refine fnD_of F sc_is_row_ahead fun cdv A out s H E hr hgd => ?_
  have hu := hr.units
  exact (pdss_cons (pds_forR [] (t := (.nm 2)) PassesOwn.never rfl (pdr_1 (by rfl) bi_range (pda_cons (pd_callB (cd_min2 rfl) (by rfl) bi_min boot_min (pda_cons (pd_callB cd_len (by rfl) bi_len boot_len (pda_cons (pd_v 0) pda_nil)) (pda_cons (pd_callB cd_len (by rfl) bi_len boot_len (pda_cons (pd_v 1) pda_nil)) pda_nil))) pda_nil)) (pgt_nm 2 nd)
    (pdss_one (pds_if [] (pdt_cmp (opd_ne hu) (pd_ix (pd_v 0) (pd_v 2) (fun _ _ => rfl)) (pd_ix (pd_v 1) (pd_v 2) (fun _ _ => rfl)) (nomark _))
    (pdss_one (pds_ret [] (pd_callN G_is_ahead hr (by decide) hgd (pda_cons (pd_ix (pd_v 0) (pd_v 2) (fun _ _ => rfl)) (pda_cons (pd_ix (pd_v 1) (pd_v 2) (fun _ _ => rfl)) pda_nil)))))
    pdss_nil)))
    (pdss_one (pds_ret [] (pd_cmp (opd_lt hu) (pd_callB cd_len (by rfl) bi_len boot_len (pda_cons (pd_v 0) pda_nil)) (pd_callB cd_len (by rfl) bi_len boot_len (pda_cons (pd_v 1) pda_nil)) (nomark _)))))
abbrev s_in_order : Stmt := topS 12
abbrev N_in_order : List Str := ["_law_lines_here", "_law_found", "_law_line", "_law_one"]
theorem sc_in_order : FnScope N_in_order ["_law_lines_here"] (defScope s_in_order) := ⟨rfl, rfl, rfl, by decide +kernel, rfl, by decide +kernel, by decide +kernel⟩
def m_in_order (sp_is_row_ahead : SpD) : MS :=
    (mSeq (mAsgO [] 1 (moLst maNil))
    (mSeq (mFor [] (mSeqI (mVar 0)) (.nm 2)
    (mIns [1] 1 (maCons (mCB lenD (maCons (mLstO (moLc [3] (mSeqI (mVar 1)) (.nm 3) (mNotT (tBl (mCall sp_is_row_ahead (maCons (mVar 2) (maCons (mVar 3) maNil))))) (mVar 3))) maNil)) (maCons (mVar 2) maNil))))
    (mRet [1] (mVar 1))))
theorem ok_in_order {P : Program} {w : World} {K : PySem.W.Frag} {mg : Str → Option Value} {base : Heap} {f : Addr} {fd : FuncData} (F : Fun K "_law_in_order" "_law_in_order" s_in_order f fd) (bi_len : mg "len" = none) {sp_is_row_ahead : SpD} (G_is_row_ahead : Kn P w K mg base "_law_is_row_ahead" 2 ["_law_one", "_law_two"] sp_is_row_ahead) : FnD P w K mg base 3 f fd ["_law_lines_here"] (spOf 1 N_in_order.length (m_in_order sp_is_row_ahead)) := by
  have nd := sc_in_order.nd
  refine fnD_of F sc_in_order fun cdv A out s H E hr hgd => ?_
  have hu := hr.units
  exact (pdss_cons (pds_setO [] 1 nd (pdo_lst pda_nil))
    (pdss_cons (pds_for [] (t := (.nm 2)) PassesOwn.never rfl (pdi_seq (pd_v 0)) (pgt_nm 2 nd)
    (pdss_one (pds_ins [1] (pv 1) (pda_cons (pd_callB cd_len (by rfl) bi_len boot_len (pda_cons (pd_ofO (pdo_lcN (own := [("_law_one", 3)]) (t := (.nm 3)) (mt := (mNotT (tBl (mCall sp_is_row_ahead (maCons (mVar 2) (maCons (mVar 3) maNil)))))) (me := (mVar 3)) rfl nd (pdi_seq (pd_v 1)) (blkOk_by (N := N_in_order) (sc := defScope s_in_order) (by decide +kernel)) (by decide) (fun _ _ _ _ _ => (pgt_nm 3 nd)) (fun _ _ _ _ _ => (pdts_one (pdt_not (pdt_val (pd_callN G_is_row_ahead hr (by decide) hgd (pda_cons (pd_v 2) (pda_cons (pd_v 3) pda_nil))))))) (fun _ _ _ _ _ => (pd_v 3)))) pda_nil)) (pda_cons (pd_v 2) pda_nil)))))
    (pdss_one (pds_ret [1] (pd_v 1)))))
abbrev s_pair : Stmt := topS 13
abbrev N_pair : List Str := ["_law_thing"]
theorem sc_pair : FnScope N_pair ["_law_thing"] (defScope s_pair) := ⟨rfl, rfl, rfl, by decide +kernel, rfl, by decide +kernel, by decide +kernel⟩
def m_pair : MS :=
    (mRet [] (mIf (tBl (mIsi "int" (mVar 0))) (mTup (maCons (mC (.int 0)) (maCons (mVar 0) maNil))) (mTup (maCons (mC (.int 1)) (maCons (mVar 0) maNil)))))
theorem ok_pair {P : Program} {w : World} {K : PySem.W.Frag} {mg : Str → Option Value} {base : Heap} {f : Addr} {fd : FuncData} (F : Fun K "_law_pair" "_law_pair" s_pair f fd) (bi_isinstance : mg "isinstance" = none) (bi_int : mg "int" = none) : FnD P w K mg base 1 f fd ["_law_thing"] (spOf 1 N_pair.length (m_pair )) := by
  have nd := sc_pair.nd
  refine fnD_of F sc_pair fun cdv A out s H E hr hgd => ?_
  have hu := hr.units
  exact (pdss_one (pds_ret [] (pd_ifExp (pdt_val (pd_isi (pd_v 0) bi_isinstance bi_int boot_int)) (pd_tup (pda_cons pd_int (pda_cons (pd_v 0) pda_nil))) (pd_tup (pda_cons pd_int (pda_cons (pd_v 0) pda_nil))))))
abbrev s_are_values_told : Stmt := topS 14
abbrev N_are_values_told : List Str := ["_law_stock_here", "_law_one", "_law_two", "_law_ranks", "_law_ranked", "_law_lines_here", "_law_at", "_law_thing", "_law_pair_here", "_law_line"]
theorem sc_are_values_told : FnScope N_are_values_told ["_law_stock_here"] (defScope s_are_values_told) := ⟨rfl, rfl, rfl, by decide +kernel, rfl, by decide +kernel, by decide +kernel⟩
def m_are_values_told (sp_value_rank sp_pair sp_is_ahead sp_in_order : SpD) : MS :=
    (mSeq (mFor [] (mSeqI (mVar 0)) (.nm 1)
    (mSeq (mIfS [] (tBl (mOp neD (mCB reprD (maCons (mLst (maCons (mCall sp_value_rank (maCons (mVar 1) maNil)) (maCons (mCall sp_value_rank (maCons (mVar 1) maNil)) maNil))) maNil)) (mCB reprD (maCons (mOp mulD (mLst (maCons (mCall sp_pair (maCons (mVar 1) maNil)) maNil)) (mC (.int 2))) maNil))))
    (mRet [] (mC (.bl false)))
    mNext)
    (mFor [] (mSeqI (mVar 0)) (.nm 2)
    (mSeq (mAsg [] 3 (mLst (maCons (mCall sp_value_rank (maCons (mVar 1) maNil)) (maCons (mCall sp_value_rank (maCons (mVar 2) maNil)) maNil))))
    (mSeq (mIfS [] (tBl (mOp neD (mOp ltD (mOp ixD (mVar 3) (mC (.int 0))) (mOp ixD (mVar 3) (mC (.int 1)))) (mCall sp_is_ahead (maCons (mVar 1) (maCons (mVar 2) maNil)))))
    (mRet [] (mC (.bl false)))
    mNext)
    (mIfS [] (tBl (mOp neD (mOp eqD (mOp ixD (mVar 3) (mC (.int 0))) (mOp ixD (mVar 3) (mC (.int 1)))) (mOp eqD (mCB reprD (maCons (mVar 1) maNil)) (mCB reprD (maCons (mVar 2) maNil)))))
    (mRet [] (mC (.bl false)))
    mNext))))))
    (mSeq (mAsg [] 4 (mCP sortedP (maCons (mLstO (moLc [6, 7] (mEnum (maCons (mVar 0) maNil)) (.tp [6, 7]) mYes (mTup (maCons (mCall sp_value_rank (maCons (mVar 7) maNil)) (maCons (mVar 6) maNil))))) maNil)))
    (mSeq (mAsg [] 5 (mCall sp_in_order (maCons (mLstO (moLc [7] (mSeqI (mVar 0)) (.nm 7) mYes (mTup (maCons (mVar 7) maNil)))) maNil)))
    (mRet [] (mOp eqD (mCB reprD (maCons (mLstO (moLc [8] (mSeqI (mVar 4)) (.nm 8) mYes (mOp ixD (mVar 0) (mOp ixD (mVar 8) (mC (.int 1)))))) maNil)) (mCB reprD (maCons (mLstO (moLc [9] (mSeqI (mVar 5)) (.nm 9) mYes (mOp ixD (mVar 9) (mC (.int 0))))) maNil)))))))
theorem ok_are_values_told {P : Program} {w : World} {K : PySem.W.Frag} {mg : Str → Option Value} {base : Heap} {f : Addr} {fd : FuncData} (F : Fun K "_law_are_values_told" "_law_are_values_told" s_are_values_told f fd) (bi_repr : mg "repr" = none) (bi_sorted : mg "sorted" = none) (bi_enumerate : mg "enumerate" = none) {sp_value_rank : SpD} (GK_value_rank : KnK P w K mg base "value_rank" 1 ["value"] sp_value_rank) {sp_pair : SpD} (G_pair : Kn P w K mg base "_law_pair" 1 ["_law_thing"] sp_pair) {sp_is_ahead : SpD} (G_is_ahead : Kn P w K mg base "_law_is_ahead" 1 ["_law_one", "_law_two"] sp_is_ahead) {sp_in_order : SpD} (G_in_order : Kn P w K mg base "_law_in_order" 3 ["_law_lines_here"] sp_in_order) : FnD P w K mg base 4 f fd ["_law_stock_here"] (spOf 1 N_are_values_told.length (m_are_values_told sp_value_rank sp_pair sp_is_ahead sp_in_order)) := by
  have nd := sc_are_values_told.nd
  have G_value_rank := GK_value_rank.kn
  refine fnD_of F sc_are_values_told fun cdv A out s H E hr hgd => ?_
  have hu := hr.units
  exact (pdss_cons (pds_for [] (t := (.nm 1)) PassesOwn.never rfl (pdi_seq (pd_v 0)) (pgt_nm 1 nd)
    (pdss_cons (pds_if [] (pdt_cmp (opd_ne hu) (pd_callB (cd_repr hu hgd) (by rfl) bi_repr boot_repr (pda_cons (pd_lst (pda_cons (pd_callN G_value_rank hr (by decide) hgd (pda_cons (pd_v 1) pda_nil)) (pda_cons (pd_callNK GK_value_rank hr (by decide) hgd (pdk_cons (pd_v 1) pdk_nil)) pda_nil))) pda_nil)) (pd_callB (cd_repr hu hgd) (by rfl) bi_repr boot_repr (pda_cons (pd_op opd_mul (pd_lst (pda_cons (pd_callN G_pair hr (by decide) hgd (pda_cons (pd_v 1) pda_nil)) pda_nil)) pd_int) pda_nil)) (nomark _))
    (pdss_one (pds_ret [] pd_bl))
    pdss_nil)
    (pdss_one (pds_for [] (t := (.nm 2)) PassesOwn.never rfl (pdi_seq (pd_v 0)) (pgt_nm 2 nd)
    (pdss_cons (pds_set [] 3 nd (pd_lst (pda_cons (pd_callN G_value_rank hr (by decide) hgd (pda_cons (pd_v 1) pda_nil)) (pda_cons (pd_callN G_value_rank hr (by decide) hgd (pda_cons (pd_v 2) pda_nil)) pda_nil))))
    (pdss_cons (pds_if [] (pdt_cmp (opd_ne hu) (pd_cmp (opd_lt hu) (pd_ix (pd_v 3) pd_int (fun _ _ => rfl)) (pd_ix (pd_v 3) pd_int (fun _ _ => rfl)) (nomark _)) (pd_callN G_is_ahead hr (by decide) hgd (pda_cons (pd_v 1) (pda_cons (pd_v 2) pda_nil))) (nomark _))
    (pdss_one (pds_ret [] pd_bl))
    pdss_nil)
    (pdss_one (pds_if [] (pdt_cmp (opd_ne hu) (pd_cmp (opd_eq hu) (pd_ix (pd_v 3) pd_int (fun _ _ => rfl)) (pd_ix (pd_v 3) pd_int (fun _ _ => rfl)) (nomark _)) (pd_cmp (opd_eq hu) (pd_callB (cd_repr hu hgd) (by rfl) bi_repr boot_repr (pda_cons (pd_v 1) pda_nil)) (pd_callB (cd_repr hu hgd) (by rfl) bi_repr boot_repr (pda_cons (pd_v 2) pda_nil)) (nomark _)) (nomark _))
    (pdss_one (pds_ret [] pd_bl))
    pdss_nil))))))))
    (pdss_cons (pds_set [] 4 nd (pd_callP (cp_sorted hu) (by rfl) bi_sorted boot_sorted (pda_cons (pd_ofO (pdo_lcN (own := [("_law_at", 6), ("_law_thing", 7)]) (t := (.tp [6, 7])) (mt := mYes) (me := (mTup (maCons (mCall sp_value_rank (maCons (mVar 7) maNil)) (maCons (mVar 6) maNil)))) rfl nd (pdi_enum (by rfl) bi_enumerate (pda_cons (pd_v 0) pda_nil)) (blkOk_by (N := N_are_values_told) (sc := defScope s_are_values_told) (by decide +kernel)) (by decide) (fun _ _ _ _ _ => (pgt_tp rfl (pgs_nm 6 nd (pgs_nm 7 nd pgs_end)))) (fun _ _ _ _ _ => pdts_nil) (fun _ _ _ _ _ => (pd_tup (pda_cons (pd_callN G_value_rank hr (by decide) hgd (pda_cons (pd_v 7) pda_nil)) (pda_cons (pd_v 6) pda_nil)))))) pda_nil)))
    (pdss_cons (pds_set [] 5 nd (pd_callN G_in_order hr (by decide) hgd (pda_cons (pd_ofO (pdo_lcN (own := [("_law_thing", 7)]) (t := (.nm 7)) (mt := mYes) (me := (mTup (maCons (mVar 7) maNil))) rfl nd (pdi_seq (pd_v 0)) (blkOk_by (N := N_are_values_told) (sc := defScope s_are_values_told) (by decide +kernel)) (by decide) (fun _ _ _ _ _ => (pgt_nm 7 nd)) (fun _ _ _ _ _ => pdts_nil) (fun _ _ _ _ _ => (pd_tup (pda_cons (pd_v 7) pda_nil))))) pda_nil)))
    (pdss_one (pds_ret [] (pd_cmp (opd_eq hu) (pd_callB (cd_repr hu hgd) (by rfl) bi_repr boot_repr (pda_cons (pd_ofO (pdo_lcN (own := [("_law_pair_here", 8)]) (t := (.nm 8)) (mt := mYes) (me := (mOp ixD (mVar 0) (mOp ixD (mVar 8) (mC (.int 1))))) rfl nd (pdi_seq (pd_v 4)) (blkOk_by (N := N_are_values_told) (sc := defScope s_are_values_told) (by decide +kernel)) (by decide) (fun _ _ _ _ _ => (pgt_nm 8 nd)) (fun _ _ _ _ _ => pdts_nil) (fun _ _ _ _ _ => (pd_ix (pd_v 0) (pd_ix (pd_v 8) pd_int (fun _ _ => rfl)) (fun _ _ => rfl))))) pda_nil)) (pd_callB (cd_repr hu hgd) (by rfl) bi_repr boot_repr (pda_cons (pd_ofO (pdo_lcN (own := [("_law_line", 9)]) (t := (.nm 9)) (mt := mYes) (me := (mOp ixD (mVar 9) (mC (.int 0)))) rfl nd (pdi_seq (pd_v 5)) (blkOk_by (N := N_are_values_told) (sc := defScope s_are_values_told) (by decide +kernel)) (by decide) (fun _ _ _ _ _ => (pgt_nm 9 nd)) (fun _ _ _ _ _ => pdts_nil) (fun _ _ _ _ _ => (pd_ix (pd_v 9) pd_int (fun _ _ => rfl))))) pda_nil)) (nomark _)))))))
abbrev s_are_rows_told : Stmt := topS 15
abbrev N_are_rows_told : List Str := ["_law_lines_here", "_law_one", "_law_due", "_law_ranks", "_law_at", "_law_to", "_law_two", "_law_ranked", "_law_thing", "_law_spot", "_law_rank", "_law_pair_here"]
theorem sc_are_rows_told : FnScope N_are_rows_told ["_law_lines_here"] (defScope s_are_rows_told) := ⟨rfl, rfl, rfl, by decide +kernel, rfl, by decide +kernel, by decide +kernel⟩
def m_are_rows_told (sp_pair sp_row_rank sp_is_row_ahead sp_in_order : SpD) : MS :=
    (mSeq (mFor [] (mSeqI (mVar 0)) (.nm 1)
    (mSeq (mAsg [] 2 (mCB tupleD (maCons (mLstO (moLc [8] (mSeqI (mVar 1)) (.nm 8) mYes (mCall sp_pair (maCons (mVar 8) maNil)))) maNil)))
    (mIfS [] (tBl (mOp neD (mCB reprD (maCons (mLst (maCons (mCall sp_row_rank (maCons (mVar 1) maNil)) (maCons (mCall sp_row_rank (maCons (mVar 1) maNil)) (maCons (mCall sp_row_rank (maCons (mVar 1) maNil)) maNil)))) maNil)) (mCB reprD (maCons (mOp mulD (mLst (maCons (mVar 2) maNil)) (mC (.int 3))) maNil))))
    (mRet [] (mC (.bl false)))
    mNext)))
    (mSeq (mAsgS [] 3 (moLc [1] (mSeqI (mVar 0)) (.nm 1) mYes (mCall sp_row_rank (maCons (mVar 1) maNil))))
    (mSeq (mFor [] (mEnum (maCons (mVar 0) maNil)) (.tp [4, 1])
    (mFor [] (mEnum (maCons (mVar 0) maNil)) (.tp [5, 6])
    (mSeq (mIfS [] (tBl (mOp neD (mOp ltD (mOp ixD (mVar 3) (mVar 4)) (mOp ixD (mVar 3) (mVar 5))) (mCall sp_is_row_ahead (maCons (mVar 1) (maCons (mVar 6) maNil)))))
    (mRet [] (mC (.bl false)))
    mNext)
    (mIfS [] (tBl (mOp neD (mOp eqD (mOp ixD (mVar 3) (mVar 4)) (mOp ixD (mVar 3) (mVar 5))) (mOp eqD (mCB reprD (maCons (mVar 1) maNil)) (mCB reprD (maCons (mVar 6) maNil)))))
    (mRet [] (mC (.bl false)))
    mNext))))
    (mSeq (mAsg [] 7 (mCP sortedP (maCons (mLstO (moLc [9, 10] (mEnum (maCons (mVar 3) maNil)) (.tp [9, 10]) mYes (mTup (maCons (mVar 10) (maCons (mVar 9) maNil))))) maNil)))
    (mRet [] (mOp eqD (mCB reprD (maCons (mLstO (moLc [11] (mSeqI (mVar 7)) (.nm 11) mYes (mOp ixD (mVar 0) (mOp ixD (mVar 11) (mC (.int 1)))))) maNil)) (mCB reprD (maCons (mCall sp_in_order (maCons (mVar 0) maNil)) maNil))))))))
theorem ok_are_rows_told {P : Program} {w : World} {K : PySem.W.Frag} {mg : Str → Option Value} {base : Heap} {f : Addr} {fd : FuncData} (F : Fun K "_law_are_rows_told" "_law_are_rows_told" s_are_rows_told f fd) (bi_tuple : mg "tuple" = none) (bi_repr : mg "repr" = none) (bi_enumerate : mg "enumerate" = none) (bi_sorted : mg "sorted" = none) {sp_pair : SpD} (G_pair : Kn P w K mg base "_law_pair" 1 ["_law_thing"] sp_pair) {sp_row_rank : SpD} (GK_row_rank : KnK P w K mg base "row_rank" 2 ["row"] sp_row_rank) {sp_is_row_ahead : SpD} (G_is_row_ahead : Kn P w K mg base "_law_is_row_ahead" 2 ["_law_one", "_law_two"] sp_is_row_ahead) {sp_in_order : SpD} (G_in_order : Kn P w K mg base "_law_in_order" 3 ["_law_lines_here"] sp_in_order) : FnD P w K mg base 4 f fd ["_law_lines_here"] (spOf 1 N_are_rows_told.length (m_are_rows_told sp_pair sp_row_rank sp_is_row_ahead sp_in_order)) := by
  have nd := sc_are_rows_told.nd
  have G_row_rank := GK_row_rank.kn
  refine fnD_of F sc_are_rows_told fun cdv A out s H E hr hgd => ?_
  have hu := hr.units
  exact (pdss_cons (pds_for [] (t := (.nm 1)) PassesOwn.never rfl (pdi_seq (pd_v 0)) (pgt_nm 1 nd)
    (pdss_cons (pds_set [] 2 nd (pd_callTy cd_tuple (by rfl) bi_tuple boot_tuple (pda_cons (pd_ofO (pdo_lcN (own := [("_law_thing", 8)]) (t := (.nm 8)) (mt := mYes) (me := (mCall sp_pair (maCons (mVar 8) maNil))) rfl nd (pdi_seq (pd_v 1)) (blkOk_by (N := N_are_rows_told) (sc := defScope s_are_rows_told) (by decide +kernel)) (by decide) (fun _ _ _ _ _ => (pgt_nm 8 nd)) (fun _ _ _ _ _ => pdts_nil) (fun _ _ _ _ _ => (pd_callN G_pair hr (by decide) hgd (pda_cons (pd_v 8) pda_nil))))) pda_nil)))
    (pdss_one (pds_if [] (pdt_cmp (opd_ne hu) (pd_callB (cd_repr hu hgd) (by rfl) bi_repr boot_repr (pda_cons (pd_lst (pda_cons (pd_callN G_row_rank hr (by decide) hgd (pda_cons (pd_v 1) pda_nil)) (pda_cons (pd_callNK GK_row_rank hr (by decide) hgd (pdk_cons (pd_v 1) pdk_nil)) (pda_cons (pd_callN G_row_rank hr (by decide) hgd (pda_cons (pd_v 1) pda_nil)) pda_nil)))) pda_nil)) (pd_callB (cd_repr hu hgd) (by rfl) bi_repr boot_repr (pda_cons (pd_op opd_mul (pd_lst (pda_cons (pd_v 2) pda_nil)) pd_int) pda_nil)) (nomark _))
    (pdss_one (pds_ret [] pd_bl))
    pdss_nil))))
    (pdss_cons (pds_setLcSN (own := [("_law_one", 1)]) (t := (.nm 1)) (mt := mYes) (me := (mCall sp_row_rank (maCons (mVar 1) maNil))) [] (i := 3) rfl nd rfl rfl (sw_true rfl rfl rfl (by decide +kernel)) (pdi_seq (pd_v 0)) (blkOk_by (N := N_are_rows_told) (sc := defScope s_are_rows_told) (by decide +kernel)) (by decide) (fun _ _ _ _ _ => (pgt_nm 1 nd)) (fun _ _ _ _ _ => pdts_nil) (fun _ _ _ _ _ => (pd_callN G_row_rank hr (by decide) hgd (pda_cons (pd_v 1) pda_nil))))
    (pdss_cons (pds_for [] (t := (.tp [4, 1])) PassesOwn.never rfl (pdi_enum (by rfl) bi_enumerate (pda_cons (pd_v 0) pda_nil)) (pgt_tp rfl (pgs_nm 4 nd (pgs_nm 1 nd pgs_end)))
    (pdss_one (pds_for [] (t := (.tp [5, 6])) PassesOwn.never rfl (pdi_enum (by rfl) bi_enumerate (pda_cons (pd_v 0) pda_nil)) (pgt_tp rfl (pgs_nm 5 nd (pgs_nm 6 nd pgs_end)))
    (pdss_cons (pds_if [] (pdt_cmp (opd_ne hu) (pd_cmp (opd_lt hu) (pd_ix (pd_v 3) (pd_v 4) (fun _ _ => rfl)) (pd_ix (pd_v 3) (pd_v 5) (fun _ _ => rfl)) (nomark _)) (pd_callN G_is_row_ahead hr (by decide) hgd (pda_cons (pd_v 1) (pda_cons (pd_v 6) pda_nil))) (nomark _))
    (pdss_one (pds_ret [] pd_bl))
    pdss_nil)
    (pdss_one (pds_if [] (pdt_cmp (opd_ne hu) (pd_cmp (opd_eq hu) (pd_ix (pd_v 3) (pd_v 4) (fun _ _ => rfl)) (pd_ix (pd_v 3) (pd_v 5) (fun _ _ => rfl)) (nomark _)) (pd_cmp (opd_eq hu) (pd_callB (cd_repr hu hgd) (by rfl) bi_repr boot_repr (pda_cons (pd_v 1) pda_nil)) (pd_callB (cd_repr hu hgd) (by rfl) bi_repr boot_repr (pda_cons (pd_v 6) pda_nil)) (nomark _)) (nomark _))
    (pdss_one (pds_ret [] pd_bl))
    pdss_nil))))))
    (pdss_cons (pds_set [] 7 nd (pd_callP (cp_sorted hu) (by rfl) bi_sorted boot_sorted (pda_cons (pd_ofO (pdo_lcN (own := [("_law_spot", 9), ("_law_rank", 10)]) (t := (.tp [9, 10])) (mt := mYes) (me := (mTup (maCons (mVar 10) (maCons (mVar 9) maNil)))) rfl nd (pdi_enum (by rfl) bi_enumerate (pda_cons (pd_v 3) pda_nil)) (blkOk_by (N := N_are_rows_told) (sc := defScope s_are_rows_told) (by decide +kernel)) (by decide) (fun _ _ _ _ _ => (pgt_tp rfl (pgs_nm 9 nd (pgs_nm 10 nd pgs_end)))) (fun _ _ _ _ _ => pdts_nil) (fun _ _ _ _ _ => (pd_tup (pda_cons (pd_v 10) (pda_cons (pd_v 9) pda_nil)))))) pda_nil)))
    (pdss_one (pds_ret [] (pd_cmp (opd_eq hu) (pd_callB (cd_repr hu hgd) (by rfl) bi_repr boot_repr (pda_cons (pd_ofO (pdo_lcN (own := [("_law_pair_here", 11)]) (t := (.nm 11)) (mt := mYes) (me := (mOp ixD (mVar 0) (mOp ixD (mVar 11) (mC (.int 1))))) rfl nd (pdi_seq (pd_v 7)) (blkOk_by (N := N_are_rows_told) (sc := defScope s_are_rows_told) (by decide +kernel)) (by decide) (fun _ _ _ _ _ => (pgt_nm 11 nd)) (fun _ _ _ _ _ => pdts_nil) (fun _ _ _ _ _ => (pd_ix (pd_v 0) (pd_ix (pd_v 11) pd_int (fun _ _ => rfl)) (fun _ _ => rfl))))) pda_nil)) (pd_callB (cd_repr hu hgd) (by rfl) bi_repr boot_repr (pda_cons (pd_callN G_in_order hr (by decide) hgd (pda_cons (pd_v 0) pda_nil)) pda_nil)) (nomark _))))))))
abbrev s_law : Stmt := topS 16
abbrev N_law : List Str := ["_law_script", "_law_purse_here", "_law_turn", "_law_stock_here", "_law_edges", "_law_lines_here"]
theorem sc_law : FnScope N_law ["_law_script"] (defScope s_law) := ⟨rfl, rfl, rfl, by decide +kernel, rfl, by decide +kernel, by decide +kernel⟩
/- law: what stands behind the first statement -/
def m_law (sp_stock sp_are_values_told sp_are_rows_told sp_lines : SpD) : MS :=
    (mSeq (mForR [] (mRng1 (maCons (mC (.int 4)) maNil)) (.nm 2)
    (mSeq (mAsg [] 3 (mCall sp_stock (maCons (mVar 1) maNil)))
    (mIfS [] (mOrT (mNotT (tBl (mCall sp_are_values_told (maCons (mVar 3) maNil)))) (mNotT (tBl (mCall sp_are_rows_told (maCons (mCall sp_lines (maCons (mVar 1) (maCons (mVar 3) maNil))) maNil)))))
    (mRet [] (mC (.bl false)))
    mNext)))
    (mSeq (mAsg [] 4 (mLst (maCons (mOp powD (mC (.int 10)) (mC (.int 9))) (maCons (mC (.str (Str.ofString "a"))) (maCons (mUn negD (mOp powD (mC (.int 10)) (mC (.int 9)))) (maCons (mC (.str (Str.ofString "zzzzzzzzzzzz"))) (maCons (mC (.int 0)) (maCons (mC (.str (Str.ofString "zz"))) (maCons (mUn negD (mC (.int 1))) (maCons (mC (.str (Str.ofString "aa"))) (maCons (mC (.int 9)) (maCons (mC (.int 10)) (maCons (mC (.str (Str.ofString "b"))) (maCons (mC (.str (Str.ofString "z"))) maNil))))))))))))))
    (mSeq (mAsg [] 5 (mLst (maCons (mTup (maCons (mC (.str (Str.ofString "bo"))) maNil)) (maCons (mTup (maCons (mC (.int 3)) (maCons (mC (.str (Str.ofString "a"))) maNil))) (maCons (mTup (maCons (mC (.int 3)) maNil)) (maCons (mTup (maCons (mUn negD (mC (.int 7))) (maCons (mC (.int 9)) maNil))) (maCons (mTup maNil) (maCons (mTup (maCons (mC (.str (Str.ofString "a"))) (maCons (mC (.int 3)) maNil))) (maCons (mTup (maCons (mC (.str (Str.ofString "a"))) maNil)) (maCons (mTup (maCons (mC (.int 3)) (maCons (mC (.str (Str.ofString "a"))) (maCons (mC (.int 0)) maNil)))) (maCons (mTup (maCons (mUn negD (mC (.int 7))) (maCons (mC (.int 10)) maNil))) (maCons (mTup (maCons (mC (.str (Str.ofString "ab"))) maNil)) (maCons (mTup (maCons (mC (.int 3)) (maCons (mOp powD (mC (.int 10)) (mC (.int 9))) maNil))) maNil)))))))))))))
    (mRet [] (mAndV (mCall sp_are_values_told (maCons (mVar 4) maNil)) (mCall sp_are_rows_told (maCons (mVar 5) maNil)))))))
end K02

/-! What repr shows: sizes, and that unlike data look unlike. -/
namespace BV
open PySem PySem.Spec PyProof.Rows L2 Evl

theorem cps_len (x : Str) : x.length = x.cps.toList.length := by
  rw [Array.length_toList]
  rfl
def txt (d : D) : List Nat := d.py.shown.cps.toList
/-- of at most k depth and m signs -/
structure PL (k m : Nat) (d : D) : Prop where
  ch : ∀ c ∈ txt d, c < 1114112
  pf : d.pf = true
  sh : d.py.showable = true
  cl : d.py.canLay0 = true
  dp : d.py.depth ≤ k
  ln : d.py.shown.length ≤ m
theorem PL.mono {k m k' m' : Nat} {d : D} (h : PL k m d) (a : k ≤ k') (b : m ≤ m') : PL k' m' d := ⟨h.ch, h.pf, h.sh, h.cl, Nat.le_trans h.dp a, Nat.le_trans h.ln b⟩
theorem PL.eq {k m : Nat} {d : D} (h : PL k m d) (a : k ≤ 64) : okEq d = true := by
  have := h.dp
  simp only [okEq, SeqAt.shaped, h.pf, h.cl, Bool.true_and, decide_eq_true_eq]
  omega
theorem PL.repr {k m : Nat} {d : D} (h : PL k m d) (a : k ≤ 60) (b : m ≤ 4000000) : okRepr d = true := by
  have := h.dp
  have := h.ln
  simp only [okRepr, h.pf, h.sh, Bool.true_and, Bool.and_eq_true, decide_eq_true_eq, szOk]
  omega
theorem PL.bl (b : Bool) : PL 0 5 (.bl b) := ⟨by cases b <;> decide, rfl, rfl, rfl, Nat.le_refl _, by cases b <;> decide⟩
/-- what is shown can be looked at -/
theorem PL.seen {k m : Nat} {d : D} (h : PL k m d) : okEq (.str d.py.shown) = true := by
  have h1 : d.py.shown.cps.all (· < 0x110000) = true := by
    rw [Array.all_eq_true_iff_forall_mem]
    intro c hc
    have := h.ch c (Array.mem_toList_iff.mpr hc)
    simp only [decide_eq_true_eq]
    omega
  show (true && (d.py.shown.cps.all (· < 0x110000) && decide (0 ≤ 64))) = true
  rw [h1]
  rfl
/-! ### texts -/
theorem txt_len (d : D) : d.py.shown.length = (txt d).length := cps_len _
/-- a number's signs -/
theorem txt_int (i : Int) : txt (.int i) = if i < 0 then 45 :: TL.numL i.natAbs else TL.numL i.natAbs := by
  unfold txt
  have e : (PyData.int i).shown = Str.ofString (toString i) := by simp only [PyData.shown]
  show (PyData.int i).shown.cps.toList = _
  rw [e, signs_ofString, Int.toString_eq_repr, Int.repr_eq_if]
  by_cases h : 0 ≤ i
  · rw [if_pos h, if_neg (by omega), Nat.toList_repr]
    have : i.toNat = i.natAbs := by omega
    rw [this]
    rfl
  · rw [if_neg h, if_pos (by omega), String.toList_append, List.map_append, Nat.toList_repr]
    have : (-i).toNat = i.natAbs := by omega
    rw [this]
    rfl
theorem txt_int_inj {i j : Int} (h : txt (.int i) = txt (.int j)) : i = j := by
  rw [txt_int, txt_int] at h
  by_cases hi : i < 0
  · by_cases hj : j < 0
    · rw [if_pos hi, if_pos hj] at h
      have := TL.numL_inj (List.cons.inj h).2
      omega
    · rw [if_pos hi, if_neg hj] at h
      exact absurd (h ▸ List.mem_cons_self) (TL.numL_free (n := j.natAbs) (s := 45) (by omega))
  · by_cases hj : j < 0
    · rw [if_neg hi, if_pos hj] at h
      exact absurd (h ▸ List.mem_cons_self) (TL.numL_free (n := i.natAbs) (s := 45) (by omega))
    · rw [if_neg hi, if_neg hj] at h
      have := TL.numL_inj h
      omega
theorem txt_int_free {i : Int} {s : Nat} (h : s < 45 ∨ (45 < s ∧ s < 48) ∨ 57 < s) : s ∉ txt (.int i) := by
  rw [txt_int]
  have := TL.numL_free (n := i.natAbs) (s := s) (by omega)
  split
  · simp only [List.mem_cons, not_or]
    exact ⟨by omega, this⟩
  · exact this
theorem txt_int_ne (i : Int) : txt (.int i) ≠ [] := by
  rw [txt_int]
  split
  · simp
  · exact TL.numL_ne _
theorem PL.int {i : Int} (h : i.natAbs ≤ 1000000001) : PL 0 11 (.int i) := by
  refine ⟨fun c hc => ?_, rfl, ?_, rfl, Nat.le_refl _, ?_⟩
  · by_cases h1 : c < 1114112
    · exact h1
    · exact absurd hc (txt_int_free (by omega))
  · have : i.natAbs.log2 < 1920 := by
      by_cases h0 : i.natAbs = 0
      · rw [h0]; decide
      · have h2 : i.natAbs < 2 ^ 40 := Nat.lt_of_le_of_lt h (by decide)
        have := (Nat.log2_lt h0).mpr h2
        omega
    simp only [D.py, PyData.showable, decide_eq_true_eq]
    exact this
  · rw [txt_len, txt_int]
    have := TL.numL_len (n := i.natAbs) (k := 10) (by decide) (by omega)
    split <;> (try simp only [List.length_cons]) <;> omega
/-- small letters -/
def Low (s : Str) : Prop := ∀ c ∈ s.cps.toList, 97 ≤ c ∧ c ≤ 122
theorem low_char {c : Nat} (h : 97 ≤ c ∧ c ≤ 122) : Builtin.Str.reprChar 39 c = [c] := by
  have : ∀ c < 123, 97 ≤ c → Builtin.Str.reprChar 39 c = [c] := by decide +kernel
  exact this c (by omega) h.1
theorem txt_low {s : Str} (h : Low s) : txt (.str s) = 39 :: (s.cps.toList ++ [39]) := by
  have hq : reprQuote s = 39 := by
    unfold reprQuote
    have : s.cps.contains 39 = false := by
      rw [Bool.eq_false_iff]
      intro hc
      have := h 39 (by rw [Array.contains_iff_mem] at hc; exact Array.mem_toList_iff.mpr hc)
      omega
    rw [this]
    rfl
  show (reprText s).cps.toList = _
  unfold reprText
  rw [hq, Array.toList_push, ← Array.foldl_toList]
  have : ∀ (l : List Nat) (a : Array Nat), (∀ c ∈ l, 97 ≤ c ∧ c ≤ 122) → (l.foldl (fun out c => out ++ (Builtin.Str.reprChar 39 c).toArray) a).toList = a.toList ++ l := by
    intro l
    induction l with
    | nil => intro a _; simp
    | cons c l ih =>
      intro a hl
      rw [List.foldl_cons, ih _ fun x hx => hl x (by simp [hx]), low_char (hl c (by simp))]
      simp
  rw [this _ _ h]
  simp
theorem PL.str {s : Str} (h : Low s) : PL 0 (s.length + 2) (.str s) := by
  refine ⟨fun c hc => ?_, rfl, rfl, ?_, Nat.le_refl _, ?_⟩
  · rw [txt_low h] at hc
    simp only [List.mem_cons, List.mem_append, List.not_mem_nil, or_false] at hc
    rcases hc with hc | hc | hc
    · omega
    · have := h c hc
      omega
    · omega
  · show s.cps.all (· < 0x110000) = true
    rw [Array.all_eq_true_iff_forall_mem]
    intro c hc
    have := h c (Array.mem_toList_iff.mpr hc)
    simp only [decide_eq_true_eq]
    omega
  · rw [txt_len, txt_low h, cps_len]
    simp
/-! ### tuples, lists -/
theorem pys_map (ds : List D) : D.pys ds = ds.map D.py := by
  induction ds with
  | nil => rfl
  | cons d ds ih => simp only [D.pys, List.map_cons, ih]
theorem shownAll_map (ds : List PyData) : PyData.shownAll ds = ds.map PyData.shown := by
  induction ds with
  | nil => rfl
  | cons d ds ih => simp only [PyData.shownAll, List.map_cons, ih]
theorem all_pf {ds : List D} (h : ∀ d ∈ ds, d.pf = true) : D.pfs ds = true := by
  induction ds with
  | nil => rfl
  | cons d ds ih => simp only [D.pfs, h d (by simp), ih fun x hx => h x (by simp [hx]), Bool.and_self]
theorem all_sh {ds : List PyData} (h : ∀ d ∈ ds, d.showable = true) : PyData.showableAll ds = true := by
  induction ds with
  | nil => rfl
  | cons d ds ih => simp only [PyData.showableAll, h d (by simp), ih fun x hx => h x (by simp [hx]), Bool.and_self]
theorem all_cl {ds : List PyData} (h : ∀ d ∈ ds, d.canLay0 = true) : PyData.canLayAll0 ds = true := by
  induction ds with
  | nil => rfl
  | cons d ds ih => simp only [PyData.canLayAll0, h d (by simp), ih fun x hx => h x (by simp [hx]), Bool.and_self]
theorem all_dp {k : Nat} {ds : List PyData} (h : ∀ d ∈ ds, d.depth ≤ k) : PyData.depthAll ds ≤ k := by
  induction ds with
  | nil => exact Nat.zero_le _
  | cons d ds ih =>
    have h1 := h d (by simp)
    have h2 := ih fun x hx => h x (by simp [hx])
    simp only [PyData.depthAll]
    omega
def joinL : List (List Nat) → List Nat
  | [] => []
  | [t] => t
  | t :: u :: r => t ++ 44 :: 32 :: joinL (u :: r)
theorem joinL_of : ∀ ts : List Str, (Str.join (Str.ofString ", ") ts).cps.toList = joinL (ts.map fun t => t.cps.toList)
  | [] => rfl
  | [t] => rfl
  | t :: u :: r => by
    have ih := joinL_of (u :: r)
    show ((t ++ Str.ofString ", ") ++ Str.join (Str.ofString ", ") (u :: r)).cps.toList = _
    rw [cps_toList_append, cps_toList_append, ih]
    simp only [List.map_cons, joinL]
    rw [List.append_assoc]
    rfl
theorem joinL_len {m : Nat} : ∀ ts : List (List Nat), (∀ t ∈ ts, t.length ≤ m) → (joinL ts).length ≤ ts.length * (m + 2)
  | [], _ => by simp [joinL]
  | [t], h => by
    have := h t (by simp)
    simp only [joinL, List.length_cons, List.length_nil]
    omega
  | t :: u :: r, h => by
    have ih := joinL_len (u :: r) fun x hx => h x (by simp [hx])
    have := h t (by simp)
    simp only [joinL, List.length_cons, List.length_append] at ih ⊢
    rw [Nat.add_mul (r.length + 1) 1]
    omega
theorem txt_tup (ds : List D) : txt (.tup ds) = 40 :: (joinL (ds.map txt) ++ if ds.length = 1 then [44, 41] else [41]) := by
  show (tupleText (PyData.shownAll (D.pys ds))).cps.toList = _
  unfold tupleText
  rw [cps_toList_append, cps_toList_append, joinL_of, shownAll_map, pys_map]
  simp only [List.map_map, List.length_map]
  by_cases h : ds.length = 1
  · rw [if_pos (by rw [h]; rfl), if_pos h, List.append_assoc]
    rfl
  · rw [if_neg (by simpa using h), if_neg h, List.append_assoc]
    rfl
theorem textFrom_up {m : Nat} : ∀ (ts : List Str) (k : Nat) (acc : Str), (∀ t ∈ ts, t.length ≤ m) → (textFrom k acc ts).length ≤ acc.length + ts.length * (m + 2)
  | [], k, acc, _ => by simp [textFrom]
  | t :: ts, k, acc, h => by
    have ih := textFrom_up ts (k + 1) (acc ++ (if k > 0 then ", " else "" : String) ++ t) fun x hx => h x (by simp [hx])
    have h1 := h t (by simp)
    have h2 : (acc ++ (if k > 0 then ", " else "" : String) ++ t : Str).length ≤ acc.length + 2 + t.length := by
      rw [strLen_append, strLen_append]
      have : (Str.ofString (if k > 0 then ", " else "")).length ≤ 2 := by split <;> decide
      omega
    show (textFrom (k + 1) (acc ++ (if k > 0 then ", " else "" : String) ++ t) ts).length ≤ _
    simp only [List.length_cons]
    rw [Nat.add_mul ts.length 1]
    omega
theorem joinL_mem {c : Nat} : ∀ {ts : List (List Nat)}, c ∈ joinL ts → c = 44 ∨ c = 32 ∨ ∃ t ∈ ts, c ∈ t
  | [], h => by simp [joinL] at h
  | [t], h => .inr (.inr ⟨t, by simp, h⟩)
  | t :: u :: r, h => by
    simp only [joinL, List.mem_append, List.mem_cons] at h
    rcases h with h | h | h | h
    · exact .inr (.inr ⟨t, by simp, h⟩)
    · exact .inl h
    · exact .inr (.inl h)
    · rcases joinL_mem h with h | h | ⟨x, h1, h2⟩
      · exact .inl h
      · exact .inr (.inl h)
      · exact .inr (.inr ⟨x, by simp only [List.mem_cons] at h1 ⊢; exact .inr h1, h2⟩)
theorem textFrom_mem {c : Nat} : ∀ {ts : List Str} {k : Nat} {acc : Str}, c ∈ (textFrom k acc ts).cps.toList → c ∈ acc.cps.toList ∨ c = 44 ∨ c = 32 ∨ ∃ t ∈ ts, c ∈ t.cps.toList
  | [], k, acc, h => .inl h
  | t :: ts, k, acc, h => by
    rcases textFrom_mem (ts := ts) h with h | h | h | ⟨x, h1, h2⟩
    · rw [cps_toList_append, cps_toList_append, List.mem_append, List.mem_append] at h
      rcases h with (h | h) | h
      · exact .inl h
      · have : ∀ b : Bool, c ∈ (Str.ofString (if b = true then ", " else "")).cps.toList → c = 44 ∨ c = 32 := by
          intro b hb
          cases b
          · have e : (Str.ofString (if false = true then ", " else "")).cps.toList = [] := by decide +kernel
            rw [e] at hb
            cases hb
          · have e : (Str.ofString (if true = true then ", " else "")).cps.toList = [44, 32] := by decide +kernel
            rw [e] at hb
            simpa using hb
        have := this (decide (k > 0)) (by simpa using h)
        rcases this with h | h
        · exact .inr (.inl h)
        · exact .inr (.inr (.inl h))
      · exact .inr (.inr (.inr ⟨t, by simp, h⟩))
    · exact .inr (.inl h)
    · exact .inr (.inr (.inl h))
    · exact .inr (.inr (.inr ⟨x, by simp [h1], h2⟩))
theorem PL.tup {k m : Nat} {ds : List D} (h : ∀ d ∈ ds, PL k m d) : PL (k + 1) (3 + ds.length * (m + 2)) (.tup ds) := by
  refine ⟨fun c hc => ?_, all_pf fun d hd => (h d hd).pf, ?_, ?_, ?_, ?_⟩
  · rw [txt_tup] at hc
    simp only [List.mem_cons, List.mem_append] at hc
    rcases hc with hc | hc | hc
    · omega
    · rcases joinL_mem hc with h1 | h1 | ⟨t, h1, h2⟩
      · omega
      · omega
      · obtain ⟨d, hd, rfl⟩ := List.mem_map.mp h1
        exact (h d hd).ch c h2
    · split at hc <;> simp only [List.mem_cons, List.not_mem_nil, or_false] at hc <;> omega
  · simp only [D.py, PyData.showable, pys_map]
    exact all_sh fun p hp => by obtain ⟨d, hd, rfl⟩ := List.mem_map.mp hp; exact (h d hd).sh
  · simp only [D.py, PyData.canLay0, pys_map]
    exact all_cl fun p hp => by obtain ⟨d, hd, rfl⟩ := List.mem_map.mp hp; exact (h d hd).cl
  · simp only [D.py, PyData.depth, pys_map]
    have := all_dp (k := k) (ds := ds.map D.py) fun p hp => by obtain ⟨d, hd, rfl⟩ := List.mem_map.mp hp; exact (h d hd).dp
    omega
  · rw [txt_len, txt_tup]
    have := joinL_len (m := m) (ds.map txt) fun t ht => by obtain ⟨d, hd, rfl⟩ := List.mem_map.mp ht; rw [← txt_len]; exact (h d hd).ln
    rw [List.length_map] at this
    simp only [List.length_cons, List.length_append]
    split <;> simp only [List.length_cons, List.length_nil] <;> omega
theorem PL.lst {k m : Nat} {ds : List D} (h : ∀ d ∈ ds, PL k m d) : PL (k + 1) (2 + ds.length * (m + 2)) (.lst ds) := by
  refine ⟨fun c hc => ?_, all_pf fun d hd => (h d hd).pf, ?_, ?_, ?_, ?_⟩
  · have hc : c ∈ (textFrom 0 (Str.ofString "[") (PyData.shownAll (D.pys ds)) ++ Str.ofString "]").cps.toList := hc
    rw [cps_toList_append, List.mem_append] at hc
    have e1 : (Str.ofString "[").cps.toList = [91] := by decide +kernel
    have e2 : (Str.ofString "]").cps.toList = [93] := by decide +kernel
    rcases hc with hc | hc
    · rcases textFrom_mem hc with h1 | h1 | h1 | ⟨t, h1, h2⟩
      · rw [e1] at h1
        simp only [List.mem_cons, List.not_mem_nil, or_false] at h1
        omega
      · omega
      · omega
      · rw [shownAll_map, pys_map] at h1
        obtain ⟨p, hp, rfl⟩ := List.mem_map.mp h1
        obtain ⟨d, hd, rfl⟩ := List.mem_map.mp hp
        exact (h d hd).ch c h2
    · rw [e2] at hc
      simp only [List.mem_cons, List.not_mem_nil, or_false] at hc
      omega
  · simp only [D.py, PyData.showable, pys_map]
    exact all_sh fun p hp => by obtain ⟨d, hd, rfl⟩ := List.mem_map.mp hp; exact (h d hd).sh
  · simp only [D.py, PyData.canLay0, pys_map]
    exact all_cl fun p hp => by obtain ⟨d, hd, rfl⟩ := List.mem_map.mp hp; exact (h d hd).cl
  · simp only [D.py, PyData.depth, pys_map]
    have := all_dp (k := k) (ds := ds.map D.py) fun p hp => by obtain ⟨d, hd, rfl⟩ := List.mem_map.mp hp; exact (h d hd).dp
    omega
  · show (textFrom 0 (Str.ofString "[") (PyData.shownAll (D.pys ds)) ++ Str.ofString "]").length ≤ _
    rw [strLen_append, shownAll_map, pys_map]
    have := textFrom_up (m := m) ((ds.map D.py).map PyData.shown) 0 (Str.ofString "[") fun t ht => by
      obtain ⟨p, hp, rfl⟩ := List.mem_map.mp ht
      obtain ⟨d, hd, rfl⟩ := List.mem_map.mp hp
      exact (h d hd).ln
    rw [List.length_map, List.length_map] at this
    have e1 : (Str.ofString "[").length = 1 := rfl
    have e2 : (Str.ofString "]").length = 1 := rfl
    omega
/-! ### unlike values look unlike -/
/-- cut at the first comma or bracket -/
theorem cut_eq {c d : Nat} (hc : c = 44 ∨ c = 41) (hd : d = 44 ∨ d = 41) : ∀ {a b r s : List Nat}, (∀ x ∈ a, x ≠ 44 ∧ x ≠ 41) → (∀ x ∈ b, x ≠ 44 ∧ x ≠ 41) → a ++ c :: r = b ++ d :: s → a = b ∧ c = d ∧ r = s
  | [], [], r, s, _, _, h => by
    simp only [List.nil_append, List.cons.injEq] at h
    exact ⟨rfl, h.1, h.2⟩
  | [], y :: b, r, s, _, hb, h => by
    simp only [List.nil_append, List.cons_append, List.cons.injEq] at h
    have := hb y (by simp)
    omega
  | x :: a, [], r, s, ha, _, h => by
    simp only [List.nil_append, List.cons_append, List.cons.injEq] at h
    have := ha x (by simp)
    omega
  | x :: a, y :: b, r, s, ha, hb, h => by
    simp only [List.cons_append, List.cons.injEq] at h
    obtain ⟨e1, e2, e3⟩ := cut_eq hc hd (fun z hz => ha z (by simp [hz])) (fun z hz => hb z (by simp [hz])) h.2
    exact ⟨by rw [h.1, e1], e2, e3⟩
def Sep (t : List Nat) : Prop := t ≠ [] ∧ ∀ x ∈ t, x ≠ 44 ∧ x ≠ 41
theorem join_inj : ∀ {ts us : List (List Nat)}, (∀ t ∈ ts, Sep t) → (∀ t ∈ us, Sep t) → joinL ts ++ [41] = joinL us ++ [41] → ts = us
  | [], [], _, _, _ => rfl
  | [], [u], _, hu, h => by
    have := (hu u (by simp)).1
    simp only [joinL, List.nil_append] at h
    have hl := congrArg List.length h
    simp only [List.length_append, List.length_cons, List.length_nil] at hl
    exact absurd (List.eq_nil_of_length_eq_zero (by omega)) this
  | [], u :: v :: r, _, hu, h => by
    have hl := congrArg List.length h
    simp only [joinL, List.length_append, List.length_cons, List.length_nil] at hl
    omega
  | [t], [], ht, _, h => by
    have := (ht t (by simp)).1
    simp only [joinL, List.nil_append] at h
    have hl := congrArg List.length h
    simp only [List.length_append, List.length_cons, List.length_nil] at hl
    exact absurd (List.eq_nil_of_length_eq_zero (by omega)) this
  | t :: v :: r, [], ht, _, h => by
    have hl := congrArg List.length h
    simp only [joinL, List.length_append, List.length_cons, List.length_nil] at hl
    omega
  | [t], [u], ht, hu, h => by
    simp only [joinL] at h
    obtain ⟨e, _, _⟩ := cut_eq (.inr rfl) (.inr rfl) (ht t (by simp)).2 (hu u (by simp)).2 h
    rw [e]
  | [t], u :: v :: r, ht, hu, h => by
    simp only [joinL, List.append_assoc, List.cons_append] at h
    obtain ⟨_, e, _⟩ := cut_eq (.inr rfl) (.inl rfl) (ht t (by simp)).2 (hu u (by simp)).2 h
    omega
  | t :: v :: r, [u], ht, hu, h => by
    simp only [joinL, List.append_assoc, List.cons_append] at h
    obtain ⟨_, e, _⟩ := cut_eq (.inl rfl) (.inr rfl) (ht t (by simp)).2 (hu u (by simp)).2 h
    omega
  | t :: v :: r, u :: x :: q, ht, hu, h => by
    simp only [joinL, List.append_assoc, List.cons_append] at h
    obtain ⟨e, _, e2⟩ := cut_eq (.inl rfl) (.inl rfl) (ht t (by simp)).2 (hu u (by simp)).2 h
    have ih := join_inj (ts := v :: r) (us := x :: q) (fun z hz => ht z (by simp [hz])) (fun z hz => hu z (by simp [hz])) (List.cons.inj e2).2
    rw [e, ih]
theorem tup_inj {ds es : List D} (hd : ∀ d ∈ ds, Sep (txt d)) (he : ∀ d ∈ es, Sep (txt d)) (h : txt (.tup ds) = txt (.tup es)) : ds.map txt = es.map txt := by
  rw [txt_tup, txt_tup] at h
  have h := (List.cons.inj h).2
  have sd : ∀ t ∈ ds.map txt, Sep t := fun t ht => by obtain ⟨d, hm, rfl⟩ := List.mem_map.mp ht; exact hd d hm
  have se : ∀ t ∈ es.map txt, Sep t := fun t ht => by obtain ⟨d, hm, rfl⟩ := List.mem_map.mp ht; exact he d hm
  by_cases h1 : ds.length = 1
  · rw [if_pos h1] at h
    match ds, h1, hd with
    | [d], _, hd =>
      simp only [List.map_cons, List.map_nil, joinL] at h
      by_cases h2 : es.length = 1
      · rw [if_pos h2] at h
        match es, h2, he with
        | [e], _, he =>
          simp only [List.map_cons, List.map_nil, joinL] at h
          obtain ⟨q, _, _⟩ := cut_eq (.inl rfl) (.inl rfl) (hd d (by simp)).2 (he e (by simp)).2 h
          simp [q]
      · rw [if_neg h2] at h
        match es, h2, he with
        | [], _, he =>
          have hl := congrArg List.length h
          simp only [List.map_nil, joinL, List.length_append, List.length_cons, List.length_nil] at hl
          omega
        | e :: f :: r, _, he =>
          simp only [List.map_cons, joinL, List.append_assoc, List.cons_append] at h
          obtain ⟨_, _, q⟩ := cut_eq (.inl rfl) (.inl rfl) (hd d (by simp)).2 (he e (by simp)).2 h
          exact absurd (List.cons.inj q).1 (by decide)
  · rw [if_neg h1] at h
    by_cases h2 : es.length = 1
    · rw [if_pos h2] at h
      match es, h2, he with
      | [e], _, he =>
        simp only [List.map_cons, List.map_nil, joinL] at h
        match ds, h1, hd with
        | [], _, hd =>
          have hl := congrArg List.length h
          simp only [List.map_nil, joinL, List.length_append, List.length_cons, List.length_nil] at hl
          omega
        | d :: f :: r, _, hd =>
          simp only [List.map_cons, joinL, List.append_assoc, List.cons_append] at h
          obtain ⟨_, _, q⟩ := cut_eq (.inl rfl) (.inl rfl) (hd d (by simp)).2 (he e (by simp)).2 h
          exact absurd (List.cons.inj q).1 (by decide)
    · rw [if_neg h2] at h
      exact join_inj sd se h
end BV

/-! Equality, order, loops, over data. -/
namespace BV
open PySem PySem.Spec PyProof.Rows L2 Evl

noncomputable instance decD : DecidableEq D := fun a b => Classical.propDecidable (a = b)
mutual
/-- numbers, words, and tuples and lists of them -/
def D.nb : D → Bool
  | .int _ => true
  | .str _ => true
  | .tup ds => D.nbs ds
  | .lst ds => D.nbs ds
  | _ => false
def D.nbs : List D → Bool
  | [] => true
  | d :: ds => D.nb d && D.nbs ds
end
mutual
theorem eqv_iff : ∀ d e : D, d.nb = true → e.nb = true → (PyData.eqv d.py e.py = true ↔ d = e)
  | .int i, .int j, _, _ => by simp [D.py, PyData.eqv]
  | .int i, .str j, _, _ => by simp [D.py, PyData.eqv]
  | .int i, .tup j, _, _ => by simp [D.py, PyData.eqv]
  | .int i, .lst j, _, _ => by simp [D.py, PyData.eqv]
  | .str i, .int j, _, _ => by simp [D.py, PyData.eqv]
  | .str i, .str j, _, _ => by simp [D.py, PyData.eqv]
  | .str i, .tup j, _, _ => by simp [D.py, PyData.eqv]
  | .str i, .lst j, _, _ => by simp [D.py, PyData.eqv]
  | .tup i, .int j, _, _ => by simp [D.py, PyData.eqv]
  | .tup i, .str j, _, _ => by simp [D.py, PyData.eqv]
  | .tup i, .tup j, h, k => by
    have := eqvs_iff i j (by simpa [D.nb] using h) (by simpa [D.nb] using k)
    simp only [D.py, PyData.eqv, D.tup.injEq]
    exact this
  | .tup i, .lst j, _, _ => by simp [D.py, PyData.eqv]
  | .lst i, .int j, _, _ => by simp [D.py, PyData.eqv]
  | .lst i, .str j, _, _ => by simp [D.py, PyData.eqv]
  | .lst i, .tup j, _, _ => by simp [D.py, PyData.eqv]
  | .lst i, .lst j, h, k => by
    have := eqvs_iff i j (by simpa [D.nb] using h) (by simpa [D.nb] using k)
    simp only [D.py, PyData.eqv, D.lst.injEq]
    exact this
  | .non, _, h, _ => by simp [D.nb] at h
  | .bl _, _, h, _ => by simp [D.nb] at h
  | .pur, _, h, _ => by simp [D.nb] at h
  | .int _, .non, _, h => by simp [D.nb] at h
  | .int _, .bl _, _, h => by simp [D.nb] at h
  | .int _, .pur, _, h => by simp [D.nb] at h
  | .str _, .non, _, h => by simp [D.nb] at h
  | .str _, .bl _, _, h => by simp [D.nb] at h
  | .str _, .pur, _, h => by simp [D.nb] at h
  | .tup _, .non, _, h => by simp [D.nb] at h
  | .tup _, .bl _, _, h => by simp [D.nb] at h
  | .tup _, .pur, _, h => by simp [D.nb] at h
  | .lst _, .non, _, h => by simp [D.nb] at h
  | .lst _, .bl _, _, h => by simp [D.nb] at h
  | .lst _, .pur, _, h => by simp [D.nb] at h
theorem eqvs_iff : ∀ ds es : List D, D.nbs ds = true → D.nbs es = true → (PyData.eqvAll (D.pys ds) (D.pys es) = true ↔ ds = es)
  | [], [], _, _ => by simp [D.pys, PyData.eqvAll]
  | [], e :: es, _, _ => by simp [D.pys, PyData.eqvAll]
  | d :: ds, [], _, _ => by simp [D.pys, PyData.eqvAll]
  | d :: ds, e :: es, h, k => by
    have h' : d.nb = true ∧ D.nbs ds = true := by simpa [D.nbs] using h
    have k' : e.nb = true ∧ D.nbs es = true := by simpa [D.nbs] using k
    simp only [D.pys, PyData.eqvAll, Bool.and_eq_true, List.cons.injEq, eqv_iff d e h'.1 k'.1, eqvs_iff ds es h'.2 k'.2]
end
theorem nbs_all {ds : List D} (h : ∀ d ∈ ds, d.nb = true) : D.nbs ds = true := by
  induction ds with
  | nil => rfl
  | cons d ds ih => simp only [D.nbs, h d (by simp), ih fun x hx => h x (by simp [hx]), Bool.and_self]

/-! ### values, their ranks -/
/-- a value that a law draws -/
def isV : D → Prop
  | .int i => i.natAbs ≤ 1000000001
  | .str s => s.length ≤ 13 ∧ Low s
  | _ => False
theorem isV.nb {v : D} (h : isV v) : v.nb = true := by cases v <;> first | rfl | exact h.elim
theorem isV.pl {v : D} (h : isV v) : PL 0 15 v := by
  cases v with
  | int i => exact (PL.int h).mono (Nat.le_refl _) (by omega)
  | str s => exact (PL.str h.2).mono (Nat.le_refl _) (by have := h.1; omega)
  | _ => exact h.elim
theorem isV.sep {v : D} (h : isV v) : Sep (txt v) := by
  cases v with
  | int i => exact ⟨txt_int_ne i, fun x hx => ⟨fun e => txt_int_free (by omega) (e ▸ hx), fun e => txt_int_free (by omega) (e ▸ hx)⟩⟩
  | str s =>
    rw [txt_low h.2]
    refine ⟨by simp, fun x hx => ?_⟩
    simp only [List.mem_cons, List.mem_append, List.not_mem_nil, or_false] at hx
    rcases hx with hx | hx | hx
    · omega
    · have := h.2 x hx
      omega
    · omega
  | _ => exact h.elim
theorem isV.inj {v w : D} (h : isV v) (k : isV w) (e : txt v = txt w) : v = w := by
  cases v with
  | int i =>
    cases w with
    | int j => rw [txt_int_inj e]
    | str s =>
      rw [txt_low k.2] at e
      exact absurd (e ▸ List.mem_cons_self) (txt_int_free (i := i) (s := 39) (by omega))
    | _ => exact k.elim
  | str s =>
    cases w with
    | int j =>
      rw [txt_low h.2] at e
      exact absurd (e ▸ List.mem_cons_self) (txt_int_free (i := j) (s := 39) (by omega))
    | str t =>
      rw [txt_low h.2, txt_low k.2] at e
      have := List.append_cancel_right (List.cons.inj e).2
      have : s = t := by
        cases s; cases t
        exact congrArg Str.mk (Array.toList_inj.mp this)
      rw [this]
    | _ => exact k.elim
  | _ => exact h.elim
theorem txt_eq {d e : D} : d.py.shown = e.py.shown ↔ txt d = txt e := by
  unfold txt
  constructor
  · intro h; rw [h]
  · intro h
    generalize d.py.shown = a at h
    generalize e.py.shown = b at h
    cases a; cases b
    exact congrArg Str.mk (Array.toList_inj.mp h)
/-- by what values are told apart and ordered -/
def key : D → List Int
  | .int i => [0, i]
  | .str s => 1 :: s.cps.toList.map Int.ofNat
  | _ => []
theorem map_ofNat_inj {a b : List Nat} (h : a.map Int.ofNat = b.map Int.ofNat) : a = b := by
  induction a generalizing b with
  | nil => cases b with
    | nil => rfl
    | cons => cases h
  | cons x a ih => cases b with
    | nil => cases h
    | cons y b =>
      simp only [List.map_cons, List.cons.injEq] at h
      rw [ih h.2, Int.ofNat.inj h.1]
theorem key_inj {v w : D} (h : isV v) (k : isV w) (e : key v = key w) : v = w := by
  cases v with
  | int i =>
    cases w with
    | int j => simp only [key, List.cons.injEq] at e; rw [e.2.1]
    | str s => simp [key] at e
    | _ => exact k.elim
  | str s =>
    cases w with
    | int j => simp [key] at e
    | str t =>
      simp only [key, List.cons.injEq, true_and] at e
      have := map_ofNat_inj e
      have : s = t := by
        cases s; cases t
        exact congrArg Str.mk (Array.toList_inj.mp this)
      rw [this]
    | _ => exact k.elim
  | _ => exact h.elim
theorem lt_cons_self {α : Type} [LT α] (hi : ∀ a : α, ¬ a < a) {a : α} {l m : List α} : a :: l < a :: m ↔ l < m := by
  rw [List.cons_lt_cons_iff]
  exact ⟨fun h => h.elim (fun h => absurd h (hi a)) (·.2), fun h => .inr ⟨rfl, h⟩⟩
theorem map_ofNat_lt {a b : List Nat} : a.map Int.ofNat < b.map Int.ofNat ↔ a < b := by
  induction a generalizing b with
  | nil => cases b with
    | nil => exact ⟨fun h => absurd h (List.lt_irrefl _), fun h => absurd h (List.lt_irrefl _)⟩
    | cons y b => exact ⟨fun _ => List.nil_lt_cons _ _, fun _ => List.nil_lt_cons _ _⟩
  | cons x a ih => cases b with
    | nil => exact ⟨fun h => absurd h (List.not_lt_nil _), fun h => absurd h (List.not_lt_nil _)⟩
    | cons y b =>
      simp only [List.map_cons, List.cons_lt_cons_iff, ih]
      constructor
      · rintro (h | ⟨h, k⟩)
        · exact .inl (Int.ofNat_lt.mp h)
        · exact .inr ⟨Int.ofNat.inj h, k⟩
      · rintro (h | ⟨h, k⟩)
        · exact .inl (Int.ofNat_lt.mpr h)
        · exact .inr ⟨congrArg Int.ofNat h, k⟩
def rankV (v : D) : D := match v with
  | .str s => .tup [.int 1, .str s]
  | v => .tup [.int 0, v]
theorem rank_nb {v : D} (h : isV v) : (rankV v).nb = true := by cases v <;> first | rfl | exact h.elim
theorem rank_inj {v w : D} (h : isV v) (k : isV w) : rankV v = rankV w ↔ v = w := by
  cases v <;> cases w <;> first | exact h.elim | exact k.elim | simp [rankV]
theorem rank_pl {v : D} (h : isV v) : PL 1 40 (rankV v) := by
  have : ∀ c : Int, c.natAbs ≤ 1 → PL 1 37 (.tup [.int c, v]) := fun c hc => by
    have := PL.tup (ds := [.int c, v]) (k := 0) (m := 15) fun d hd => by
      simp only [List.mem_cons, List.not_mem_nil, or_false] at hd
      rcases hd with rfl | rfl
      · exact (PL.int (by omega)).mono (Nat.le_refl _) (by omega)
      · exact h.pl
    exact this.mono (Nat.le_refl _) (by simp)
  cases v with
  | int i => exact (this 0 (by decide)).mono (Nat.le_refl _) (by omega)
  | str s => exact (this 1 (by decide)).mono (Nat.le_refl _) (by omega)
  | _ => exact h.elim
theorem rank_eqv {v w : D} (h : isV v) (k : isV w) : PyData.eqv (rankV v).py (rankV w).py = decide (v = w) := by
  rw [Bool.eq_iff_iff, decide_eq_true_iff, eqv_iff _ _ (rank_nb h) (rank_nb k), rank_inj h k]
theorem dec_congr {p q : Prop} [Decidable p] [Decidable q] (h : p ↔ q) : decide p = decide q := by
  rw [Bool.eq_iff_iff, decide_eq_true_iff, decide_eq_true_iff, h]
theorem rank_lt {v w : D} (h : isV v) (k : isV w) : ltO (rankV v) (rankV w) = some (decide (key v < key w)) := by
  cases v with
  | int i =>
    cases w with
    | int j =>
      show ltOs [.int 0, .int i] [.int 0, .int j] = _
      have e0 : PyData.eqv (D.int 0).py (D.int 0).py = true := rfl
      simp only [ltOs, e0, if_true]
      by_cases hij : i = j
      · subst hij
        rw [if_pos (by simp [D.py, PyData.eqv])]
        congr 1
        rw [List.isEmpty_nil, Bool.not_true, eq_comm, decide_eq_false_iff_not]
        exact List.lt_irrefl _
      · rw [if_neg (by simpa [D.py, PyData.eqv] using hij)]
        simp only [ltO]
        congr 1
        refine dec_congr ?_
        rw [key, key, lt_cons_self (by omega), List.cons_lt_cons_iff]
        exact ⟨.inl, fun h => h.elim id fun h => absurd h.2 (List.lt_irrefl _)⟩
    | str t =>
      show ltOs [.int 0, .int i] [.int 1, .str t] = _
      have e0 : PyData.eqv (D.int 0).py (D.int 1).py = false := rfl
      simp only [ltOs, e0]
      simp only [ltO, key]
      congr 1
    | _ => exact k.elim
  | str s =>
    cases w with
    | int j =>
      show ltOs [.int 1, .str s] [.int 0, .int j] = _
      have e0 : PyData.eqv (D.int 1).py (D.int 0).py = false := rfl
      simp only [ltOs, e0]
      simp only [ltO, key]
      congr 1
    | str t =>
      show ltOs [.int 1, .str s] [.int 1, .str t] = _
      have e0 : PyData.eqv (D.int 1).py (D.int 1).py = true := rfl
      simp only [ltOs, e0, if_true]
      by_cases hst : s = t
      · subst hst
        rw [if_pos (by simp [D.py, PyData.eqv])]
        congr 1
        rw [List.isEmpty_nil, Bool.not_true, eq_comm, decide_eq_false_iff_not]
        exact List.lt_irrefl _
      · rw [if_neg (by simpa [D.py, PyData.eqv] using hst)]
        simp only [ltO]
        congr 1
        refine dec_congr ?_
        rw [key, key, lt_cons_self (by omega), map_ofNat_lt]
    | _ => exact k.elim
  | _ => exact h.elim
/-! ### rows -/
def isR : D → Prop
  | .tup vs => vs.length ≤ 40 ∧ ∀ v ∈ vs, isV v
  | _ => False
def rkey : D → List (List Int)
  | .tup vs => vs.map key
  | _ => []
theorem isR.nb {r : D} (h : isR r) : r.nb = true := by
  cases r with
  | tup vs => simp only [D.nb]; exact nbs_all fun d hd => (h.2 d hd).nb
  | _ => exact h.elim
theorem isR.pl {r : D} (h : isR r) : PL 1 700 r := by
  cases r with
  | tup vs => exact (PL.tup fun d hd => (h.2 d hd).pl).mono (Nat.le_refl _) (by have := h.1; omega)
  | _ => exact h.elim
theorem map_inj_on {α β : Type} {f : α → β} : ∀ {l m : List α}, (∀ a ∈ l, ∀ b ∈ m, f a = f b → a = b) → l.map f = m.map f → l = m
  | [], [], _, _ => rfl
  | [], b :: m, _, h => by cases h
  | a :: l, [], _, h => by cases h
  | a :: l, b :: m, i, h => by
    simp only [List.map_cons, List.cons.injEq] at h
    rw [i a (by simp) b (by simp) h.1, map_inj_on (fun x hx y hy => i x (by simp [hx]) y (by simp [hy])) h.2]
theorem rkey_inj {r q : D} (h : isR r) (k : isR q) (e : rkey r = rkey q) : r = q := by
  cases r with
  | tup vs =>
    cases q with
    | tup ws => rw [map_inj_on (fun a ha b hb => key_inj (h.2 a ha) (k.2 b hb)) e]
    | _ => exact k.elim
  | _ => exact h.elim
theorem isR.inj {r q : D} (h : isR r) (k : isR q) (e : txt r = txt q) : r = q := by
  cases r with
  | tup vs =>
    cases q with
    | tup ws => rw [map_inj_on (fun a ha b hb => isV.inj (h.2 a ha) (k.2 b hb)) (tup_inj (fun d hd => (h.2 d hd).sep) (fun d hd => (k.2 d hd).sep) e)]
    | _ => exact k.elim
  | _ => exact h.elim
def rankR : D → D
  | .tup vs => .tup (vs.map rankV)
  | d => d
theorem rankR_nb {r : D} (h : isR r) : (rankR r).nb = true := by
  cases r with
  | tup vs =>
    simp only [rankR, D.nb]
    exact nbs_all fun d hd => by obtain ⟨v, hv, rfl⟩ := List.mem_map.mp hd; exact rank_nb (h.2 v hv)
  | _ => exact h.elim
theorem rankR_pl {r : D} (h : isR r) : PL 2 2000 (rankR r) := by
  cases r with
  | tup vs =>
    refine (PL.tup (k := 1) (m := 40) fun d hd => ?_).mono (Nat.le_refl _) (by have := h.1; simp only [List.length_map]; omega)
    obtain ⟨v, hv, rfl⟩ := List.mem_map.mp hd
    exact rank_pl (h.2 v hv)
  | _ => exact h.elim
theorem rankR_inj {r q : D} (h : isR r) (k : isR q) : rankR r = rankR q ↔ r = q := by
  cases r with
  | tup vs =>
    cases q with
    | tup ws =>
      constructor
      · intro e
        simp only [rankR, D.tup.injEq] at e
        rw [map_inj_on (fun a ha b hb => (rank_inj (h.2 a ha) (k.2 b hb)).mp) e]
      · intro e; rw [e]
    | _ => exact k.elim
  | _ => exact h.elim
theorem rankR_eqv {v w : D} (h : isR v) (k : isR w) : PyData.eqv (rankR v).py (rankR w).py = decide (v = w) := by
  rw [Bool.eq_iff_iff, decide_eq_true_iff, eqv_iff _ _ (rankR_nb h) (rankR_nb k), rankR_inj h k]
theorem lts_rank : ∀ {vs ws : List D}, (∀ v ∈ vs, isV v) → (∀ v ∈ ws, isV v) → ltOs (vs.map rankV) (ws.map rankV) = some (decide (vs.map key < ws.map key))
  | [], [], _, _ => by simp [ltOs]
  | [], w :: ws, _, _ => by simp [ltOs]
  | v :: vs, [], _, _ => by simp [ltOs]
  | v :: vs, w :: ws, h, k => by
    simp only [List.map_cons, ltOs]
    rw [rank_eqv (h v (by simp)) (k w (by simp))]
    by_cases e : v = w
    · subst e
      rw [decide_eq_true rfl, if_pos rfl, lts_rank (fun x hx => h x (by simp [hx])) (fun x hx => k x (by simp [hx]))]
      congr 1
      exact dec_congr (lt_cons_self (fun a => List.lt_irrefl a)).symm
    · rw [decide_eq_false e, if_neg (by simp), rank_lt (h v (by simp)) (k w (by simp))]
      congr 1
      refine dec_congr ?_
      rw [List.cons_lt_cons_iff]
      exact ⟨.inl, fun q => q.elim id fun q => absurd (key_inj (h v (by simp)) (k w (by simp)) q.1) e⟩
theorem rankR_lt {r q : D} (h : isR r) (k : isR q) : ltO (rankR r) (rankR q) = some (decide (rkey r < rkey q)) := by
  cases r with
  | tup vs =>
    cases q with
    | tup ws => exact lts_rank h.2 k.2
    | _ => exact k.elim
  | _ => exact h.elim
/-! ### sorted lists are told by what is in them -/
theorem sorted_eq {α : Type} {lt : α → α → Prop} : ∀ {l m : List α}, l.Perm m → l.Pairwise (fun x y => ¬ lt y x) → m.Pairwise (fun x y => ¬ lt y x) → (∀ a ∈ l, ∀ b ∈ l, ¬ lt a b → ¬ lt b a → a = b) → l = m
  | [], m, p, _, _, _ => (List.nil_perm.mp p).symm
  | a :: l, [], p, _, _, _ => (List.perm_nil.mp p)
  | a :: l, b :: m, p, s, t, tr => by
    have hab : a = b := by
      have ha : a ∈ b :: m := p.mem_iff.mp (by simp)
      have hb : b ∈ a :: l := p.mem_iff.mpr (by simp)
      rcases List.mem_cons.mp ha with e | ha'
      · exact e
      · rcases List.mem_cons.mp hb with e | hb'
        · exact e.symm
        · exact tr a (by simp) b hb ((List.pairwise_cons.mp t).1 a ha') ((List.pairwise_cons.mp s).1 b hb')
    subst hab
    rw [sorted_eq (List.Perm.cons_inv p) (List.pairwise_cons.mp s).2 (List.pairwise_cons.mp t).2 fun x hx y hy => tr x (by simp [hx]) y (by simp [hy])]
/-! ### loops -/
theorem forGo_go {t : Tgt} {body : MS} {E : EndD} (I : Nat → SEnv → Prop) : ∀ (items : List D) (n : Nat) (env : SEnv), (∀ i d env nx, items[i]? = some d → I (n + i) env → (∀ env', I (n + i + 1) env' → nx env') → ∃ env1, t.put shd d env = some env1 ∧ body { E with nx := nx, ct := nx, bk := E.nx } env1) →
    (∀ env, I (n + items.length) env → E.nx env) → I n env → forGo t body E items env
  | [], n, env, _, hend, h0 => hend env h0
  | x :: xs, n, env, hs, hend, h0 => by
    obtain ⟨env1, e, hbd⟩ := hs 0 x env (forGo t body E xs) rfl h0 fun env' h' =>
      forGo_go I xs (n + 1) env' (fun i d env2 nx hi hI hn => by
        have := hs (i + 1) d env2 nx (by simpa using hi) (by rw [show n + (i + 1) = n + 1 + i by omega]; exact hI) (fun e he => hn e (by rw [show n + 1 + i + 1 = n + (i + 1) + 1 by omega]; exact he))
        exact this) (fun env2 h2 => hend env2 (by rw [List.length_cons, show n + (xs.length + 1) = n + 1 + xs.length by omega]; exact h2)) h'
    exact ⟨env1, e, hbd⟩
/-- a loop with what holds ahead of each turn -/
theorem forGo_inv {t : Tgt} {body : MS} {E : EndD} {items : List D} {env : SEnv} (I : Nat → SEnv → Prop) (h0 : I 0 env) (hend : ∀ env, I items.length env → E.nx env)
    (hs : ∀ i d env nx, items[i]? = some d → I i env → (∀ env', I (i + 1) env' → nx env') → ∃ env1, t.put shd d env = some env1 ∧ body { E with nx := nx, ct := nx, bk := E.nx } env1) : forGo t body E items env :=
  forGo_go I items 0 env (fun i d env nx a b c => hs i d env nx a (by simpa using b) (by simpa using c)) (fun env h => hend env (by simpa using h)) h0
theorem lcGo_map {t : Tgt} {mt : MT} {me : ME} {env : Env} {Q : List D → Prop} (f : D → D → Prop) : ∀ (items acc : List D), (∀ x ∈ items, ∃ env1, t.put idD x env = some env1 ∧ ∀ (R : D → Prop) (S : Prop), (∀ y, f x y → R y) → mt env1 fun b => if b = true then me env1 R else S) →
    (∀ ys, Paired f items ys → Q (acc ++ ys)) → lcGo t mt me env items acc Q
  | [], acc, _, hq => by have := hq [] .nil; simpa [lcGo] using this
  | x :: xs, acc, hs, hq => by
    obtain ⟨env1, e, h⟩ := hs x (by simp)
    refine ⟨env1, e, h _ _ fun y hy => ?_⟩
    refine lcGo_map f xs _ (fun z hz => hs z (by simp [hz])) fun ys p => ?_
    have := hq (y :: ys) (.cons hy p)
    simpa using this
theorem lcGo_fn {t : Tgt} {mt : MT} {me : ME} {env : Env} {Q : List D → Prop} (f : D → D) (items : List D) (hs : ∀ x ∈ items, ∃ env1, t.put idD x env = some env1 ∧ ∀ (R : D → Prop) (S : Prop), R (f x) → mt env1 fun b => if b = true then me env1 R else S) (hq : Q (items.map f)) : lcGo t mt me env items [] Q := by
  refine lcGo_map (fun x y => y = f x) items [] (fun x hx => ?_) fun ys p => ?_
  · obtain ⟨env1, e, h⟩ := hs x hx
    exact ⟨env1, e, fun R S k => h R S (k _ rfl)⟩
  have : ys = items.map f := by
    clear hs hq
    induction p with
    | nil => rfl
    | cons h _ ih => simp [h, ih]
  rw [this]
  exact hq
theorem lcGo_filter {t : Tgt} {mt : MT} {me : ME} {env : Env} {Q : List D → Prop} (p : D → Bool) : ∀ (items acc : List D), (∀ x ∈ items, ∃ env1, t.put idD x env = some env1 ∧ ∀ (R : D → Prop) (S : Prop), (p x = true → R x) → (p x = false → S) → mt env1 fun b => if b = true then me env1 R else S) →
    Q (acc ++ items.filter p) → lcGo t mt me env items acc Q
  | [], acc, _, hq => by simpa [lcGo] using hq
  | x :: xs, acc, hs, hq => by
    obtain ⟨env1, e, h⟩ := hs x (by simp)
    refine ⟨env1, e, h _ _ (fun hp => ?_) fun hp => ?_⟩
    · refine lcGo_filter p xs _ (fun z hz => hs z (by simp [hz])) ?_
      rw [List.filter_cons_of_pos hp] at hq
      simpa using hq
    · refine lcGo_filter p xs _ (fun z hz => hs z (by simp [hz])) ?_
      rw [List.filter_cons_of_neg (by simp [hp])] at hq
      exact hq
theorem paired_all {α β : Type} {p : β → Prop} {xs : List α} {ys : List β} (h : Paired (fun _ y => p y) xs ys) : ∀ y ∈ ys, p y := by
  induction h with
  | nil => intro y hy; cases hy
  | cons h _ ih =>
    intro y hy
    rcases List.mem_cons.mp hy with e | hy
    · rw [e]; exact h
    · exact ih y hy
theorem view_fl {rs : List Nat} : ∀ {k : Nat} {env : SEnv} {i : Nat} {d : D}, env[i]? = some (some (false, d)) → (view rs k env)[i]? = some (some d)
  | k, [], i, d, h => by simp at h
  | k, none :: r, 0, d, h => by simp at h
  | k, some (false, e) :: r, 0, d, h => by simpa [view] using h
  | k, some (true, e) :: r, 0, d, h => by simp at h
  | k, none :: r, i + 1, d, h => by
    simp only [view, List.getElem?_cons_succ] at h ⊢
    exact view_fl h
  | k, some (false, e) :: r, i + 1, d, h => by
    simp only [view, List.getElem?_cons_succ] at h ⊢
    exact view_fl h
  | k, some (true, e) :: r, i + 1, d, h => by
    simp only [view, List.getElem?_cons_succ] at h ⊢
    exact view_fl h
theorem yes_go {env : Env} {A B : Prop} (h : A) : mYes env (fun b => if b = true then A else B) := by
  show if true = true then A else B
  rw [if_pos rfl]
  exact h
end BV

/-! What the drawn things may be. -/
namespace K02
open PySem PySem.Spec PyProof.Rows L2 Evl BV

theorem pow109 : powD (.int 10) (.int 9) = some (.int 1000000000) := by rfl
def sp_pick : SpD := fun ds T => (∃ xs, ds = [.pur, .lst xs] ∧ xs ≠ [] ∧ xs.length ≤ 1000000 ∧ ∀ x ∈ xs, T x) ∨ (∃ s, ds = [.pur, .str s] ∧ s.cps.toList ≠ [] ∧ s.length ≤ 1000000 ∧ ∀ c ∈ s.cps.toList, T (.str ⟨#[c]⟩))
theorem says_pick : ∀ ds T, sp_pick ds T → spOf 2 N_pick.length (m_pick spDraw) ds T := by
  rintro ds T (⟨xs, rfl, h0, h1, hT⟩ | ⟨s, rfl, h0, h1, hT⟩)
  · have hl : 0 < xs.length := List.length_pos_iff.mpr h0
    refine ⟨rfl, .lst xs, rfl, .pur, rfl, .lst xs, rfl, _, rfl, fun d => ∃ i : Nat, d = .int i ∧ i < xs.length, ⟨_, rfl, by omega, by omega, fun i a b => ⟨i.toNat, by rw [Int.toNat_of_nonneg a], by omega⟩⟩, fun d hd => ?_⟩
    obtain ⟨i, rfl, hi⟩ := hd
    exact ⟨xs[i], atI_nat (List.getElem?_eq_getElem hi), hT _ (List.getElem_mem hi)⟩
  · have hl : 0 < s.cps.toList.length := List.length_pos_iff.mpr h0
    have hs : szOk s.length = true := by simp only [szOk, decide_eq_true_eq]; omega
    rw [cps_len] at h1
    refine ⟨rfl, .str s, rfl, .pur, rfl, .str s, rfl, _, (if_pos hs), fun d => ∃ i : Nat, d = .int i ∧ i < s.cps.toList.length, ⟨_, rfl, by rw [cps_len]; omega, by rw [cps_len]; omega, fun i a b => ⟨i.toNat, by rw [Int.toNat_of_nonneg a], by rw [cps_len] at b; omega⟩⟩, fun d hd => ?_⟩
    obtain ⟨i, rfl, hi⟩ := hd
    refine ⟨.str ⟨#[s.cps.toList[i]]⟩, ?_, hT _ (List.getElem_mem hi)⟩
    show (if szOk s.length = true then (atI s.cps.toList (i : Int)).map fun c => D.str ⟨#[c]⟩ else none) = _
    rw [if_pos hs, atI_nat (List.getElem?_eq_getElem hi)]
    rfl
def sp_word : SpD := fun ds T => ∃ n : Int, ds = [.pur, .int n] ∧ 0 ≤ n ∧ n ≤ 100 ∧ ∀ s : Str, s.length = n.toNat → Low s → T (.str s)
theorem strs_chars : ∀ {items ys : List D}, Paired (fun _ y => ∃ c : Nat, (97 ≤ c ∧ c ≤ 122) ∧ y = .str ⟨#[c]⟩) items ys → ∃ l : List Nat, l.length = items.length ∧ (∀ c ∈ l, 97 ≤ c ∧ c ≤ 122) ∧ strsOf ys = some (l.map fun k => (⟨#[k]⟩ : Str))
  | _, _, .nil => ⟨[], rfl, fun _ h => (nomatch h), rfl⟩
  | _, _, .cons ⟨c, hc, e⟩ p => by
    obtain ⟨l, h1, h2, h3⟩ := strs_chars p
    subst e
    refine ⟨c :: l, by simp [h1], fun x hx => ?_, by simp [strsOf, h3]⟩
    rcases List.mem_cons.mp hx with e | hx
    · rw [e]; exact hc
    · exact h2 x hx
theorem says_word : ∀ ds T, sp_word ds T → spOf 2 N_word.length (m_word sp_pick) ds T := by
  rintro ds T ⟨n, rfl, h0, h1, hT⟩
  refine ⟨rfl, Str.ofString "", rfl, .int n, rfl, n, rfl, by omega, by omega, ?_, ?_⟩
  · simp only [rngL, List.length_map, List.length_range, szOk, decide_eq_true_eq]
    omega
  · refine lcGo_map (fun _ y => ∃ c : Nat, (97 ≤ c ∧ c ≤ 122) ∧ y = .str ⟨#[c]⟩) _ [] (fun x hx => ⟨_, rfl, fun R S k => ?_⟩) fun ys p => ?_
    · refine yes_go ?_
      refine ⟨.pur, rfl, fun d => ∃ c : Nat, (97 ≤ c ∧ c ≤ 122) ∧ d = .str ⟨#[c]⟩, .inr ⟨Str.ofString "abcdefghijklmnopqrstuvwxyz", rfl, by decide +kernel, by decide +kernel, fun c hc => ⟨c, ?_, rfl⟩⟩, k⟩
      have : ∀ c ∈ (Str.ofString "abcdefghijklmnopqrstuvwxyz").cps.toList, 97 ≤ c ∧ c ≤ 122 := by decide +kernel
      exact this c hc
    · obtain ⟨l, e1, e2, e3⟩ := strs_chars p
      have hlen : l.length = n.toNat := by rw [e1]; simp [rngL]
      have hj : Txt.join (Str.ofString "") (l.map fun k => (⟨#[k]⟩ : Str)) = ⟨l.toArray⟩ := by
        have : Txt.join (Str.ofString "") (l.map fun k => (⟨#[k]⟩ : Str)) = Str.join (Str.ofString "") (l.map fun k => (⟨#[k]⟩ : Str)) := TL.join_eq _ _
        rw [this]
        exact join_ones l
      refine ⟨_, _, rfl, e3, ?_, ?_⟩
      · have : ((l.map fun k => (⟨#[k]⟩ : Str)).map (·.length)).sum = l.length := by
          clear e1 e2 e3 hlen hj
          induction l with
          | nil => rfl
          | cons c l ih => simp only [List.map_cons, List.sum_cons, ih, List.length_cons]; show 1 + _ = _; omega
        rw [this]
        have : (Str.ofString "").length = 0 := rfl
        rw [this]
        omega
      · rw [hj]
        refine hT _ ?_ fun c hc => e2 c (by simpa using hc)
        rw [cps_len]
        simpa using hlen
theorem dec_bl {p : Prop} [Decidable p] (h : p) : decide p = true := decide_eq_true h
/-- a word that is not too long -/
def isW (n : Nat) (s : Str) : Prop := s.length ≤ n ∧ Low s
theorem isW.app {m n : Nat} {a b : Str} (h : isW m a) (k : isW n b) : isW (m + n) (a ++ b) := by
  refine ⟨by rw [strLen_append]; have := h.1; have := k.1; omega, fun c hc => ?_⟩
  rw [cps_toList_append, List.mem_append] at hc
  exact hc.elim (h.2 c) (k.2 c)
theorem isW.v {n : Nat} {s : Str} (h : isW n s) (hn : n ≤ 13) : isV (.str s) := ⟨Nat.le_trans h.1 hn, h.2⟩
theorem isW.sub {n : Nat} {s : Str} (h : isW n s) {l : List Nat} {m : Nat} (hl : l.length ≤ m) (hm : ∀ c ∈ l, c ∈ s.cps.toList) : isW m ⟨l.toArray⟩ := ⟨by rw [cps_len]; simpa using hl, fun c hc => h.2 c (hm c (by simpa using hc))⟩
theorem low_rep {s : Str} (h : Low s) (n : Nat) : Low (repS s n) := fun c hc => by
  simp only [repS] at hc
  have hc : c ∈ (List.replicate n s.cps.toList).flatten := by simpa using hc
  obtain ⟨l, h1, h2⟩ := List.mem_flatten.mp hc
  rw [(List.mem_replicate.mp h1).2] at h2
  exact h c h2
theorem cut_mem {α : Type} {xs : List α} {lo hi : Option Int} {a : α} (h : a ∈ BV.cutD xs lo hi) : a ∈ xs := List.mem_of_mem_drop (List.mem_of_mem_take h)
theorem cut_len {α : Type} (xs : List α) (lo hi : Option Int) : (BV.cutD xs lo hi).length ≤ xs.length := by
  simp only [BV.cutD, List.length_take, List.length_drop]
  omega
def sp_stock : SpD := fun ds T => ds = [.pur] ∧ ∀ vs, vs.length = 7 → (∀ v ∈ vs, isV v) → T (.lst vs)
theorem says_stock : ∀ ds T, sp_stock ds T → spOf 1 N_stock.length (m_stock sp_word spDraw sp_pick) ds T := by
  rintro ds T ⟨rfl, hT⟩
  refine ⟨rfl, .pur, rfl, _, pow109, fun d => ∃ i : Int, d = .int i ∧ 0 ≤ i ∧ i < 1000000000, ⟨_, rfl, by decide, by decide, fun i a b => ⟨i, rfl, a, b⟩⟩, ?_⟩
  rintro d ⟨many, rfl, m0, m1⟩
  refine ⟨.pur, rfl, .pur, rfl, fun d => ∃ i : Int, d = .int i ∧ 0 ≤ i ∧ i < 11, ⟨_, rfl, by decide, by decide, fun i a b => ⟨i, rfl, a, b⟩⟩, ?_⟩
  rintro d ⟨i, rfl, i0, i1⟩
  refine ⟨_, rfl, fun d => ∃ s : Str, d = .str s ∧ isW 11 s, ⟨1 + i, rfl, by omega, by omega, fun s a b => ⟨s, rfl, by omega, b⟩⟩, ?_⟩
  rintro d ⟨wd, rfl, hw⟩
  refine ⟨.pur, rfl, fun d => ∃ s : Str, d = .str s ∧ isW 1 s, ⟨1, rfl, by omega, by omega, fun s a b => ⟨s, rfl, by omega, b⟩⟩, ?_⟩
  rintro d ⟨le, rfl, hl⟩
  refine ⟨.int many, .str wd, .str le, rfl, ?_⟩
  -- the first list
  have z1 : szOk (wd.length + le.length) = true := by have := hw.1; have := hl.1; simp only [szOk, decide_eq_true_eq]; omega
  refine ⟨.int many, rfl, .int many, rfl, _, rfl, .int many, rfl, _, rfl, .int many, rfl, _, rfl, _, rfl, _, pow109, _, pow109, _, rfl, .pur, rfl, fun d => ∃ i : Int, d = .int i ∧ 0 ≤ i ∧ i < 12, ⟨_, rfl, by decide, by decide, fun i a b => ⟨i, rfl, a, b⟩⟩, ?_⟩
  rintro d ⟨j, rfl, j0, j1⟩
  refine ⟨.str wd, rfl, .str wd, rfl, .str le, rfl, _, if_pos z1, rfl, ?_⟩
  -- the second
  have z2 : szOk wd.length = true := by have := hw.1; simp only [szOk, decide_eq_true_eq]; omega
  have w3 : isW 11 ⟨(BV.cutD wd.cps.toList none (some (-1))).toArray⟩ := hw.sub (by have := cut_len wd.cps.toList none (some (-1)); have := hw.1; rw [cps_len] at this; omega) fun c hc => cut_mem hc
  have w4 : isW 11 ⟨(BV.cutD wd.cps.toList none (some 1)).toArray⟩ := hw.sub (by have := cut_len wd.cps.toList none (some 1); have := hw.1; rw [cps_len] at this; omega) fun c hc => cut_mem hc
  have wa : isW 1 (Str.ofString "a") := ⟨by decide, by unfold Low; decide +kernel⟩
  have z3 : szOk ((⟨(BV.cutD wd.cps.toList none (some (-1))).toArray⟩ : Str).length + le.length) = true := by have := w3.1; have := hl.1; simp only [szOk, decide_eq_true_eq]; omega
  have z4 : szOk (wd.length + (Str.ofString "a").length) = true := by have := hw.1; have := wa.1; simp only [szOk, decide_eq_true_eq]; omega
  have z5 : (0 : Int) ≤ 12 ∧ (12 : Int) ≤ 4000000 ∧ le.length * (12 : Int).toNat ≤ 4000000 := ⟨by decide, by decide, by have := hl.1; show le.length * 12 ≤ _; omega⟩
  refine ⟨_, rfl, .str le, rfl, .str le, rfl, _, if_pos z5, .str wd, rfl, _, rfl, -1, rfl, _, if_pos z2, .str le, rfl, _, if_pos z3, .str wd, rfl, _, if_pos z4, .str wd, rfl, 1, rfl, _, if_pos z2, rfl, _, rfl, ?_⟩
  refine ⟨7, rfl, by decide, by decide, by decide, ?_⟩
  refine lcGo_map (fun _ y => isV y) _ [] (fun x hx => ⟨_, rfl, fun R S k => yes_go ?_⟩) fun ys p => hT _ ?_ ?_
  · refine ⟨.pur, rfl, _, rfl, isV, .inl ⟨_, rfl, by simp, by simp, fun x hx => ?_⟩, k⟩
    simp only [List.cons_append, List.nil_append, List.mem_cons, List.not_mem_nil, or_false] at hx
    rcases hx with rfl | rfl | rfl | rfl | rfl | rfl | rfl | rfl | rfl | rfl | rfl | rfl | rfl | rfl | rfl | rfl
    · show many.natAbs ≤ _; omega
    · show (many + 1).natAbs ≤ _; omega
    · show (-many).natAbs ≤ _; omega
    · show (-many - 1).natAbs ≤ _; omega
    · show (1000000000 : Int).natAbs ≤ _; decide
    · show (-1000000000 : Int).natAbs ≤ _; decide
    · show (0 : Int).natAbs ≤ _; decide
    · show (1 : Int).natAbs ≤ _; decide
    · show j.natAbs ≤ _; omega
    · exact hw.v (by decide)
    · exact (hw.app hl).v (by decide)
    · exact hl.v (by decide)
    · refine ⟨?_, low_rep hl.2 _⟩
      have : (repS le 12).length = 12 * le.length := by
        unfold repS Str.length
        simp [List.length_flatten]
        omega
      have := hl.1
      show (repS le 12).length ≤ 13
      omega
    · exact (w3.app hl).v (by decide)
    · exact (hw.app wa).v (by decide)
    · exact w4.v (by decide)
  · have := p.length
    show ys.length = 7
    rw [← this]
    rfl
  · exact paired_all p
end K02

/-! The drawn rows. -/
namespace K02
open PySem PySem.Spec PyProof.Rows L2 Evl BV

theorem isV.lf {v : D} (h : isV v) : v.lf = true := by cases v <;> first | rfl | exact h.elim
theorem lfs_all {ds : List D} (h : ∀ d ∈ ds, d.lf = true) : D.lfs ds = true := by
  induction ds with
  | nil => rfl
  | cons d ds ih => simp only [D.lfs, h d (by simp), ih fun x hx => h x (by simp [hx]), Bool.and_self]
def RowB (n : Nat) (us : List D) : Prop := us.length ≤ n ∧ ∀ v ∈ us, isV v
theorem RowB.lf {n : Nat} {us : List D} (h : RowB n us) : (D.tup us).lf = true := lfs_all fun d hd => isV.lf (h.2 d hd)
theorem RowB.eq {n : Nat} {us : List D} (h : RowB n us) : okEq (.tup us) = true := (PL.tup fun d hd => (h.2 d hd).pl).eq (by decide)
theorem app_tail {rs : List Nat} {env : SEnv} {d : D} {rows : List D} {i : Nat} {nx : SEnv → Prop} (hd : d.lf = true) (he : env[i]? = some (some (true, .lst rows))) (hz : rows.length ≤ 1000) (hn : nx (env.set i (some (true, .lst (rows ++ [d]))))) :
    ∃ ds, (aft rs d env)[i]? = some (some (true, .lst ds)) ∧ szOk (ds.length + 1) = true ∧ nx ((aft rs d env).set i (some (true, .lst (ds ++ [d])))) := by
  unfold aft
  rw [if_pos hd]
  exact ⟨rows, he, by simp only [szOk, decide_eq_true_eq]; omega, hn⟩
theorem aftL_lf {rs : List Nat} {ds : List D} {env : SEnv} (h : D.lfs ds = true) : aftL rs ds env = env := if_pos h
def sp_lines : SpD := fun ds T => ∃ vs, ds = [.pur, .lst vs] ∧ vs ≠ [] ∧ vs.length ≤ 1000 ∧ (∀ v ∈ vs, isV v) ∧ ∀ rows, rows.length ≤ 7 → (∀ r ∈ rows, isR r) → T (.lst rows)
theorem sz_of {n : Nat} (h : n ≤ 4000000) : szOk n = true := decide_eq_true h
theorem says_lines : ∀ ds T, sp_lines ds T → spOf 2 N_lines.length (m_lines sp_pick spDraw) ds T := by
  rintro ds T ⟨vs, rfl, hne, hlen, hv, hT⟩
  have pick : ∀ Q : D → Prop, (∀ v, isV v → Q v) → ∃ T, sp_pick [.pur, .lst vs] T ∧ ∀ d, T d → Q d := fun Q k => ⟨isV, .inl ⟨vs, rfl, hne, by omega, hv⟩, k⟩
  refine ⟨rfl, rfl, rfl, rfl, 6, rfl, by decide, by decide, ?_⟩
  refine forGo_inv (fun i env => ∃ rows x3 x4 x5 x6 x7 x8, env = [some (false, .pur), some (false, .lst vs), some (true, .lst rows), x3, x4, x5, x6, x7, x8] ∧ rows.length = i + 1 ∧ ∀ r ∈ rows, ∃ us, r = .tup us ∧ RowB (30 + i) us) ?_ ?_ ?_
  · exact ⟨[.tup []], none, none, none, none, none, none, rfl, rfl, fun r hr => ⟨[], by simpa using hr, by simp [RowB]⟩⟩
  · rintro env ⟨rows, x3, x4, x5, x6, x7, x8, rfl, hl, hr⟩
    refine ⟨.lst rows, rfl, hT rows (by rw [hl]; decide) fun r hm => ?_⟩
    obtain ⟨us, rfl, h1, h2⟩ := hr r hm
    exact ⟨by have : (rngL 0 (Int.toNat 6)).length = 6 := rfl; rw [this] at h1; omega, h2⟩
  · rintro i d env nx hi ⟨rows, x3, x4, x5, x6, x7, x8, rfl, hl, hr⟩ hn
    have hi6 : i < 6 := (List.getElem?_eq_some_iff.mp hi).1
    have done : ∀ (us : List D) (x3 x4 x5 x6 x7 x8 : Option (Bool × D)), RowB (30 + (i + 1)) us → nx [some (false, .pur), some (false, .lst vs), some (true, .lst (rows ++ [.tup us])), x3, x4, x5, x6, x7, x8] := fun us x3 x4 x5 x6 x7 x8 hb =>
      hn _ ⟨_, x3, x4, x5, x6, x7, x8, rfl, by simp [hl], fun r hm => by
        rcases List.mem_append.mp hm with hm | hm
        · obtain ⟨us', e, h1, h2⟩ := hr r hm
          exact ⟨us', e, by omega, h2⟩
        · exact ⟨us, by simpa using hm, hb⟩⟩
    refine ⟨_, rfl, ?_⟩
    refine ⟨.pur, rfl, fun d => ∃ n : Int, d = .int n, ⟨_, rfl, by decide, by decide, fun i a b => ⟨i, rfl⟩⟩, ?_⟩
    rintro d1 ⟨way, rfl⟩
    refine ⟨.pur, rfl, .lst rows, rfl, fun d => ∃ us, d = .tup us ∧ RowB (30 + i) us, .inl ⟨rows, rfl, fun e => by rw [e] at hl; simp at hl, by omega, hr⟩, ?_⟩
    rintro d2 ⟨us, rfl, hb⟩
    refine ⟨.int way, .tup us, rfl, ?_⟩
    have hlf : D.lfs [.int way, .tup us] = true := by
      have := hb.lf
      simp only [D.lfs, this]
      rfl
    rw [aftL_lf hlf]
    refine ⟨.int way, rfl, _, rfl, _, rfl, ite2 (fun _ => ?_) (fun _ => ?_)⟩
    · -- one more
      refine ⟨⟨rows, rfl⟩, .tup us, rfl, .pur, rfl, .lst vs, rfl, pick _ fun v hv => ?_⟩
      refine ⟨rfl, _, if_pos (sz_of (by have := hb.1; show us.length + 1 ≤ _; omega)), ?_⟩
      have hb' : RowB (30 + (i + 1)) (us ++ [v]) := ⟨by have := hb.1; simp; omega, fun x hx => by
        rcases List.mem_append.mp hx with hx | hx
        · exact hb.2 x hx
        · rw [List.mem_singleton.mp hx]; exact hv⟩
      exact app_tail hb'.lf rfl (by omega) (done _ _ _ _ _ _ _ hb')
    · refine ⟨.int way, rfl, _, rfl, _, rfl, ite2 (fun _ => ?_) (fun _ => ?_)⟩
      · -- cut
        refine ⟨⟨rows, rfl⟩, .tup us, rfl, .pur, rfl, .tup us, rfl, _, rfl, _, rfl, fun d => ∃ n : Int, d = .int n, ⟨_, rfl, by omega, by have := hb.1; omega, fun i a b => ⟨i, rfl⟩⟩, ?_⟩
        rintro d ⟨n, rfl⟩
        refine ⟨n, rfl, _, rfl, ?_⟩
        have hb' : RowB (30 + (i + 1)) (BV.cutD us none (some n)) := ⟨by have := hb.1; have := cut_len us none (some n); omega, fun x hx => hb.2 x (cut_mem hx)⟩
        exact app_tail hb'.lf rfl (by omega) (done _ _ _ _ _ _ _ hb')
      · have last : ∀ E : EndD, E.nx = nx → (mSeq (mAsg [] 7 (mCall sp_pick (maCons (mVar 0) (maCons (mLst (maCons (mC (.int 1)) (maCons (mC (.int 2)) (maCons (mC (.int 3)) (maCons (mC (.int 6)) (maCons (mC (.int 30)) maNil)))))) maNil))))
            (mApp [] 2 (mCB tupleD (maCons (mLstO (moLc [8] (mRng1 (maCons (mVar 7) maNil)) (.nm 8) mYes (mCall sp_pick (maCons (mVar 0) (maCons (mVar 1) maNil))))) maNil)))) E [some (false, .pur), some (false, .lst vs), some (true, .lst rows), some (false, d), some (false, .int way), some (false, .tup us), x6, x7, x8] := by
          rintro E rfl
          refine ⟨.pur, rfl, rfl, fun d => ∃ n : Int, d = .int n ∧ 0 ≤ n ∧ n ≤ 30, .inl ⟨_, rfl, by simp, by simp, fun x hx => ?_⟩, ?_⟩
          · simp only [List.mem_cons, List.not_mem_nil, or_false] at hx
            rcases hx with rfl | rfl | rfl | rfl | rfl <;> exact ⟨_, rfl, by decide, by decide⟩
          · rintro d ⟨n, rfl, n0, n1⟩
            refine ⟨⟨rows, rfl⟩, .int n, view_fl rfl, n, rfl, by omega, by omega, ?_, ?_⟩
            · exact sz_of (by simp only [rngL, List.length_map, List.length_range]; omega)
            · refine lcGo_map (fun _ y => isV y) _ [] (fun x hx => ⟨_, rfl, fun R S k => yes_go ?_⟩) fun ys p => ?_
              · exact ⟨.pur, rfl, .lst vs, rfl, pick _ k⟩
              · have hy : ys.length ≤ 30 := by rw [← p.length]; simp only [rngL, List.length_map, List.length_range]; omega
                have hb' : RowB (30 + (i + 1)) ys := ⟨by omega, paired_all p⟩
                exact ⟨_, rfl, app_tail hb'.lf rfl (by omega) (done _ _ _ _ _ _ _ hb')⟩
        refine ⟨.int way, rfl, _, rfl, _, rfl, ite2 (fun _ => ?_) (fun _ => iteF (last _ rfl))⟩
        cases us with
        | nil => exact ⟨.tup [], rfl, rfl, _, rfl, _, rfl, iteF (last _ rfl)⟩
        | cons u us' =>
          refine ⟨.tup (u :: us'), rfl, rfl, _, if_pos ⟨hb.eq, rfl⟩, _, rfl, iteT ?_⟩
          refine ⟨.pur, rfl, .tup (u :: us'), rfl, _, rfl, fun d => ∃ n : Int, d = .int n ∧ 0 ≤ n ∧ n < (u :: us').length, ⟨_, rfl, by simp only [List.length_cons]; omega, by have := hb.1; omega, fun i a b => ⟨i, rfl, a, b⟩⟩, ?_⟩
          rintro d ⟨n, rfl, n0, n1⟩
          refine ⟨⟨rows, rfl⟩, .tup (u :: us'), rfl, .int n, rfl, n, rfl, _, rfl, .pur, rfl, .lst vs, rfl, pick _ fun v hv => ?_⟩
          have hb2 := hb.1
          have c1 := cut_len (u :: us') none (some n)
          have c2 := cut_len (u :: us') (some (n + 1)) none
          refine ⟨rfl, _, if_pos (sz_of (by show (BV.cutD (u :: us') none (some n)).length + 1 ≤ _; omega)), .tup (u :: us'), rfl, .int n, rfl, _, rfl, _, rfl, _, rfl, ?_⟩
          have l1 : (BV.cutD (u :: us') none (some n)).length = n.toNat := by
            simp only [BV.cutD, HT.sIx, if_neg (show ¬ n < 0 by omega), List.length_take, List.length_drop]
            omega
          have l2 : (BV.cutD (u :: us') (some (n + 1)) none).length = (u :: us').length - (n + 1).toNat := by
            simp only [BV.cutD, HT.sIx, if_neg (show ¬ n + 1 < 0 by omega), List.length_take, List.length_drop]
            omega
          have hb' : RowB (30 + (i + 1)) ((BV.cutD (u :: us') none (some n) ++ [v]) ++ BV.cutD (u :: us') (some (n + 1)) none) := ⟨by
            rw [List.length_append, List.length_append, l1, l2]
            simp only [List.length_cons, List.length_nil] at n1 hb2 ⊢
            omega, fun x hx => by
            rcases List.mem_append.mp hx with hx | hx
            · rcases List.mem_append.mp hx with hx | hx
              · exact hb.2 x (cut_mem hx)
              · rw [List.mem_singleton.mp hx]; exact hv
            · exact hb.2 x (cut_mem hx)⟩
          refine ⟨_, if_pos (sz_of (by have := hb'.1; rw [List.length_append] at this; omega)), app_tail hb'.lf rfl (by omega) (done _ _ _ _ _ _ _ hb')⟩
end K02

/-! Ranks, comparisons, sorting. -/
namespace BV
open PySem PySem.Spec PyProof.Rows L2 Evl
theorem eqD_val {d e : D} (h : okEq d = true) (k : okEq e = true) (hn : d.nb = true) (kn : e.nb = true) : eqD d e = some (.bl (decide (d = e))) := by
  unfold eqD
  rw [if_pos ⟨h, k⟩]
  congr 2
  rw [Bool.eq_iff_iff, decide_eq_true_iff, eqv_iff d e hn kn]
theorem neD_val {d e : D} (h : okEq d = true) (k : okEq e = true) (hn : d.nb = true) (kn : e.nb = true) : neD d e = some (.bl (!decide (d = e))) := by
  unfold neD
  rw [if_pos ⟨h, k⟩]
  congr 3
  rw [Bool.eq_iff_iff, decide_eq_true_iff, eqv_iff d e hn kn]
theorem ltD_val {d e : D} {b : Bool} (h : okEq d = true) (k : okEq e = true) (hd : d.py.depth ≤ 60) (hb : ltO d e = some b) : ltD d e = some (.bl b) := by
  unfold ltD
  rw [if_pos ⟨h, k, hd⟩, hb]
  rfl
theorem ltD_int {i j : Int} : ltD (.int i) (.int j) = some (.bl (decide (i < j))) := ltD_val rfl rfl (Nat.zero_le _) (by simp only [ltO])
section
variable {α : Type} [LT α]
theorem lt_app (hi : ∀ a : α, ¬ a < a) {l m : List α} : ∀ p : List α, p ++ l < p ++ m ↔ l < m
  | [] => Iff.rfl
  | a :: p => by
    rw [List.cons_append, List.cons_append, lt_cons_self hi]
    exact lt_app hi p
theorem split_at {α : Type} : ∀ {a : List α} {i : Nat} {x : α}, a[i]? = some x → a = a.take i ++ x :: a.drop (i + 1)
  | [], i, x, h => by simp at h
  | y :: a, 0, x, h => by simp at h; simp [h]
  | y :: a, i + 1, x, h => by
    have := split_at (a := a) (i := i) (by simpa using h)
    simpa using this
theorem lex_ne (hi : ∀ a : α, ¬ a < a) {a b : List α} {i : Nat} {x y : α} (h : a.take i = b.take i) (ha : a[i]? = some x) (hb : b[i]? = some y) (hxy : x ≠ y) : a < b ↔ x < y := by
  have ea := split_at ha
  have eb := split_at hb
  rw [← h] at eb
  rw [ea, eb, lt_app hi, List.cons_lt_cons_iff]
  exact ⟨fun q => q.elim id fun q => absurd q.1 hxy, .inl⟩
theorem lex_len (hi : ∀ a : α, ¬ a < a) {a b : List α} (h : a.take (min a.length b.length) = b.take (min a.length b.length)) : a < b ↔ a.length < b.length := by
  by_cases hl : a.length < b.length
  · rw [Nat.min_eq_left (by omega), List.take_length] at h
    have eb : b = a ++ b.drop a.length := by
      conv => lhs; rw [← List.take_append_drop a.length b, ← h]
    have hd : b.drop a.length ≠ [] := by simp; omega
    refine ⟨fun _ => hl, fun _ => ?_⟩
    rw [eb]
    conv => lhs; rw [← List.append_nil a]
    rw [lt_app hi]
    cases he : b.drop a.length with
    | nil => exact absurd he hd
    | cons y r => exact List.nil_lt_cons _ _
  · rw [Nat.min_eq_right (by omega), List.take_length] at h
    have ea : a = b ++ a.drop b.length := by
      conv => lhs; rw [← List.take_append_drop b.length a, h]
    refine ⟨fun q => ?_, fun q => absurd q hl⟩
    rw [ea] at q
    conv at q => rhs; rw [← List.append_nil b]
    rw [lt_app hi] at q
    exact absurd q (List.not_lt_nil _)
theorem take_next {α : Type} {a b : List α} {i : Nat} {x : α} (h : a.take i = b.take i) (ha : a[i]? = some x) (hb : b[i]? = some x) : a.take (i + 1) = b.take (i + 1) := by
  rw [List.take_add_one, List.take_add_one, h, ha, hb]
end
/-! ### putting in -/
section
variable {K : D → List (List Int)}
def Asc (K : D → List (List Int)) (l : List D) : Prop := l.Pairwise fun x y => ¬ K y < K x
def putIn (K : D → List (List Int)) (d : D) (l : List D) : List D := l.take ((l.filter fun x => !decide (K d < K x)).length) ++ [d] ++ l.drop ((l.filter fun x => !decide (K d < K x)).length)
theorem key_tr {a b c : List (List Int)} (h : ¬ b < a) (k : ¬ c < b) : ¬ c < a := fun q => List.not_lt.mpr (List.le_trans (List.not_lt.mp h) (List.not_lt.mp k)) q
theorem putIn_cons_of {d x : D} {l : List D} (h : ¬ K d < K x) : putIn K d (x :: l) = x :: putIn K d l := by
  unfold putIn
  rw [List.filter_cons_of_pos (by simpa using h)]
  simp
theorem putIn_first {d : D} : ∀ {l : List D}, (∀ x ∈ l, K d < K x) → putIn K d l = d :: l := by
  intro l h
  unfold putIn
  have : (l.filter fun x => !decide (K d < K x)) = [] := List.filter_eq_nil_iff.mpr fun x hx => by simp [h x hx]
  rw [this]
  simp
theorem putIn_ok {d : D} : ∀ {l : List D}, Asc K l → Asc K (putIn K d l) ∧ (putIn K d l).Perm (d :: l)
  | [], _ => by
    rw [putIn_first (by simp)]
    exact ⟨List.pairwise_singleton _ _, .refl _⟩
  | x :: l, h => by
    obtain ⟨h1, h2⟩ := List.pairwise_cons.mp h
    by_cases hx : K d < K x
    · rw [putIn_first fun y hy => ?_]
      · refine ⟨List.pairwise_cons.mpr ⟨fun y hy => ?_, h⟩, .refl _⟩
        rcases List.mem_cons.mp hy with e | hy
        · rw [e]; exact List.lt_asymm hx
        · exact key_tr (List.lt_asymm hx) (h1 y hy)
      · rcases List.mem_cons.mp hy with e | hy
        · rw [e]; exact hx
        · by_cases hc : K d < K y
          · exact hc
          · exact absurd hx (key_tr (h1 y hy) hc)
    · rw [putIn_cons_of hx]
      obtain ⟨a, b⟩ := putIn_ok (d := d) h2
      refine ⟨List.pairwise_cons.mpr ⟨fun y hy => ?_, a⟩, (b.cons x).trans (.swap _ _ _)⟩
      rcases List.mem_cons.mp (b.mem_iff.mp hy) with e | hy
      · rw [e]; exact hx
      · exact h1 y hy
end
end BV
namespace K02
open PySem PySem.Spec PyProof.Rows L2 Evl BV
def sp_rank : SpD := fun ds T => ∃ v, ds = [v] ∧ isV v ∧ T (rankV v)
theorem says_value_rank : ∀ ds T, sp_rank ds T → spOf 1 N_value_rank.length m_value_rank ds T := by
  rintro ds T ⟨v, rfl, hv, hT⟩
  cases v with
  | int i => exact ⟨rfl, .int i, rfl, false, rfl, false, rfl, iteF ⟨.int i, rfl, rfl, hT⟩⟩
  | str s => exact ⟨rfl, .str s, rfl, true, rfl, true, rfl, iteT ⟨.str s, rfl, rfl, hT⟩⟩
  | _ => exact hv.elim
theorem says_pair : ∀ ds T, sp_rank ds T → spOf 1 N_pair.length m_pair ds T := by
  rintro ds T ⟨v, rfl, hv, hT⟩
  cases v with
  | int i => exact ⟨rfl, .int i, rfl, true, rfl, true, rfl, iteT ⟨.int i, rfl, rfl, hT⟩⟩
  | str s => exact ⟨rfl, .str s, rfl, false, rfl, false, rfl, iteF ⟨.str s, rfl, rfl, hT⟩⟩
  | _ => exact hv.elim
def sp_rankR : SpD := fun ds T => ∃ v, ds = [v] ∧ isR v ∧ T (rankR v)
theorem says_row_rank : ∀ ds T, sp_rankR ds T → spOf 1 N_row_rank.length (m_row_rank sp_rank) ds T := by
  rintro ds T ⟨r, rfl, hr, hT⟩
  cases r with
  | tup vs =>
    refine ⟨rfl, .tup vs, rfl, vs, rfl, sz_of (by have := hr.1; omega), lcGo_fn rankV vs (fun x hx => ⟨_, rfl, fun R S k => yes_go ⟨x, rfl, _, ⟨x, rfl, hr.2 x hx, rfl⟩, fun d e => ?_⟩⟩) ⟨_, rfl, hT⟩⟩
    rw [← e]
    exact k
  | _ => exact hr.elim
def sp_ahead : SpD := fun ds T => ∃ a b, ds = [a, b] ∧ isV a ∧ isV b ∧ T (.bl (decide (key a < key b)))
theorem ahead_int {i j : Int} : (key (.int i) < key (.int j)) ↔ i < j := by
  rw [key, key, lt_cons_self (by omega), List.cons_lt_cons_iff]
  exact ⟨fun h => h.elim id fun h => absurd h.2 (List.lt_irrefl _), .inl⟩
theorem ahead_str {s t : Str} : (key (.str s) < key (.str t)) ↔ s.cps.toList < t.cps.toList := by
  rw [key, key, lt_cons_self (by omega), map_ofNat_lt]
theorem low_one {s : Str} (h : Low s) {c : Nat} (hc : c ∈ s.cps.toList) : Low ⟨#[c]⟩ := fun x hx => h x (by simp at hx; rw [hx]; exact hc)
theorem ix_str_at {s : Str} (hs : s.length ≤ 13) {i : Nat} {c : Nat} (h : s.cps.toList[i]? = some c) : ixD (.str s) (.int i) = some (.str ⟨#[c]⟩) := by
  show (if szOk s.length = true then (atI s.cps.toList (i : Int)).map fun c => D.str ⟨#[c]⟩ else none) = _
  rw [if_pos (sz_of (by omega)), atI_nat h]
  rfl
theorem str_one {c d : Nat} : (D.str ⟨#[c]⟩ = D.str ⟨#[d]⟩) ↔ c = d := by simp
theorem rng_at {n i : Nat} {d : D} (h : (rngL 0 n)[i]? = some d) : d = .int (i : Nat) ∧ i < n := by
  unfold rngL at h
  rw [List.getElem?_map] at h
  by_cases hi : i < n
  · rw [List.getElem?_range hi] at h
    have := Option.some.inj h
    exact ⟨by rw [← this]; simp, hi⟩
  · rw [List.getElem?_eq_none (by simpa using hi)] at h
    cases h
theorem rng_len {n : Nat} : (rngL 0 n).length = n := by simp [rngL]
theorem min_nat {m n : Nat} : (if (n : Int) < (m : Int) then (n : Int) else (m : Int)) = ((min m n : Nat) : Int) := by
  split <;> omega
theorem says_is_ahead : ∀ ds T, sp_ahead ds T → spOf 2 N_is_ahead.length m_is_ahead ds T := by
  rintro ds T ⟨a, b, rfl, ha, hb, hT⟩
  cases a with
  | int i =>
    cases b with
    | int j =>
      refine ⟨rfl, .int i, rfl, true, rfl, true, rfl, iteT (iteT ⟨.int i, rfl, true, rfl, true, rfl, iteT ⟨.int j, rfl, true, rfl, true, rfl, false, rfl, iteF ⟨.int i, rfl, .int j, rfl, _, ltD_int, ?_⟩⟩⟩)⟩
      rw [← dec_congr ahead_int]
      exact hT
    | str t =>
      refine ⟨rfl, .int i, rfl, true, rfl, true, rfl, iteT (iteT ⟨.int i, rfl, true, rfl, true, rfl, iteT ⟨.str t, rfl, false, rfl, false, rfl, true, rfl, iteT hT⟩⟩)⟩
    | _ => exact hb.elim
  | str s =>
    cases b with
    | int j =>
      refine ⟨rfl, .str s, rfl, false, rfl, false, rfl, iteF ⟨.int j, rfl, true, rfl, true, rfl, iteT ⟨.str s, rfl, false, rfl, false, rfl, iteF hT⟩⟩⟩
    | str t =>
      have zs : szOk s.length = true := sz_of (by have := ha.1; omega)
      have zt : szOk t.length = true := sz_of (by have := hb.1; omega)
      refine ⟨rfl, .str s, rfl, false, rfl, false, rfl, iteF ⟨.str t, rfl, false, rfl, false, rfl, iteF ?_⟩⟩
      refine ⟨.str s, rfl, _, if_pos zs, .str t, rfl, _, if_pos zt, _, rfl, _, congrArg (fun i => [D.int i]) min_nat, by have := ha.1; omega, by have := ha.1; omega, ?_⟩
      have e1 : ((min s.length t.length : Nat) : Int).toNat = min s.length t.length := rfl
      rw [e1]
      refine forGo_inv (fun i env => ∃ x, env = [some (false, .str s), some (false, .str t), x] ∧ s.cps.toList.take i = t.cps.toList.take i) ⟨none, rfl, rfl⟩ ?_ ?_
      · rintro env ⟨x, rfl, he⟩
        refine ⟨.str s, rfl, _, if_pos zs, .str t, rfl, _, if_pos zt, _, ltD_int, ?_⟩
        rw [rng_len, cps_len, cps_len] at he
        have := lex_len (fun a => Nat.lt_irrefl a) he
        rw [← dec_congr (p := key (.str s) < key (.str t)) (by rw [ahead_str, this, cps_len, cps_len]; omega)]
        exact hT
      · rintro i d env nx hi ⟨x, rfl, he⟩ hn
        obtain ⟨rfl, hi⟩ := rng_at hi
        have hs : i < s.cps.toList.length := by rw [← cps_len]; omega
        have ht : i < t.cps.toList.length := by rw [← cps_len]; omega
        have gs := List.getElem?_eq_getElem hs
        have gt := List.getElem?_eq_getElem ht
        generalize s.cps.toList[i] = c at gs
        generalize t.cps.toList[i] = c' at gt
        have is1 := ix_str_at ha.1 gs
        have is2 := ix_str_at hb.1 gt
        have l1 := low_one ha.2 (List.mem_of_getElem? gs)
        have l2 := low_one hb.2 (List.mem_of_getElem? gt)
        refine ⟨_, rfl, .str s, rfl, .int i, rfl, _, is1, .str t, rfl, .int i, rfl, _, is2, _, neD_val ((PL.str l1).eq (by decide)) ((PL.str l2).eq (by decide)) rfl rfl, _, rfl, ite2 (fun q => ?_) (fun q => ?_)⟩
        · have hne : c ≠ c' := by simpa [str_one] using q
          refine ⟨.str s, rfl, .int i, rfl, _, is1, _, rfl, .str t, rfl, .int i, rfl, _, is2, _, rfl, _, ltD_int, ?_⟩
          have := lex_ne (fun a => Nat.lt_irrefl a) he gs gt hne
          rw [← dec_congr (p := key (.str s) < key (.str t)) (by rw [ahead_str, this]; show c < c' ↔ (c : Int) < (c' : Int); omega)]
          exact hT
        · have hq : c = c' := by simpa [str_one] using q
          subst hq
          exact hn _ ⟨_, rfl, take_next he gs gt⟩
    | _ => exact hb.elim
  | _ => exact ha.elim
end K02

/-! Rows: which is ahead, sorting by putting in. -/
namespace BV
open PySem PySem.Spec PyProof.Rows L2 Evl
theorem frz_nil : ∀ {k : Nat} {env : SEnv}, frz [] k env = env
  | k, [] => rfl
  | k, none :: r => by simp only [frz, frz_nil]
  | k, some (false, d) :: r => by simp only [frz, frz_nil]
  | k, some (true, d) :: r => by simp only [frz, frz_nil]; rfl
theorem aft_nil {d : D} {env : SEnv} : aft [] d env = env := by
  unfold aft
  rw [frz_nil]
  split <;> rfl
theorem aftL_nil {d : List D} {env : SEnv} : aftL [] d env = env := by
  unfold aftL
  rw [frz_nil]
  split <;> rfl
end BV
namespace K02
open PySem PySem.Spec PyProof.Rows L2 Evl BV
theorem isR.lf {r : D} (h : isR r) : r.lf = true := by
  cases r with
  | tup vs => exact lfs_all fun d hd => isV.lf (h.2 d hd)
  | _ => exact h.elim
def sp_rowAhead : SpD := fun ds T => ∃ a b, ds = [a, b] ∧ isR a ∧ isR b ∧ T (.bl (decide (rkey a < rkey b)))
theorem says_is_row_ahead : ∀ ds T, sp_rowAhead ds T → spOf 2 N_is_row_ahead.length (m_is_row_ahead sp_ahead) ds T := by
  rintro ds T ⟨a, b, rfl, ha, hb, hT⟩
  cases a with
  | tup s =>
    cases b with
    | tup t =>
      refine ⟨rfl, .tup s, rfl, _, rfl, .tup t, rfl, _, rfl, _, rfl, _, congrArg (fun i => [D.int i]) min_nat, by have := ha.1; omega, by have := ha.1; omega, ?_⟩
      have e1 : ((min s.length t.length : Nat) : Int).toNat = min s.length t.length := rfl
      rw [e1]
      refine forGo_inv (fun i env => ∃ x, env = [some (false, .tup s), some (false, .tup t), x] ∧ (s.map key).take i = (t.map key).take i) ⟨none, rfl, rfl⟩ ?_ ?_
      · rintro env ⟨x, rfl, he⟩
        refine ⟨.tup s, rfl, _, rfl, .tup t, rfl, _, rfl, _, ltD_int, ?_⟩
        rw [rng_len] at he
        have := lex_len (a := s.map key) (b := t.map key) (fun a => List.lt_irrefl a) (by rw [List.length_map, List.length_map]; exact he)
        rw [List.length_map, List.length_map] at this
        rw [← dec_congr (p := rkey (.tup s) < rkey (.tup t)) (by rw [show (rkey (.tup s) < rkey (.tup t)) ↔ _ from this]; omega)]
        exact hT
      · rintro i d env nx hi ⟨x, rfl, he⟩ hn
        obtain ⟨rfl, hi⟩ := rng_at hi
        have gs := List.getElem?_eq_getElem (l := s) (i := i) (by omega)
        have gt := List.getElem?_eq_getElem (l := t) (i := i) (by omega)
        generalize s[i] = c at gs
        generalize t[i] = c' at gt
        have vc := ha.2 c (List.mem_of_getElem? gs)
        have vc' := hb.2 c' (List.mem_of_getElem? gt)
        have is1 : ixD (.tup s) (.int i) = some c := atI_nat gs
        have is2 : ixD (.tup t) (.int i) = some c' := atI_nat gt
        have ks : (s.map key)[i]? = some (key c) := by rw [List.getElem?_map, gs]; rfl
        have kt : (t.map key)[i]? = some (key c') := by rw [List.getElem?_map, gt]; rfl
        refine ⟨_, rfl, .tup s, rfl, .int i, rfl, _, is1, .tup t, rfl, .int i, rfl, _, is2, _, neD_val (vc.pl.eq (by decide)) (vc'.pl.eq (by decide)) vc.nb vc'.nb, _, rfl, ite2 (fun q => ?_) (fun q => ?_)⟩
        · have hne : c ≠ c' := by simpa using q
          refine ⟨.tup s, rfl, .int i, rfl, _, is1, .tup t, rfl, .int i, rfl, _, is2, _, ⟨c, c', rfl, vc, vc', rfl⟩, fun d e => ?_⟩
          have := lex_ne (fun a => List.lt_irrefl a) he ks kt fun e => hne (key_inj vc vc' e)
          have h2 : d = .bl (decide (rkey (.tup s) < rkey (.tup t))) := by
            rw [dec_congr (p := rkey (.tup s) < rkey (.tup t)) this]
            exact e.symm
          rw [h2]
          exact hT
        · have hq : c = c' := by simpa using q
          subst hq
          exact hn _ ⟨_, rfl, take_next he ks kt⟩
    | _ => exact hb.elim
  | _ => exact ha.elim
def sp_inOrder : SpD := fun ds T => ∃ rows, ds = [.lst rows] ∧ rows.length ≤ 1000 ∧ (∀ r ∈ rows, isR r) ∧ ∀ out, out.Perm rows → Asc rkey out → T (.lst out)
theorem says_in_order : ∀ ds T, sp_inOrder ds T → spOf 1 N_in_order.length (m_in_order sp_rowAhead) ds T := by
  rintro ds T ⟨rows, rfl, hlen, hR, hT⟩
  refine ⟨rfl, rfl, rfl, .lst rows, rfl, rows, rfl, ?_⟩
  refine forGo_inv (fun i env => ∃ out x2 x3, env = [some (false, .lst rows), some (true, .lst out), x2, x3] ∧ out.Perm (rows.take i) ∧ Asc rkey out) ⟨[], none, none, rfl, by simp, List.Pairwise.nil⟩ ?_ ?_
  · rintro env ⟨out, x2, x3, rfl, hp, ha⟩
    rw [List.take_length] at hp
    exact ⟨.lst out, rfl, hT out hp ha⟩
  · rintro i line env nx hi ⟨out, x2, x3, rfl, hp, ha⟩ hn
    have hl := hR line (List.mem_of_getElem? hi)
    have hi' := (List.getElem?_eq_some_iff.mp hi).1
    have hol : out.length = i := by rw [hp.length_eq, List.length_take]; omega
    have hO : ∀ r ∈ out, isR r := fun r hr => hR r (List.mem_of_mem_take (hp.mem_iff.mp hr))
    refine ⟨_, rfl, ⟨out, rfl⟩, .lst out, rfl, out, rfl, sz_of (by omega), ?_⟩
    refine lcGo_filter (fun x => !decide (rkey line < rkey x)) out [] (fun x hx => ⟨_, rfl, fun R S k1 k2 => ?_⟩) ?_
    · refine ⟨line, rfl, x, rfl, _, ⟨line, x, rfl, hl, hO x hx, rfl⟩, fun d e => ⟨_, e.symm, ?_⟩⟩
      by_cases hc : rkey line < rkey x
      · rw [decide_eq_true hc] at k1 k2 ⊢
        exact iteF (k2 rfl)
      · rw [decide_eq_false hc] at k1 k2 ⊢
        exact iteT ⟨x, rfl, k1 rfl⟩
    · obtain ⟨q1, q2⟩ := putIn_ok (d := line) ha
      generalize hn' : (out.filter fun x => !decide (rkey line < rkey x)).length = n
      have hpi : BV.putIn rkey line out = out.take n ++ [line] ++ out.drop n := by unfold BV.putIn; rw [hn']
      have hnl : n ≤ out.length := by rw [← hn']; exact List.length_filter_le ..
      refine ⟨_, rfl, line, rfl, n, line, out, by rw [List.nil_append, hn'], ?_⟩
      have hlf : D.lfs [.int (n : Int), line] = true := by simp only [D.lfs, isR.lf hl]; rfl
      have e2 : ([D.int ↑(List.filter (fun x => !decide (rkey line < rkey x)) out).length, line] : List D) = [.int (n : Int), line] := by rw [hn']
      rw [List.nil_append, e2, aftL_lf hlf]
      refine ⟨rfl, sz_of (by omega), by omega, by omega, hn _ ⟨BV.putIn rkey line out, some (false, line), x3, ?_, ?_, q1⟩⟩
      · rw [hpi]
        rfl
      · refine q2.trans ((hp.cons line).trans ?_)
        rw [List.take_add_one, hi]
        exact List.perm_append_comm (l₁ := [line])
end K02

/-! sorted by ranks and places. -/
namespace BV
open PySem PySem.Spec PyProof.Rows L2 Evl
/-- ranks that order as keys do -/
structure Rk (isX : D → Prop) (rk : D → D) (ky rkk : D → List (List Int)) : Prop where
  lt : ∀ a b, isX a → isX b → ltO (rk a) (rk b) = some (decide (ky a < ky b))
  eq : ∀ a b, isX a → isX b → PyData.eqv (rk a).py (rk b).py = decide (a = b)
  inj : ∀ a b, isX a → isX b → ky a = ky b → a = b
  tup : ∀ a, isX a → ∃ ds, rk a = .tup ds
  pl : ∀ a, isX a → PL 2 2000 (rk a)
  kk : ∀ a, isX a → rkk (rk a) = ky a
def gk (rkk : D → List (List Int)) : D → List (List (List Int))
  | .tup [r, .int i] => [rkk r, [[i]]]
  | _ => []
section
variable {isX : D → Prop} {rk : D → D} {ky rkk : D → List (List Int)}
def valAt (vs : List D) : D → D
  | .tup [_, .int i] => vs.getD i.toNat .non
  | _ => .non
theorem one_lt {i j : Int} : ([[i]] : List (List Int)) < [[j]] ↔ i < j := by
  rw [List.cons_lt_cons_iff, List.cons_lt_cons_iff]
  constructor
  · rintro ((h | h) | h)
    · exact h
    · exact absurd h.2 (List.lt_irrefl _)
    · exact absurd h.2 (List.lt_irrefl _)
  · exact fun h => .inl (.inl h)
theorem item_lt (R : Rk isX rk ky rkk) {a b : D} {i j : Int} (ha : isX a) (hb : isX b) : ltO (.tup [rk a, .int i]) (.tup [rk b, .int j]) = some (decide (gk rkk (.tup [rk a, .int i]) < gk rkk (.tup [rk b, .int j]))) := by
  simp only [ltO, ltOs, gk, R.kk a ha, R.kk b hb]
  rw [R.eq a b ha hb]
  by_cases e : a = b
  · subst e
    rw [decide_eq_true rfl, if_pos rfl]
    by_cases hij : i = j
    · subst hij
      rw [if_pos (by simp [D.py, PyData.eqv])]
      congr 1
      rw [List.isEmpty_nil, Bool.not_true, eq_comm, decide_eq_false_iff_not]
      exact List.lt_irrefl _
    · rw [if_neg (by simpa [D.py, PyData.eqv] using hij)]
      congr 1
      refine dec_congr ?_
      rw [List.cons_lt_cons_iff, List.cons_lt_cons_iff, one_lt]
      constructor
      · exact fun h => .inr ⟨rfl, .inl h⟩
      · rintro (h | ⟨_, h | h⟩)
        · exact absurd h (List.lt_irrefl _)
        · exact h
        · exact absurd h.2 (List.lt_irrefl _)
  · rw [decide_eq_false e, if_neg (by simp), R.lt a b ha hb]
    congr 1
    refine dec_congr ?_
    rw [List.cons_lt_cons_iff]
    exact ⟨.inl, fun h => h.elim id fun h => absurd (R.inj a b ha hb h.1) e⟩
theorem swo_gk : SrtO.Swo fun d e => decide (gk rkk d < gk rkk e) :=
  ⟨fun x y h => decide_eq_false (List.lt_asymm (of_decide_eq_true h)), fun x y z h k => decide_eq_false fun q =>
    List.not_lt.mpr (List.le_trans (List.not_lt.mp (of_decide_eq_false h)) (List.not_lt.mp (of_decide_eq_false k))) q⟩
def items (rk : D → D) (vs : List D) : List D := vs.mapIdx fun i v => .tup [rk v, .int (i : Nat)]
theorem items_mem {vs : List D} {x : D} (h : x ∈ items rk vs) : ∃ (i : Nat) (v : D), vs[i]? = some v ∧ x = .tup [rk v, .int i] := by
  obtain ⟨i, hi⟩ := List.mem_iff_getElem?.mp h
  unfold items at hi
  rw [List.getElem?_mapIdx] at hi
  cases hv : vs[i]? with
  | none => rw [hv] at hi; cases hi
  | some v => rw [hv] at hi; exact ⟨i, v, hv, (Option.some.inj hi).symm⟩
theorem valAt_item {vs : List D} {i : Nat} {v : D} (h : vs[i]? = some v) : valAt vs (.tup [rk v, .int i]) = v := by
  show vs.getD (i : Int).toNat .non = v
  rw [Int.toNat_natCast, List.getD_eq_getElem?_getD, h]
  rfl
theorem items_val {vs : List D} : (items rk vs).map (valAt vs) = vs := by
  apply List.ext_getElem?
  intro i
  rw [List.getElem?_map]
  unfold items
  rw [List.getElem?_mapIdx]
  cases hv : vs[i]? with
  | none => rfl
  | some v => exact congrArg some (valAt_item (rk := rk) hv)
theorem sort_items (R : Rk isX rk ky rkk) {vs : List D} {T : D → Prop} (hl : vs.length ≤ 1000) (hv : ∀ v ∈ vs, isX v)
    (k : ∀ out, (∀ x ∈ out, ∃ (i : Nat) (v : D), vs[i]? = some v ∧ x = .tup [rk v, .int i]) → (out.map (valAt vs)).Perm vs → Asc ky (out.map (valAt vs)) → T (.lst out)) : sortedP [.lst (items rk vs)] T := by
  refine ⟨items rk vs, fun d e => decide (gk rkk d < gk rkk e), rfl, fun d hd => ?_, swo_gk, fun d hd e he => ?_, fun out hs hb => ?_⟩
  · obtain ⟨i, v, h1, rfl⟩ := items_mem hd
    have hi := (List.getElem?_eq_some_iff.mp h1).1
    have hx := hv v (List.mem_of_getElem? h1)
    have pl := PL.tup (k := 2) (m := 2000) (ds := [rk v, .int (i : Nat)]) fun d hd => by
      simp only [List.mem_cons, List.not_mem_nil, or_false] at hd
      rcases hd with rfl | rfl
      · exact R.pl v hx
      · exact (PL.int (by omega)).mono (by omega) (by omega)
    have hdep := pl.dp
    obtain ⟨ds, e⟩ := R.tup v hx
    have h0 : tupFirst (.tup [rk v, .int (i : Nat)]) = true := by rw [e]; rfl
    simp only [okSort, h0, pl.eq (by decide), Bool.true_and, decide_eq_true_eq]
    omega
  · obtain ⟨i, v, h1, rfl⟩ := items_mem hd
    obtain ⟨j, w, h2, rfl⟩ := items_mem he
    exact item_lt R (hv v (List.mem_of_getElem? h1)) (hv w (List.mem_of_getElem? h2))
  · have hm : ∀ x ∈ out, ∃ (i : Nat) (v : D), vs[i]? = some v ∧ x = .tup [rk v, .int i] := fun x hx => items_mem (hb.perm.mem_iff.mp hx)
    refine k out hm ?_ ?_
    · have := hb.perm.map (valAt vs)
      rwa [items_val] at this
    · refine List.pairwise_map.mpr (List.Pairwise.imp_of_mem ?_ hs)
      intro x y hx hy hlt
      obtain ⟨i, v, h1, rfl⟩ := hm x hx
      obtain ⟨j, w, h2, rfl⟩ := hm y hy
      rw [valAt_item h1, valAt_item h2]
      intro hc
      have hlt := of_decide_eq_false hlt
      simp only [gk, R.kk v (hv v (List.mem_of_getElem? h1)), R.kk w (hv w (List.mem_of_getElem? h2))] at hlt
      exact hlt (List.cons_lt_cons_iff.mpr (.inl hc))
theorem asc_eq {l m vs : List D} (inj : ∀ a b, isX a → isX b → ky a = ky b → a = b) (hv : ∀ v ∈ vs, isX v) (h1 : l.Perm vs) (h2 : m.Perm vs) (a1 : Asc ky l) (a2 : Asc ky m) : l = m := by
  refine sorted_eq (lt := fun x y => ky x < ky y) (h1.trans h2.symm) a1 a2 fun a ha b hb h k => ?_
  exact inj a b (hv a (h1.mem_iff.mp ha)) (hv b (h1.mem_iff.mp hb)) (List.le_antisymm (List.not_lt.mp k) (List.not_lt.mp h))
end
theorem enum_get {vs : List D} {i : Nat} : (enumL vs)[i]? = (vs[i]?).map fun v => D.tup [.int (i : Nat), v] := by
  unfold enumL
  rw [List.getElem?_mapIdx]
theorem enum_mem {vs : List D} {x : D} (h : x ∈ enumL vs) : ∃ (i : Nat) (v : D), vs[i]? = some v ∧ x = .tup [.int i, v] := by
  obtain ⟨i, hi⟩ := List.mem_iff_getElem?.mp h
  rw [enum_get] at hi
  cases hv : vs[i]? with
  | none => rw [hv] at hi; cases hi
  | some v => rw [hv] at hi; exact ⟨i, v, hv, (Option.some.inj hi).symm⟩
theorem enum_len {vs : List D} : (enumL vs).length = vs.length := by simp [enumL]
/-- value and place exchanged -/
def swapI (f : D → D) : D → D
  | .tup [.int i, v] => .tup [f v, .int i]
  | d => d
theorem enum_swap {f : D → D} {vs : List D} : (enumL vs).map (swapI f) = items f vs := by
  apply List.ext_getElem?
  intro i
  rw [List.getElem?_map, enum_get]
  unfold items
  rw [List.getElem?_mapIdx]
  cases vs[i]? <;> rfl
theorem enum_swap' {f : D → D} {vs : List D} : (enumL (vs.map f)).map (swapI id) = items f vs := by
  rw [enum_swap]
  unfold items
  apply List.ext_getElem?
  intro i
  rw [List.getElem?_mapIdx, List.getElem?_mapIdx, List.getElem?_map]
  cases vs[i]? <;> rfl
/-! ### same texts -/
theorem neD_bl {b : Bool} : neD (.bl b) (.bl b) = some (.bl false) := by cases b <;> rfl
theorem neD_same {d : D} (h : okEq d = true) (hn : d.nb = true) : neD d d = some (.bl false) := by
  rw [neD_val h h hn hn]
  simp
end BV
namespace K02
open PySem PySem.Spec PyProof.Rows L2 Evl BV
def k2 : D → List Int
  | .tup [_, v] => key v
  | _ => []
def k2s : D → List (List Int)
  | .tup ds => ds.map k2
  | _ => []
theorem rank_key {v : D} (h : isV v) : k2 (rankV v) = key v := by
  cases v <;> first | rfl | exact h.elim
theorem rkV : Rk isV rankV (fun v => [key v]) (fun d => [k2 d]) := by
  refine ⟨fun a b ha hb => ?_, fun a b ha hb => rank_eqv ha hb, fun a b ha hb e => key_inj ha hb (List.cons.inj e).1, fun a ha => ?_, fun a ha => (rank_pl ha).mono (by decide) (by decide), fun a ha => ?_⟩
  · rw [rank_lt ha hb]
    congr 1
    refine dec_congr ?_
    rw [List.cons_lt_cons_iff]
    exact ⟨.inl, fun h => h.elim id fun h => absurd h.2 (List.lt_irrefl _)⟩
  · cases a <;> first | exact ⟨_, rfl⟩ | exact ha.elim
  · rw [rank_key ha]
theorem rkR : Rk isR rankR rkey k2s := by
  refine ⟨fun a b ha hb => rankR_lt ha hb, fun a b ha hb => rankR_eqv ha hb, fun a b ha hb e => rkey_inj ha hb e, fun a ha => ?_, fun a ha => rankR_pl ha, fun a ha => ?_⟩
  · cases a <;> first | exact ⟨_, rfl⟩ | exact ha.elim
  · cases a with
    | tup vs =>
      show (vs.map rankV).map k2 = vs.map key
      rw [List.map_map]
      exact List.map_congr_left fun v hv => rank_key (ha.2 v hv)
    | _ => exact ha.elim
end K02

namespace K02
open PySem PySem.Spec PyProof.Rows L2 Evl BV
theorem rk_use {v : D} (hv : isV v) (Q : D → Prop) (k : Q (rankV v)) : ∃ T, sp_rank [v] T ∧ ∀ d, T d → Q d := ⟨(· = rankV v), ⟨v, rfl, hv, rfl⟩, fun d e => e ▸ k⟩
theorem ahead_use {v w : D} (hv : isV v) (hw : isV w) (Q : D → Prop) (k : Q (.bl (decide (key v < key w)))) : ∃ T, sp_ahead [v, w] T ∧ ∀ d, T d → Q d := ⟨(· = .bl (decide (key v < key w))), ⟨v, w, rfl, hv, hw, rfl⟩, fun d e => e ▸ k⟩
theorem rank_dp {v : D} (h : isV v) : (rankV v).py.depth ≤ 60 := Nat.le_trans (rank_pl h).dp (by decide)
def firstD : D → D
  | .tup (v :: _) => v
  | d => d
def sp_valuesTold : SpD := fun ds T => ∃ vs, ds = [.lst vs] ∧ vs.length ≤ 1000 ∧ (∀ v ∈ vs, isV v) ∧ T (.bl true)
theorem says_are_values_told : ∀ ds T, sp_valuesTold ds T → spOf 1 N_are_values_told.length (m_are_values_told sp_rank sp_rank sp_ahead sp_inOrder) ds T := by
  rintro ds T ⟨vs, rfl, hl, hv, hT⟩
  refine ⟨rfl, .lst vs, rfl, vs, rfl, ?_⟩
  refine forGo_inv (fun i env => ∃ x1 x2 x3, env = [some (false, .lst vs), x1, x2, x3, none, none, none, none, none, none]) ⟨none, none, none, rfl⟩ ?_ ?_
  · -- behind the loops
    rintro env ⟨x1, x2, x3, rfl⟩
    refine ⟨.lst vs, rfl, vs, rfl, sz_of (by rw [enum_len]; omega), lcGo_fn (swapI rankV) (enumL vs) (fun x hx => ?_) ?_⟩
    · obtain ⟨i, v, h1, rfl⟩ := enum_mem hx
      exact ⟨_, rfl, fun R S k => yes_go ⟨v, rfl, rk_use (hv v (List.mem_of_getElem? h1)) _ ⟨.int i, rfl, rfl, k⟩⟩⟩
    · rw [enum_swap]
      dsimp only [maNil]
      refine sort_items rkV hl hv fun out hm hp ha => ?_
      (first | rw [aft_nil] | (dsimp only; rw [aft_nil]))
      refine ⟨.lst vs, rfl, vs, rfl, sz_of (by omega), lcGo_fn (fun v => .tup [v]) vs (fun x hx => ⟨_, rfl, fun R S k => yes_go ⟨x, rfl, rfl, k⟩⟩) ?_⟩
      refine ⟨fun d => ∃ o, d = .lst o ∧ o.Perm (vs.map fun v => .tup [v]) ∧ Asc rkey o, ⟨_, rfl, by simpa using hl, fun r hr => ?_, fun o p a => ⟨o, rfl, p, a⟩⟩, ?_⟩
      · obtain ⟨v, h1, rfl⟩ := List.mem_map.mp hr
        exact ⟨by simp, fun x hx => by rw [List.mem_singleton.mp hx]; exact hv v h1⟩
      · rintro d ⟨lines, rfl, lp, la⟩
        (first | rw [aft_nil] | (dsimp only; rw [aft_nil]))
        have lm : ∀ x ∈ lines, ∃ v ∈ vs, x = .tup [v] := fun x hx => by
          obtain ⟨v, h1, h2⟩ := List.mem_map.mp (lp.mem_iff.mp hx)
          exact ⟨v, h1, h2.symm⟩
        have p2 : (lines.map firstD).Perm vs := by
          have := lp.map firstD
          rw [List.map_map] at this
          have e : vs.map (firstD ∘ fun v => .tup [v]) = vs := by
            have : (firstD ∘ fun v => D.tup [v]) = id := rfl
            rw [this, List.map_id]
          rwa [e] at this
        have a2 : Asc (fun v => [key v]) (lines.map firstD) := by
          refine List.pairwise_map.mpr (List.Pairwise.imp_of_mem ?_ la)
          intro x y hx hy hlt
          obtain ⟨v, _, rfl⟩ := lm x hx
          obtain ⟨w, _, rfl⟩ := lm y hy
          exact hlt
        have same : out.map (valAt vs) = lines.map firstD := asc_eq (isX := isV) (ky := fun v => [key v]) rkV.inj hv hp p2 ha a2
        have ol : out.length ≤ 1000 := by have := hp.length_eq; rw [List.length_map] at this; omega
        have ll : lines.length ≤ 1000 := by have := lp.length_eq; rw [List.length_map] at this; omega
        have pl1 : PL 1 20000 (.lst (out.map (valAt vs))) := (PL.lst (k := 0) (m := 15) fun d hd => (hv d (hp.mem_iff.mp hd)).pl).mono (by decide) (by rw [List.length_map]; omega)
        have pl2 : PL 1 20000 (.lst (lines.map firstD)) := same ▸ pl1
        refine ⟨.lst out, rfl, out, rfl, sz_of (by omega), lcGo_fn (valAt vs) out (fun x hx => ?_) ⟨_, if_pos (pl1.repr (by decide) (by decide)), .lst lines, rfl, lines, rfl, sz_of (by omega), lcGo_fn firstD lines (fun x hx => ?_) ⟨_, if_pos (pl2.repr (by decide) (by decide)), _, eqD_val pl1.seen pl2.seen rfl rfl, ?_⟩⟩⟩
        · obtain ⟨i, v, h1, rfl⟩ := hm x hx
          exact ⟨_, rfl, fun R S k => yes_go ⟨.lst vs, rfl, .tup [rankV v, .int i], rfl, .int i, rfl, v, atI_nat h1, by rw [valAt_item h1] at k; exact k⟩⟩
        · obtain ⟨v, _, rfl⟩ := lm x hx
          exact ⟨_, rfl, fun R S k => yes_go ⟨.tup [v], rfl, v, rfl, k⟩⟩
        · rw [same, decide_eq_true rfl]
          exact hT
  · rintro i one env nx hi ⟨x1, x2, x3, rfl⟩ hn
    have h1 := hv one (List.mem_of_getElem? hi)
    have pr : PL 2 100 (.lst [rankV one, rankV one]) := (PL.lst (k := 1) (m := 40) fun d hd => by
      simp only [List.mem_cons, List.not_mem_nil, or_false] at hd
      rcases hd with rfl | rfl <;> exact rank_pl h1).mono (by decide) (by simp)
    have rp := pr.repr (by decide) (by decide)
    refine ⟨_, rfl, one, rfl, rk_use h1 _ ⟨one, rfl, rk_use h1 _ ⟨rfl, _, if_pos rp, one, rfl, rk_use h1 _ ⟨rfl, _, rfl, _, if_pos rp, _, neD_same pr.seen rfl, _, rfl, iteF ?_⟩⟩⟩⟩
    refine ⟨.lst vs, rfl, vs, rfl, ?_⟩
    rw [frz_nil]
    refine forGo_inv (fun j env => ∃ x2 x3, env = [some (false, .lst vs), some (false, one), x2, x3, none, none, none, none, none, none]) ⟨x2, x3, rfl⟩ ?_ ?_
    · rintro env ⟨x2, x3, rfl⟩
      exact hn _ ⟨_, _, _, rfl⟩
    · rintro j two env nx2 hj ⟨x2, x3, rfl⟩ hn2
      have h2 := hv two (List.mem_of_getElem? hj)
      refine ⟨_, rfl, one, rfl, rk_use h1 _ ⟨two, rfl, rk_use h2 _ ⟨rfl, ?_⟩⟩⟩
      (first | rw [aft_nil] | (dsimp only; rw [aft_nil]))
      have q1 := (rank_pl h1).eq (by decide)
      have q2 := (rank_pl h2).eq (by decide)
      refine ⟨.lst [rankV one, rankV two], rfl, _, rfl, .lst [rankV one, rankV two], rfl, _, rfl, _, ltD_val q1 q2 (rank_dp h1) (rank_lt h1 h2), one, rfl, two, rfl, ahead_use h1 h2 _ ⟨_, neD_bl, _, rfl, iteF ?_⟩⟩
      have t1 := h1.pl.repr (by decide) (by decide)
      have t2 := h2.pl.repr (by decide) (by decide)
      refine ⟨.lst [rankV one, rankV two], rfl, _, rfl, .lst [rankV one, rankV two], rfl, _, rfl, _, eqD_val q1 q2 (rank_nb h1) (rank_nb h2), one, rfl, _, if_pos t1, two, rfl, _, if_pos t2, _, eqD_val h1.pl.seen h2.pl.seen rfl rfl, .bl false, ?_, _, rfl, iteF (hn2 _ ⟨_, _, rfl⟩)⟩
      have e : decide (rankV one = rankV two) = decide (D.str one.py.shown = D.str two.py.shown) := dec_congr (by
        rw [rank_inj h1 h2, D.str.injEq, txt_eq]
        exact ⟨fun e => by rw [e], isV.inj h1 h2⟩)
      rw [e]
      exact neD_bl
end K02

namespace K02
open PySem PySem.Spec PyProof.Rows L2 Evl BV
theorem rkR_use {r : D} (hr : isR r) (Q : D → Prop) (k : Q (rankR r)) : ∃ T, sp_rankR [r] T ∧ ∀ d, T d → Q d := ⟨(· = rankR r), ⟨r, rfl, hr, rfl⟩, fun d e => e ▸ k⟩
theorem rowAhead_use {v w : D} (hv : isR v) (hw : isR w) (Q : D → Prop) (k : Q (.bl (decide (rkey v < rkey w)))) : ∃ T, sp_rowAhead [v, w] T ∧ ∀ d, T d → Q d := ⟨(· = .bl (decide (rkey v < rkey w))), ⟨v, w, rfl, hv, hw, rfl⟩, fun d e => e ▸ k⟩
theorem rankR_dp {v : D} (h : isR v) : (rankR v).py.depth ≤ 60 := Nat.le_trans (rankR_pl h).dp (by decide)
def sp_rowsTold : SpD := fun ds T => ∃ rows, ds = [.lst rows] ∧ rows.length ≤ 1000 ∧ (∀ v ∈ rows, isR v) ∧ T (.bl true)
theorem says_are_rows_told : ∀ ds T, sp_rowsTold ds T → spOf 1 N_are_rows_told.length (m_are_rows_told sp_rank sp_rankR sp_rowAhead sp_inOrder) ds T := by
  rintro ds T ⟨rows, rfl, hl, hv, hT⟩
  refine ⟨rfl, .lst rows, rfl, rows, rfl, ?_⟩
  refine forGo_inv (fun i env => ∃ x1 x2, env = [some (false, .lst rows), x1, x2, none, none, none, none, none, none, none, none, none]) ⟨none, none, rfl⟩ ?_ ?_
  · rintro env ⟨x1, x2, rfl⟩
    -- the ranks
    refine ⟨.lst rows, rfl, rows, rfl, sz_of (by omega), lcGo_fn rankR rows (fun x hx => ⟨_, rfl, fun R S k => yes_go ⟨x, rfl, rkR_use (hv x hx) _ k⟩⟩) ?_⟩
    (first | rw [aft_nil] | (dsimp only; rw [aft_nil]))
    -- each with each
    refine ⟨.lst rows, rfl, rows, rfl, ?_⟩
    (first | rw [frz_nil] | (dsimp only; rw [frz_nil]))
    refine forGo_inv (fun i env => ∃ x1 x2 x4 x5 x6, env = [some (false, .lst rows), x1, x2, some (false, .lst (rows.map rankR)), x4, x5, x6, none, none, none, none, none]) ⟨x1, x2, none, none, none, rfl⟩ ?_ ?_
    · rintro env ⟨x1, x2, x4, x5, x6, rfl⟩
      refine ⟨.lst (rows.map rankR), rfl, rows.map rankR, rfl, sz_of (by rw [enum_len, List.length_map]; omega), lcGo_fn (swapI id) (enumL (rows.map rankR)) (fun x hx => ?_) ?_⟩
      · obtain ⟨i, q, h1, rfl⟩ := enum_mem hx
        exact ⟨_, rfl, fun R S k => yes_go ⟨q, rfl, .int i, rfl, rfl, k⟩⟩
      · rw [enum_swap']
        dsimp only [maNil]
        refine sort_items rkR hl hv fun out hm hp ha => ?_
        (first | rw [aft_nil] | (dsimp only; rw [aft_nil]))
        have ol : out.length ≤ 1000 := by have := hp.length_eq; rw [List.length_map] at this; omega
        have pl1 : PL 2 800000 (.lst (out.map (valAt rows))) := (PL.lst (k := 1) (m := 700) fun d hd => (hv d (hp.mem_iff.mp hd)).pl).mono (by decide) (by rw [List.length_map]; omega)
        refine ⟨.lst out, rfl, out, rfl, sz_of (by omega), lcGo_fn (valAt rows) out (fun x hx => ?_) ⟨_, if_pos (pl1.repr (by decide) (by decide)), .lst rows, rfl, fun d => ∃ o, d = .lst o ∧ o.Perm rows ∧ Asc rkey o, ⟨rows, rfl, hl, hv, fun o p a => ⟨o, rfl, p, a⟩⟩, ?_⟩⟩
        · obtain ⟨i, v, h1, rfl⟩ := hm x hx
          exact ⟨_, rfl, fun R S k => yes_go ⟨.lst rows, rfl, .tup [rankR v, .int i], rfl, .int i, rfl, v, atI_nat h1, by rw [valAt_item h1] at k; exact k⟩⟩
        · rintro d ⟨o, rfl, p2, a2⟩
          have same : out.map (valAt rows) = o := asc_eq (isX := isR) (ky := rkey) rkR.inj hv hp p2 ha a2
          have pl2 : PL 2 800000 (.lst o) := same ▸ pl1
          refine ⟨_, if_pos (pl2.repr (by decide) (by decide)), _, eqD_val pl1.seen pl2.seen rfl rfl, ?_⟩
          rw [same, decide_eq_true rfl]
          exact hT
    · rintro i x env nx hi ⟨x1, x2, x4, x5, x6, rfl⟩ hn
      rw [enum_get] at hi
      obtain ⟨one, g1, rfl⟩ := Option.map_eq_some_iff.mp hi
      have h1 := hv one (List.mem_of_getElem? g1)
      refine ⟨_, rfl, .lst rows, rfl, rows, rfl, ?_⟩
      (first | rw [frz_nil] | (dsimp only; rw [frz_nil]))
      refine forGo_inv (fun j env => ∃ x5 x6, env = [some (false, .lst rows), some (false, one), x2, some (false, .lst (rows.map rankR)), some (false, .int (i : Nat)), x5, x6, none, none, none, none, none]) ⟨x5, x6, rfl⟩ ?_ ?_
      · rintro env ⟨x5, x6, rfl⟩
        exact hn _ ⟨_, _, _, _, _, rfl⟩
      · rintro j y env nx2 hj ⟨x5, x6, rfl⟩ hn2
        rw [enum_get] at hj
        obtain ⟨two, g2, rfl⟩ := Option.map_eq_some_iff.mp hj
        have h2 := hv two (List.mem_of_getElem? g2)
        have q1 := (rankR_pl h1).eq (by decide)
        have q2 := (rankR_pl h2).eq (by decide)
        have r1 : ixD (.lst (rows.map rankR)) (.int (i : Nat)) = some (rankR one) := atI_nat (by rw [List.getElem?_map, g1]; rfl)
        have r2 : ixD (.lst (rows.map rankR)) (.int (j : Nat)) = some (rankR two) := atI_nat (by rw [List.getElem?_map, g2]; rfl)
        refine ⟨_, rfl, .lst (rows.map rankR), rfl, .int (i : Nat), rfl, _, r1, .lst (rows.map rankR), rfl, .int (j : Nat), rfl, _, r2, _, ltD_val q1 q2 (rankR_dp h1) (rankR_lt h1 h2), one, rfl, two, rfl, rowAhead_use h1 h2 _ ⟨_, neD_bl, _, rfl, iteF ?_⟩⟩
        have t1 := h1.pl.repr (by decide) (by decide)
        have t2 := h2.pl.repr (by decide) (by decide)
        refine ⟨.lst (rows.map rankR), rfl, .int (i : Nat), rfl, _, r1, .lst (rows.map rankR), rfl, .int (j : Nat), rfl, _, r2, _, eqD_val q1 q2 (rankR_nb h1) (rankR_nb h2), one, rfl, _, if_pos t1, two, rfl, _, if_pos t2, _, eqD_val h1.pl.seen h2.pl.seen rfl rfl, .bl false, ?_, _, rfl, iteF (hn2 _ ⟨_, _, rfl⟩)⟩
        have e : decide (rankR one = rankR two) = decide (D.str one.py.shown = D.str two.py.shown) := dec_congr (by
          rw [rankR_inj h1 h2, D.str.injEq, txt_eq]
          exact ⟨fun e => by rw [e], isR.inj h1 h2⟩)
        rw [e]
        exact neD_bl
  · rintro i one env nx hi ⟨x1, x2, rfl⟩ hn
    have h1 := hv one (List.mem_of_getElem? hi)
    have pr : PL 3 10000 (.lst [rankR one, rankR one, rankR one]) := (PL.lst (k := 2) (m := 2000) fun d hd => by
      simp only [List.mem_cons, List.not_mem_nil, or_false] at hd
      rcases hd with rfl | rfl | rfl <;> exact rankR_pl h1).mono (by decide) (by simp)
    have rp := pr.repr (by decide) (by decide)
    cases one with
    | tup us =>
      refine ⟨_, rfl, .tup us, rfl, us, rfl, sz_of (by have := h1.1; omega), lcGo_fn rankV us (fun x hx => ⟨_, rfl, fun R S k => yes_go ⟨x, rfl, rk_use (h1.2 x hx) _ k⟩⟩) ⟨.tup (us.map rankV), rfl, ?_⟩⟩
      (first | rw [aft_nil] | (dsimp only; rw [aft_nil]))
      refine ⟨.tup us, rfl, rkR_use h1 _ ⟨.tup us, rfl, rkR_use h1 _ ⟨.tup us, rfl, rkR_use h1 _ ⟨rfl, _, if_pos rp, .tup (us.map rankV), rfl, rfl, _, rfl, _, if_pos rp, _, neD_same pr.seen rfl, _, rfl, iteF ?_⟩⟩⟩⟩
      exact hn _ ⟨_, _, rfl⟩
    | _ => exact h1.elim
end K02

/-! The purse is made. -/
namespace K02
open PySem PySem.Spec PyProof.Rows L2 Evl BV
theorem sc_purse : FnScope N_purse ["_law_script"] (defScope s_purse) := ⟨rfl, rfl, rfl, by decide +kernel, rfl, by decide +kernel, by decide +kernel⟩
def spPurse (K : PySem.W.Frag) : Sp := fun vs H Q _ => ∃ (a : Addr) (ns : List Int), vs = [.ref a] ∧ SqL K H a (ns.map V.int) ∧ ns.length ≤ 63 ∧ ∀ (z : Pz) H', Pur z (fun _ => none) H' → Q (.ref z.p) H'
theorem cut_map {ns : List Int} {lo hi : Option Int} : cutV (ns.map V.int) lo hi = (BV.cutD ns lo hi).map V.int := by
  unfold cutV BV.cutD
  rw [List.length_map, ← List.map_drop, ← List.map_take]
section
variable {P : Program} {w : World} {K : PySem.W.Frag} {mg : Str → Option Value} {base : Heap}
theorem ok_purse {f : Addr} {fd : FuncData} (F : Fun K "_law_purse" "_law_purse" s_purse f fd) (ml : mg "len" = none) (ms : mg "sum" = none) : FnG P w K mg base CX0 1 f fd ["_law_script"] (spPurse K) := by
  have nd := sc_purse.nd
  refine fnG_of F sc_purse (fun vs H Q E ⟨a, ns, e, _⟩ => by rw [e]; rfl) fun cdv A out s H vs Q E hr gd ⟨a, ns, e, hS, hl, q⟩ => ?_
  subst e
  refine ⟨_, (pss_cons (ps_setLc (i := 1) (own := [("_law_cell", 2)]) (g := gName 2) (tt := tYes) rfl nd rfl rfl (sw_true rfl rfl rfl (by decide +kernel)) (pi_list (pe_slice sl_list (pv 0) po_none (po_some pe_int))) (blkOk_by (N := N_purse) (sc := defScope s_purse) (by decide +kernel)) (fun _ _ _ _ _ => pg_name (i := 2) nd rfl (Or.inl rfl)) (fun _ _ _ _ _ => pts_nil)
      (fun _ _ _ _ _ => pe_ifExp (pt_cmpR op_ge (pv 2) pe_int (nomark _)) (pe_op op_mul pe_int (pv 2)) (pe_op op_sub (pe_op op_mul (pe_un un_neg pe_int) (pv 2)) pe_int)))
    (pss_one (ps_ret (pe_lst (pa_cons (pe_lc (own := [("_law_cell", 2)]) (g := gName 2) (by rfl) nd (pi_list (pv 1)) (blkOk_by (N := N_purse) (sc := defScope s_purse) (by decide +kernel)) (fun _ _ _ _ _ => pg_name (i := 2) nd rfl (Or.inl rfl)) (fun _ _ _ _ _ => pts_one (pt_cmpR op_ge (pv 2) (pe_op op_pow pe_int pe_int) (nomark _))) (fun _ _ _ _ _ => pv 2))
      (pa_cons (pe_op op_cat (pv 1) (pe_lst (pa_cons (pe_op op_add (pe_callB call_len_seq (by rfl) ml PySem.boot_len (pa_cons (pv 1) pa_nil)) pe_int) pa_nil)))
      (pa_cons (pe_callB (cr_sum (by rfl)) (by rfl) ms (by rfl) (pa_cons (pv 1) pa_nil))
      (pa_cons pe_int pa_nil)))))) ) : PSs _ (defBody s_purse) _).nox, ?_⟩
  -- script[:63]
  refine ⟨.ref a, rfl, 63, rfl, a, ns.map V.int, rfl, hS, fun p hp => ⟨p, rfl, ⟨_, sq_of upd_same⟩, fun D hD => ?_⟩⟩
  rw [cut_map] at hD ⊢
  have hml : (BV.cutD ns none (some 63)).length ≤ 63 := by
    have : (BV.cutD ns none (some 63)).length ≤ ns.length := by
      simp only [BV.cutD, List.length_take, List.length_drop]
      omega
    omega
  generalize BV.cutD ns none (some 63) = cs at hD hml ⊢
  have npD : p ≠ D := fun e => by rw [e, upd_same] at hD; cases hD
  let g : Int → Int := fun c => if 0 ≤ c then 2 * c else -2 * c - 1
  refine lc_list (xs := cs.map V.int) (fun i H' => H' p = some (.lst (cs.map V.int)) ∧ H' D = some (.lst (((cs.take i).map g).map V.int))) ⟨by rw [upd_ne npD]; exact upd_same, by rw [upd_same]; rfl⟩ (fun i H' _ h => sq_of h.1) (fun i x H' hx h => ?_) (fun H' h => ?_)
  · rw [List.getElem?_map] at hx
    obtain ⟨c, hc, rfl⟩ := Option.map_eq_some_iff.mp hx
    have go : ∀ y, y = g c → ∃ acc, H' D = some (.lst acc) ∧ acc.length < sizeLine ∧ ((upd H' D (.lst (acc ++ [V.int y]))) p = some (.lst (cs.map V.int)) ∧ (upd H' D (.lst (acc ++ [V.int y]))) D = some (.lst (((cs.take (i + 1)).map g).map V.int))) := fun y hy => by
      refine ⟨_, h.2, ?_, by rw [upd_ne npD]; exact h.1, ?_⟩
      · have e : sizeLine = 16777216 := sizeLine_eq
        rw [List.length_map, List.length_map, List.length_take]
        omega
      · rw [upd_same, hy, List.take_add_one, hc]
        simp
    refine ⟨rfl, ?_⟩
    dsimp only [tYes]
    rw [if_pos rfl]
    refine ⟨.int c, rfl, c, 0, rfl, rfl, _, rfl, ite2 (fun hc0 => ?_) (fun hc0 => ?_)⟩
    · refine ⟨.int c, rfl, 2, c, rfl, rfl, .inl ⟨by decide, by decide⟩, go _ ?_⟩
      have : 0 ≤ c := of_decide_eq_true hc0
      exact (if_pos this).symm
    · refine ⟨2, rfl, .int c, rfl, -2, c, rfl, rfl, .inl ⟨by decide, by decide⟩, -2 * c, 1, rfl, rfl, go _ ?_⟩
      have : ¬ 0 ≤ c := fun z => hc0 (decide_eq_true z)
      exact (if_neg this).symm
  · rw [List.length_map, List.take_length] at h
    have hlen : (cs.map g).length ≤ 63 := by rw [List.length_map]; exact hml
    obtain ⟨_, hD1⟩ := h
    generalize cs.map g = ms' at hD1 hlen
    -- the great ones
    refine ⟨.ref D, rfl, D, rfl, ⟨_, sq_of hD1⟩, fun G hG => ?_⟩
    have nDG : D ≠ G := fun e => by rw [e] at hD1; rw [hD1] at hG; cases hG
    refine lc_list (xs := ms'.map V.int) (fun i H2 => H2 D = some (.lst (ms'.map V.int)) ∧ ∃ gs : List Int, gs.length ≤ i ∧ H2 G = some (.lst (gs.map V.int))) ⟨by rw [upd_ne nDG]; exact hD1, [], Nat.le_refl _, by rw [upd_same]; rfl⟩ (fun i H2 _ h => sq_of h.1) (fun i x H2 hx h => ?_) (fun H2 h => ?_)
    · rw [List.getElem?_map] at hx
      obtain ⟨c, hc, rfl⟩ := Option.map_eq_some_iff.mp hx
      obtain ⟨h1, gs, h2, h3⟩ := h
      have hi := (List.getElem?_eq_some_iff.mp hc).1
      refine ⟨rfl, .int c, rfl, 10, 18, rfl, rfl, ⟨by decide, by decide, by decide⟩, c, _, rfl, rfl, _, rfl, ite2 (fun _ => ?_) (fun _ => ?_)⟩
      · refine ⟨.int c, rfl, _, h3, ?_, by rw [upd_ne nDG]; exact h1, gs ++ [c], by simp; omega, by rw [upd_same]; simp⟩
        have e : sizeLine = 16777216 := sizeLine_eq
        rw [List.length_map]
        omega
      · exact ⟨h1, gs, by omega, h3⟩
    · rw [List.length_map] at h
      obtain ⟨h1, gs, h2, h3⟩ := h
      have e : sizeLine = 16777216 := sizeLine_eq
      -- cells + [len(cells) + 8191]
      refine ⟨.ref D, rfl, .ref D, rfl, D, _, rfl, .inl (sq_of h1), _, 8191, rfl, rfl, Nat.le_trans (by decide : 1 ≤ 16777216) (Nat.le_of_eq e.symm), fun q2 hq2 => ?_⟩
      have nDq : D ≠ q2 := fun e => by rw [e] at h1; rw [h1] at hq2; cases hq2
      have nGq : G ≠ q2 := fun e => by rw [e] at h3; rw [h3] at hq2; cases hq2
      have hD3 : (upd H2 q2 (.lst [.int ((ms'.map V.int).length + 8191)])) D = some (.lst (ms'.map V.int)) := by rw [upd_ne nDq]; exact h1
      have hG3 : (upd H2 q2 (.lst [.int ((ms'.map V.int).length + 8191)])) G = some (.lst (gs.map V.int)) := by rw [upd_ne nGq]; exact h3
      have hq3 : (upd H2 q2 (.lst [.int ((ms'.map V.int).length + 8191)])) q2 = some (.lst [.int ((ms'.map V.int).length + 8191)]) := upd_same
      refine ⟨D, q2, _, _, rfl, rfl, hD3, hq3, by rw [List.length_map, e]; simp; omega, fun C hC => ?_⟩
      generalize upd H2 q2 (.lst [.int ((ms'.map V.int).length + 8191)]) = H3 at hD3 hG3 hC ⊢
      have nDC : D ≠ C := fun e => by rw [e] at hD3; rw [hD3] at hC; cases hC
      have nGC : G ≠ C := fun e => by rw [e] at hG3; rw [hG3] at hC; cases hC
      have hD4 : (upd H3 C (.lst (ms'.map V.int ++ [.int ((ms'.map V.int).length + 8191)]))) D = some (.lst (ms'.map V.int)) := by rw [upd_ne nDC]; exact hD3
      have hG4 : (upd H3 C (.lst (ms'.map V.int ++ [.int ((ms'.map V.int).length + 8191)]))) G = some (.lst (gs.map V.int)) := by rw [upd_ne nGC]; exact hG3
      have hC4 : (upd H3 C (.lst (ms'.map V.int ++ [.int ((ms'.map V.int).length + 8191)]))) C = some (.lst ((ms' ++ [((ms'.map V.int).length : Int) + 8191]).map V.int)) := by rw [upd_same]; simp
      refine ⟨.ref D, rfl, D, ms', rfl, sq_of hD4, Nat.le_trans (by decide : 4 ≤ 16777216) (Nat.le_of_eq e.symm), fun p5 hp5 => ?_⟩
      generalize upd H3 C (.lst (ms'.map V.int ++ [.int ((ms'.map V.int).length + 8191)])) = H4 at hD4 hG4 hC4 hp5 ⊢
      have nGp : G ≠ p5 := fun e => by rw [e] at hG4; rw [hG4] at hp5; cases hp5
      have nCp : C ≠ p5 := fun e => by rw [e] at hC4; rw [hC4] at hp5; cases hp5
      refine q ⟨p5, G, C⟩ _ ⟨⟨gs, ms' ++ [((ms'.map V.int).length : Int) + 8191], ms'.sum, 0, upd_same, by rw [upd_ne nGp]; exact hG4, by rw [upd_ne nCp]; exact hC4, by omega, by simp, by simp; omega⟩, rfl, rfl, rfl, nGp.symm, nCp.symm, nGC⟩
end
end K02

namespace K02
open PySem PySem.Spec PyProof.Rows L2 Evl BV
theorem rd_law {P : Program} {w : World} {K : PySem.W.Frag} {mg : Str → Option Value} {base : Heap} {f : Addr} {cdv : Value} {A : Around} {out : List PySem.Env} {s : Shared} {H : Hp} {E : XK} (nd : N_law.Nodup) (hr : Room 4 (A.deeper (envOfC "law" (defScope s_law) s.heap.objs.size f cdv))) (hgd : A.guards = some []) (bi_range : mg "range" = none) {sp_stock : SpD} (G_stock : Kn P w K mg base "_law_stock" 4 ["_law_purse_here"] sp_stock) {sp_are_values_told : SpD} (G_are_values_told : Kn P w K mg base "_law_are_values_told" 4 ["_law_stock_here"] sp_are_values_told) {sp_are_rows_told : SpD} (G_are_rows_told : Kn P w K mg base "_law_are_rows_told" 4 ["_law_lines_here"] sp_are_rows_told) {sp_lines : SpD} (G_lines : Kn P w K mg base "_law_lines" 3 ["_law_purse_here", "_law_stock_here"] sp_lines) : PDSs (cxOf CX0 P w K mg base N_law "law" (defScope s_law) f cdv A out s H E).nox ((defBody s_law).drop 1) (m_law sp_stock sp_are_values_told sp_are_rows_told sp_lines) := by
  have hu := hr.units
  exact (pdss_cons (pds_forR [] (t := (.nm 2)) PassesOwn.never rfl (pdr_1 (by rfl) bi_range (pda_cons pd_int pda_nil)) (pgt_nm 2 nd)
    (pdss_cons (pds_set [] 3 nd (pd_callN G_stock hr (by decide) hgd (pda_cons (pd_v 1) pda_nil)))
    (pdss_one (pds_if [] (PDW.pdt (pdw_or (pdt_not (pdt_val (pd_callN G_are_values_told hr (by decide) hgd (pda_cons (pd_v 3) pda_nil)))) (pdw_or1 (pdt_not (pdt_val (pd_callN G_are_rows_told hr (by decide) hgd (pda_cons (pd_callN G_lines hr (by decide) hgd (pda_cons (pd_v 1) (pda_cons (pd_v 3) pda_nil))) pda_nil)))))))
    (pdss_one (pds_ret [] pd_bl))
    pdss_nil))))
    (pdss_cons (pds_set [] 4 nd (pd_lst (pda_cons (pd_op opd_pow pd_int pd_int) (pda_cons pd_str (pda_cons (pd_un und_neg (pd_op opd_pow pd_int pd_int)) (pda_cons pd_str (pda_cons pd_int (pda_cons pd_str (pda_cons (pd_un und_neg pd_int) (pda_cons pd_str (pda_cons pd_int (pda_cons pd_int (pda_cons pd_str (pda_cons pd_str pda_nil))))))))))))))
    (pdss_cons (pds_set [] 5 nd (pd_lst (pda_cons (pd_tup (pda_cons pd_str pda_nil)) (pda_cons (pd_tup (pda_cons pd_int (pda_cons pd_str pda_nil))) (pda_cons (pd_tup (pda_cons pd_int pda_nil)) (pda_cons (pd_tup (pda_cons (pd_un und_neg pd_int) (pda_cons pd_int pda_nil))) (pda_cons (pd_tup pda_nil) (pda_cons (pd_tup (pda_cons pd_str (pda_cons pd_int pda_nil))) (pda_cons (pd_tup (pda_cons pd_str pda_nil)) (pda_cons (pd_tup (pda_cons pd_int (pda_cons pd_str (pda_cons pd_int pda_nil)))) (pda_cons (pd_tup (pda_cons (pd_un und_neg pd_int) (pda_cons pd_int pda_nil))) (pda_cons (pd_tup (pda_cons pd_str pda_nil)) (pda_cons (pd_tup (pda_cons pd_int (pda_cons (pd_op opd_pow pd_int pd_int) pda_nil))) pda_nil)))))))))))))
    (pdss_one (pds_ret [] (pd_and (pd_callN G_are_values_told hr (by decide) hgd (pda_cons (pd_v 4) pda_nil)) (pd_one (pd_callN G_are_rows_told hr (by decide) hgd (pda_cons (pd_v 5) pda_nil)))))))))
end K02

namespace K02
open PySem PySem.Spec PyProof.Rows L2 Evl BV
theorem vt_use {vs : List D} (h : vs.length ≤ 1000) (hv : ∀ v ∈ vs, isV v) (Q : D → Prop) (k : Q (.bl true)) : ∃ T, sp_valuesTold [.lst vs] T ∧ ∀ d, T d → Q d := ⟨(· = .bl true), ⟨vs, rfl, h, hv, rfl⟩, fun d e => e ▸ k⟩
theorem rt_use {rows : List D} (h : rows.length ≤ 1000) (hv : ∀ v ∈ rows, isR v) (Q : D → Prop) (k : Q (.bl true)) : ∃ T, sp_rowsTold [.lst rows] T ∧ ∀ d, T d → Q d := ⟨(· = .bl true), ⟨rows, rfl, h, hv, rfl⟩, fun d e => e ▸ k⟩
theorem wV {s : Str} (h : s.length ≤ 13) (k : s.cps.toList.all (fun c => decide (97 ≤ c) && decide (c ≤ 122)) = true) : isV (.str s) := ⟨h, fun c hc => by
  have := List.all_eq_true.mp k c hc
  simpa using this⟩
theorem says_law (E : EndD) (hT : E.rt (.bl true)) : m_law sp_stock sp_valuesTold sp_rowsTold sp_lines E [none, some (false, .pur), none, none, none, none] := by
  refine ⟨4, rfl, by decide, by decide, ?_⟩
  refine forGo_inv (fun i env => ∃ x2 x3, env = [none, some (false, .pur), x2, x3, none, none]) ⟨none, none, rfl⟩ ?_ ?_
  · rintro env ⟨x2, x3, rfl⟩
    refine ⟨_, pow109, _, pow109, _, rfl, _, rfl, rfl, ?_⟩
    (first | rw [aft_nil] | (dsimp only; rw [aft_nil]))
    refine ⟨rfl, rfl, rfl, _, rfl, rfl, rfl, rfl, rfl, rfl, _, rfl, rfl, rfl, _, pow109, rfl, rfl, ?_⟩
    (first | rw [aft_nil] | (dsimp only; rw [aft_nil]))
    refine ⟨_, rfl, vt_use (by simp) (fun v hv => ?_) _ ⟨true, rfl, iteT ⟨_, rfl, rt_use (by simp) (fun r hr => ?_) _ hT⟩⟩⟩
    · simp only [List.mem_cons, List.not_mem_nil, or_false] at hv
      rcases hv with rfl | rfl | rfl | rfl | rfl | rfl | rfl | rfl | rfl | rfl | rfl | rfl
      · show (1000000000 : Int).natAbs ≤ _; decide
      · exact wV (by decide +kernel) (by decide +kernel)
      · show (-1000000000 : Int).natAbs ≤ _; decide
      · exact wV (by decide +kernel) (by decide +kernel)
      · show (0 : Int).natAbs ≤ _; decide
      · exact wV (by decide +kernel) (by decide +kernel)
      · show (-1 : Int).natAbs ≤ _; decide
      · exact wV (by decide +kernel) (by decide +kernel)
      · show (9 : Int).natAbs ≤ _; decide
      · show (10 : Int).natAbs ≤ _; decide
      · exact wV (by decide +kernel) (by decide +kernel)
      · exact wV (by decide +kernel) (by decide +kernel)
    · have w1 : isV (.str (Str.ofString "bo")) := wV (by decide +kernel) (by decide +kernel)
      have w2 : isV (.str (Str.ofString "a")) := wV (by decide +kernel) (by decide +kernel)
      have w3 : isV (.str (Str.ofString "ab")) := wV (by decide +kernel) (by decide +kernel)
      have n1 : isV (.int 3) := by show (3 : Int).natAbs ≤ _; decide
      have n2 : isV (.int (-7)) := by show (-7 : Int).natAbs ≤ _; decide
      have n3 : isV (.int 9) := by show (9 : Int).natAbs ≤ _; decide
      have n4 : isV (.int 10) := by show (10 : Int).natAbs ≤ _; decide
      have n5 : isV (.int 0) := by show (0 : Int).natAbs ≤ _; decide
      have n6 : isV (.int 1000000000) := by show (1000000000 : Int).natAbs ≤ _; decide
      have rows : ∀ us : List D, us.length ≤ 40 → (∀ v ∈ us, isV v) → isR (.tup us) := fun us a b => ⟨a, b⟩
      simp only [List.mem_cons, List.not_mem_nil, or_false] at hr
      rcases hr with rfl | rfl | rfl | rfl | rfl | rfl | rfl | rfl | rfl | rfl | rfl <;> refine rows _ (by simp) fun v hv => ?_ <;> simp only [List.mem_cons, List.not_mem_nil, or_false] at hv <;> (try rcases hv with rfl | rfl | rfl) <;> (try rcases hv with rfl | rfl) <;> (try subst hv) <;> first | assumption | contradiction
  · rintro i d env nx hi ⟨x2, x3, rfl⟩ hn
    refine ⟨_, rfl, .pur, rfl, fun d => ∃ vs, d = .lst vs ∧ vs.length = 7 ∧ ∀ v ∈ vs, isV v, ⟨rfl, fun vs a b => ⟨vs, rfl, a, b⟩⟩, ?_⟩
    rintro d ⟨vs, rfl, hl, hv⟩
    (first | rw [aft_nil] | (dsimp only; rw [aft_nil]))
    refine ⟨.lst vs, rfl, vt_use (by omega) hv _ ⟨true, rfl, iteF ?_⟩⟩
    refine ⟨.pur, rfl, .lst vs, rfl, fun d => ∃ rows, d = .lst rows ∧ rows.length ≤ 7 ∧ ∀ r ∈ rows, isR r, ⟨vs, rfl, (fun e => by (rw [e] at hl; cases hl)), by omega, hv, fun rows a b => ⟨rows, rfl, a, b⟩⟩, ?_⟩
    rintro d ⟨rows, rfl, h1, h2⟩
    exact rt_use (by omega) h2 _ ⟨true, rfl, iteF (hn _ ⟨_, _, rfl⟩)⟩
end K02
namespace K02
open PySem PySem.Spec PyProof.Rows L2 Evl BV
def spLaw (K : PySem.W.Frag) : Sp := fun vs H Q _ => ∃ (a : Addr) (ns : List Int), vs = [.ref a] ∧ SqL K H a (ns.map V.int) ∧ ns.length ≤ 63 ∧ ∀ H', Q (.bl true) H'
theorem sc_law' : FnScope N_law ["_law_script"] (defScope s_law) := ⟨rfl, rfl, rfl, by decide +kernel, rfl, by decide +kernel, by decide +kernel⟩
theorem law_env : ∀ {i : Nat} {y : Bool × D}, ([none, some (false, .pur), none, none, none, none] : SEnv)[i]? = some (some y) → i = 1 ∧ y = (false, .pur)
  | 0, y, h => by simp at h
  | 1, y, h => by simp at h; exact ⟨rfl, h.symm⟩
  | 2, y, h => by simp at h
  | 3, y, h => by simp at h
  | 4, y, h => by simp at h
  | 5, y, h => by simp at h
  | n + 6, y, h => by simp at h
theorem ok_law {P : Program} {w : World} {K : PySem.W.Frag} {mg : Str → Option Value} {base : Heap} {f fp : Addr} {fd fdp : FuncData} (F : Fun K "law" "law" s_law f fd)
    (Gp : FnG P w K mg base CX0 1 fp fdp ["_law_script"] (spPurse K)) (bp : Binds K fdp ["_law_script"] []) (kp : PySem.W.keepIn K (.ref fp) = true) (gp : mg "_law_purse" = some (.ref fp)) (bi_range : mg "range" = none)
    (G1 : Kn P w K mg base "_law_stock" 4 ["_law_purse_here"] sp_stock) (G2 : Kn P w K mg base "_law_are_values_told" 4 ["_law_stock_here"] sp_valuesTold)
    (G3 : Kn P w K mg base "_law_are_rows_told" 4 ["_law_lines_here"] sp_rowsTold) (G4 : Kn P w K mg base "_law_lines" 3 ["_law_purse_here", "_law_stock_here"] sp_lines) : FnG P w K mg base CX0 5 f fd ["_law_script"] (spLaw K) := by
  have nd := sc_law'.nd
  refine fnG_of F sc_law' (fun vs H Q E ⟨a, ns, e, _⟩ => by rw [e]; rfl) fun cdv A out s H vs Q E hr hgd ⟨a, ns, e, hS, hl, q⟩ => ?_
  subst e
  have rd := rd_law (E := E) (out := out) (s := s) (H := H) (cdv := cdv) (f := f) nd hr hgd bi_range G1 G2 G3 G4
  have rest : PSs (cxOf CX0 P w K mg base N_law "law" (defScope s_law) f cdv A out s H E).nox ((defBody s_law).drop 1) (fun N σ H => ∃ z C0 H0 Cb, liftS K z C0 H0 Cb (m_law sp_stock sp_valuesTold sp_rowsTold sp_lines) N σ H) := ⟨fun pins s σ H N I ⟨z, C0, H0, Cb, q⟩ => (rd.run z C0 H0 Cb).run pins s σ H N I q⟩
  refine ⟨_, (pss_cons (ps_set (i := 1) nd rfl (.inl rfl) (pe_callG Gp (hr.mono (by decide)) hgd (by rfl) gp kp bp pass0 (pa_cons (pv 0) pa_nil) (by decide) (by rfl) (by rfl))) rest : PSs _ (defBody s_law) _).nox, ?_⟩
  refine ⟨.ref a, rfl, a, ns, rfl, hS, hl, fun z H1 pu => ?_⟩
  have o : Ok z (fun _ => none) H1 := ⟨fun b u e => (nomatch e), pu⟩
  refine ⟨z, fun _ => none, H1, fun _ => none, fun _ => none, [none, some (false, .pur), none, none, none, none], ⟨o, Tr.refl o, Ex.refl _, rfl, fun i d h => ?_, fun i d h => ?_, fun i j d e a h _ _ _ => ?_⟩, says_law _ fun v C' H' t dn => ?_⟩
  · obtain ⟨rfl, e⟩ := law_env h
    cases e
    exact ⟨.ref z.p, rfl, dn_pur.mpr rfl⟩
  · obtain ⟨_, e⟩ := law_env h
    cases e
  · obtain ⟨_, e⟩ := law_env h
    cases e
  · rw [dn_bl.mp dn]
    exact q H'
end K02

namespace K02
open PySem PySem.Spec PyProof.Rows L2 Evl BV

theorem all_mk {P : Program} {w : World} {K : PySem.W.Frag} {h : Heap} {mg : Str → Option Value} {fa : Addr} (X : K.In h) (G : h.Ns mainGlobals mg) (hfa : mg "law" = some (.ref fa))
    {f0 : Addr} {od0 an0 : Option Addr} {sl0 : Array (Option Value)} {oc0 kV0 dc0 pm0 cd0 ct0 : Value}
    (a0 : PySem.W.nsIn K mainGlobals "value_rank" = some (some (.ref f0))) (l0 : K.lookup f0 = some ⟨oc0, od0, .func (PySem.W.fnOf "value_rank" "value_rank" (defArgs s_value_rank) (defBody s_value_rank) (defScope s_value_rank) .none kV0 dc0 pm0 an0 cd0 ct0), sl0⟩) (c0 : PySem.W.codeIn K cd0 "value_rank" = true) (k0 : PySem.W.keepIn K (.ref f0) = true)
    {f1 : Addr} {od1 an1 : Option Addr} {sl1 : Array (Option Value)} {oc1 kV1 dc1 pm1 cd1 ct1 : Value}
    (a1 : PySem.W.nsIn K mainGlobals "row_rank" = some (some (.ref f1))) (l1 : K.lookup f1 = some ⟨oc1, od1, .func (PySem.W.fnOf "row_rank" "row_rank" (defArgs s_row_rank) (defBody s_row_rank) (defScope s_row_rank) .none kV1 dc1 pm1 an1 cd1 ct1), sl1⟩) (c1 : PySem.W.codeIn K cd1 "row_rank" = true) (k1 : PySem.W.keepIn K (.ref f1) = true)
    {f2 : Addr} {od2 an2 : Option Addr} {sl2 : Array (Option Value)} {oc2 kV2 dc2 pm2 cd2 ct2 : Value}
    (a2 : PySem.W.nsIn K mainGlobals "_law_purse" = some (some (.ref f2))) (l2 : K.lookup f2 = some ⟨oc2, od2, .func (PySem.W.fnOf "_law_purse" "_law_purse" (defArgs s_purse) (defBody s_purse) (defScope s_purse) .none kV2 dc2 pm2 an2 cd2 ct2), sl2⟩) (c2 : PySem.W.codeIn K cd2 "_law_purse" = true) (k2 : PySem.W.keepIn K (.ref f2) = true)
    {f3 : Addr} {od3 an3 : Option Addr} {sl3 : Array (Option Value)} {oc3 kV3 dc3 pm3 cd3 ct3 : Value}
    (a3 : PySem.W.nsIn K mainGlobals "_law_draw" = some (some (.ref f3))) (l3 : K.lookup f3 = some ⟨oc3, od3, .func (PySem.W.fnOf "_law_draw" "_law_draw" (defArgs s_draw) (defBody s_draw) (defScope s_draw) .none kV3 dc3 pm3 an3 cd3 ct3), sl3⟩) (c3 : PySem.W.codeIn K cd3 "_law_draw" = true) (k3 : PySem.W.keepIn K (.ref f3) = true)
    {f4 : Addr} {od4 an4 : Option Addr} {sl4 : Array (Option Value)} {oc4 kV4 dc4 pm4 cd4 ct4 : Value}
    (a4 : PySem.W.nsIn K mainGlobals "_law_pick" = some (some (.ref f4))) (l4 : K.lookup f4 = some ⟨oc4, od4, .func (PySem.W.fnOf "_law_pick" "_law_pick" (defArgs s_pick) (defBody s_pick) (defScope s_pick) .none kV4 dc4 pm4 an4 cd4 ct4), sl4⟩) (c4 : PySem.W.codeIn K cd4 "_law_pick" = true) (k4 : PySem.W.keepIn K (.ref f4) = true)
    {f5 : Addr} {od5 an5 : Option Addr} {sl5 : Array (Option Value)} {oc5 kV5 dc5 pm5 cd5 ct5 : Value}
    (a5 : PySem.W.nsIn K mainGlobals "_law_word" = some (some (.ref f5))) (l5 : K.lookup f5 = some ⟨oc5, od5, .func (PySem.W.fnOf "_law_word" "_law_word" (defArgs s_word) (defBody s_word) (defScope s_word) .none kV5 dc5 pm5 an5 cd5 ct5), sl5⟩) (c5 : PySem.W.codeIn K cd5 "_law_word" = true) (k5 : PySem.W.keepIn K (.ref f5) = true)
    {f6 : Addr} {od6 an6 : Option Addr} {sl6 : Array (Option Value)} {oc6 kV6 dc6 pm6 cd6 ct6 : Value}
    (a6 : PySem.W.nsIn K mainGlobals "_law_stock" = some (some (.ref f6))) (l6 : K.lookup f6 = some ⟨oc6, od6, .func (PySem.W.fnOf "_law_stock" "_law_stock" (defArgs s_stock) (defBody s_stock) (defScope s_stock) .none kV6 dc6 pm6 an6 cd6 ct6), sl6⟩) (c6 : PySem.W.codeIn K cd6 "_law_stock" = true) (k6 : PySem.W.keepIn K (.ref f6) = true)
    {f7 : Addr} {od7 an7 : Option Addr} {sl7 : Array (Option Value)} {oc7 kV7 dc7 pm7 cd7 ct7 : Value}
    (a7 : PySem.W.nsIn K mainGlobals "_law_lines" = some (some (.ref f7))) (l7 : K.lookup f7 = some ⟨oc7, od7, .func (PySem.W.fnOf "_law_lines" "_law_lines" (defArgs s_lines) (defBody s_lines) (defScope s_lines) .none kV7 dc7 pm7 an7 cd7 ct7), sl7⟩) (c7 : PySem.W.codeIn K cd7 "_law_lines" = true) (k7 : PySem.W.keepIn K (.ref f7) = true)
    {f8 : Addr} {od8 an8 : Option Addr} {sl8 : Array (Option Value)} {oc8 kV8 dc8 pm8 cd8 ct8 : Value}
    (a8 : PySem.W.nsIn K mainGlobals "_law_is_ahead" = some (some (.ref f8))) (l8 : K.lookup f8 = some ⟨oc8, od8, .func (PySem.W.fnOf "_law_is_ahead" "_law_is_ahead" (defArgs s_is_ahead) (defBody s_is_ahead) (defScope s_is_ahead) .none kV8 dc8 pm8 an8 cd8 ct8), sl8⟩) (c8 : PySem.W.codeIn K cd8 "_law_is_ahead" = true) (k8 : PySem.W.keepIn K (.ref f8) = true)
    {f9 : Addr} {od9 an9 : Option Addr} {sl9 : Array (Option Value)} {oc9 kV9 dc9 pm9 cd9 ct9 : Value}
    (a9 : PySem.W.nsIn K mainGlobals "_law_is_row_ahead" = some (some (.ref f9))) (l9 : K.lookup f9 = some ⟨oc9, od9, .func (PySem.W.fnOf "_law_is_row_ahead" "_law_is_row_ahead" (defArgs s_is_row_ahead) (defBody s_is_row_ahead) (defScope s_is_row_ahead) .none kV9 dc9 pm9 an9 cd9 ct9), sl9⟩) (c9 : PySem.W.codeIn K cd9 "_law_is_row_ahead" = true) (k9 : PySem.W.keepIn K (.ref f9) = true)
    {f10 : Addr} {od10 an10 : Option Addr} {sl10 : Array (Option Value)} {oc10 kV10 dc10 pm10 cd10 ct10 : Value}
    (a10 : PySem.W.nsIn K mainGlobals "_law_in_order" = some (some (.ref f10))) (l10 : K.lookup f10 = some ⟨oc10, od10, .func (PySem.W.fnOf "_law_in_order" "_law_in_order" (defArgs s_in_order) (defBody s_in_order) (defScope s_in_order) .none kV10 dc10 pm10 an10 cd10 ct10), sl10⟩) (c10 : PySem.W.codeIn K cd10 "_law_in_order" = true) (k10 : PySem.W.keepIn K (.ref f10) = true)
    {f11 : Addr} {od11 an11 : Option Addr} {sl11 : Array (Option Value)} {oc11 kV11 dc11 pm11 cd11 ct11 : Value}
    (a11 : PySem.W.nsIn K mainGlobals "_law_pair" = some (some (.ref f11))) (l11 : K.lookup f11 = some ⟨oc11, od11, .func (PySem.W.fnOf "_law_pair" "_law_pair" (defArgs s_pair) (defBody s_pair) (defScope s_pair) .none kV11 dc11 pm11 an11 cd11 ct11), sl11⟩) (c11 : PySem.W.codeIn K cd11 "_law_pair" = true) (k11 : PySem.W.keepIn K (.ref f11) = true)
    {f12 : Addr} {od12 an12 : Option Addr} {sl12 : Array (Option Value)} {oc12 kV12 dc12 pm12 cd12 ct12 : Value}
    (a12 : PySem.W.nsIn K mainGlobals "_law_are_values_told" = some (some (.ref f12))) (l12 : K.lookup f12 = some ⟨oc12, od12, .func (PySem.W.fnOf "_law_are_values_told" "_law_are_values_told" (defArgs s_are_values_told) (defBody s_are_values_told) (defScope s_are_values_told) .none kV12 dc12 pm12 an12 cd12 ct12), sl12⟩) (c12 : PySem.W.codeIn K cd12 "_law_are_values_told" = true) (k12 : PySem.W.keepIn K (.ref f12) = true)
    {f13 : Addr} {od13 an13 : Option Addr} {sl13 : Array (Option Value)} {oc13 kV13 dc13 pm13 cd13 ct13 : Value}
    (a13 : PySem.W.nsIn K mainGlobals "_law_are_rows_told" = some (some (.ref f13))) (l13 : K.lookup f13 = some ⟨oc13, od13, .func (PySem.W.fnOf "_law_are_rows_told" "_law_are_rows_told" (defArgs s_are_rows_told) (defBody s_are_rows_told) (defScope s_are_rows_told) .none kV13 dc13 pm13 an13 cd13 ct13), sl13⟩) (c13 : PySem.W.codeIn K cd13 "_law_are_rows_told" = true) (k13 : PySem.W.keepIn K (.ref f13) = true)
    {f14 : Addr} {od14 an14 : Option Addr} {sl14 : Array (Option Value)} {oc14 kV14 dc14 pm14 cd14 ct14 : Value}
    (a14 : PySem.W.nsIn K mainGlobals "law" = some (some (.ref f14))) (l14 : K.lookup f14 = some ⟨oc14, od14, .func (PySem.W.fnOf "law" "law" (defArgs s_law) (defBody s_law) (defScope s_law) .none kV14 dc14 pm14 an14 cd14 ct14), sl14⟩) (c14 : PySem.W.codeIn K cd14 "law" = true) (k14 : PySem.W.keepIn K (.ref f14) = true)
    (z0 : PySem.W.nsIn K mainGlobals "enumerate" = some none)
    (z1 : PySem.W.nsIn K mainGlobals "int" = some none)
    (z2 : PySem.W.nsIn K mainGlobals "isinstance" = some none)
    (z3 : PySem.W.nsIn K mainGlobals "len" = some none)
    (z4 : PySem.W.nsIn K mainGlobals "min" = some none)
    (z5 : PySem.W.nsIn K mainGlobals "ord" = some none)
    (z6 : PySem.W.nsIn K mainGlobals "range" = some none)
    (z7 : PySem.W.nsIn K mainGlobals "repr" = some none)
    (z8 : PySem.W.nsIn K mainGlobals "sorted" = some none)
    (z9 : PySem.W.nsIn K mainGlobals "str" = some none)
    (z10 : PySem.W.nsIn K mainGlobals "sum" = some none)
    (z11 : PySem.W.nsIn K mainGlobals "tuple" = some none) :
    ∃ fd : FuncData, (∀ (s : Shared) (v : Value), BindsTo s fd ⟨[v], []⟩ [("_law_script", v)]) ∧ ∀ base : Heap, K.In base → base.Ns mainGlobals mg → FnG P w K mg base CX0 5 fa fd ["_law_script"] (spLaw K) := by
  have e := hfa.symm.trans (PySem.W.mg_of X G a14)
  cases e
  have F0 := fun_mk (st := s_value_rank) l0 c0 k0
  have b0 := F0.binds (ps := ["value"]) fun _ _ _ _ _ _ us hl => match us, hl with | [_], _ => rfl
  have g0 := PySem.W.mg_of X G a0
  have kb0 := BV.Fun.kwb F0 (ps := ["value"]) fun _ _ _ _ _ _ ws hl => match ws, hl with | [_], _ => rfl
  have F1 := fun_mk (st := s_row_rank) l1 c1 k1
  have b1 := F1.binds (ps := ["row"]) fun _ _ _ _ _ _ us hl => match us, hl with | [_], _ => rfl
  have g1 := PySem.W.mg_of X G a1
  have kb1 := BV.Fun.kwb F1 (ps := ["row"]) fun _ _ _ _ _ _ ws hl => match ws, hl with | [_], _ => rfl
  have F2 := fun_mk (st := s_purse) l2 c2 k2
  have b2 := F2.binds (ps := ["_law_script"]) fun _ _ _ _ _ _ us hl => match us, hl with | [_], _ => rfl
  have g2 := PySem.W.mg_of X G a2
  have F3 := fun_mk (st := s_draw) l3 c3 k3
  have b3 := F3.binds (ps := ["_law_purse_here", "_law_many"]) fun _ _ _ _ _ _ us hl => match us, hl with | [_, _], _ => rfl
  have g3 := PySem.W.mg_of X G a3
  have F4 := fun_mk (st := s_pick) l4 c4 k4
  have b4 := F4.binds (ps := ["_law_purse_here", "_law_some"]) fun _ _ _ _ _ _ us hl => match us, hl with | [_, _], _ => rfl
  have g4 := PySem.W.mg_of X G a4
  have F5 := fun_mk (st := s_word) l5 c5 k5
  have b5 := F5.binds (ps := ["_law_purse_here", "_law_size"]) fun _ _ _ _ _ _ us hl => match us, hl with | [_, _], _ => rfl
  have g5 := PySem.W.mg_of X G a5
  have F6 := fun_mk (st := s_stock) l6 c6 k6
  have b6 := F6.binds (ps := ["_law_purse_here"]) fun _ _ _ _ _ _ us hl => match us, hl with | [_], _ => rfl
  have g6 := PySem.W.mg_of X G a6
  have F7 := fun_mk (st := s_lines) l7 c7 k7
  have b7 := F7.binds (ps := ["_law_purse_here", "_law_stock_here"]) fun _ _ _ _ _ _ us hl => match us, hl with | [_, _], _ => rfl
  have g7 := PySem.W.mg_of X G a7
  have F8 := fun_mk (st := s_is_ahead) l8 c8 k8
  have b8 := F8.binds (ps := ["_law_one", "_law_two"]) fun _ _ _ _ _ _ us hl => match us, hl with | [_, _], _ => rfl
  have g8 := PySem.W.mg_of X G a8
  have F9 := fun_mk (st := s_is_row_ahead) l9 c9 k9
  have b9 := F9.binds (ps := ["_law_one", "_law_two"]) fun _ _ _ _ _ _ us hl => match us, hl with | [_, _], _ => rfl
  have g9 := PySem.W.mg_of X G a9
  have F10 := fun_mk (st := s_in_order) l10 c10 k10
  have b10 := F10.binds (ps := ["_law_lines_here"]) fun _ _ _ _ _ _ us hl => match us, hl with | [_], _ => rfl
  have g10 := PySem.W.mg_of X G a10
  have F11 := fun_mk (st := s_pair) l11 c11 k11
  have b11 := F11.binds (ps := ["_law_thing"]) fun _ _ _ _ _ _ us hl => match us, hl with | [_], _ => rfl
  have g11 := PySem.W.mg_of X G a11
  have F12 := fun_mk (st := s_are_values_told) l12 c12 k12
  have b12 := F12.binds (ps := ["_law_stock_here"]) fun _ _ _ _ _ _ us hl => match us, hl with | [_], _ => rfl
  have g12 := PySem.W.mg_of X G a12
  have F13 := fun_mk (st := s_are_rows_told) l13 c13 k13
  have b13 := F13.binds (ps := ["_law_lines_here"]) fun _ _ _ _ _ _ us hl => match us, hl with | [_], _ => rfl
  have g13 := PySem.W.mg_of X G a13
  have F14 := fun_mk (st := s_law) l14 c14 k14
  have bi_enumerate := PySem.W.mg_none_of X G z0
  have bi_int := PySem.W.mg_none_of X G z1
  have bi_isinstance := PySem.W.mg_none_of X G z2
  have bi_len := PySem.W.mg_none_of X G z3
  have bi_min := PySem.W.mg_none_of X G z4
  have bi_ord := PySem.W.mg_none_of X G z5
  have bi_range := PySem.W.mg_none_of X G z6
  have bi_repr := PySem.W.mg_none_of X G z7
  have bi_sorted := PySem.W.mg_none_of X G z8
  have bi_str := PySem.W.mg_none_of X G z9
  have bi_sum := PySem.W.mg_none_of X G z10
  have bi_tuple := PySem.W.mg_none_of X G z11
  refine ⟨PySem.W.fnOf "law" "law" (defArgs s_law) (defBody s_law) (defScope s_law) .none kV14 dc14 pm14 an14 cd14 ct14, fun s v => .of_eq rfl, fun base _ _ => ?_⟩
  have G_draw : Kn P w K mg base "_law_draw" 1 ["_law_purse_here", "_law_many"] spDraw := ⟨_, _, ok_draw F3 bi_len bi_int, b3, k3, g3⟩
  have GK_value_rank : KnK P w K mg base "value_rank" 1 ["value"] sp_rank := KnK.says ⟨_, _, ok_value_rank F0 bi_isinstance bi_str, b0, k0, g0, kb0⟩ says_value_rank
  have G_value_rank := GK_value_rank.kn
  have GK_row_rank : KnK P w K mg base "row_rank" 2 ["row"] sp_rankR := KnK.says ⟨_, _, ok_row_rank F1 bi_tuple G_value_rank, b1, k1, g1, kb1⟩ says_row_rank
  have G_row_rank := GK_row_rank.kn
  have G_pick : Kn P w K mg base "_law_pick" 2 ["_law_purse_here", "_law_some"] sp_pick := Kn.says ⟨_, _, ok_pick F4 bi_len G_draw, b4, k4, g4⟩ says_pick
  have G_word : Kn P w K mg base "_law_word" 3 ["_law_purse_here", "_law_size"] sp_word := Kn.says ⟨_, _, ok_word F5 bi_range G_pick, b5, k5, g5⟩ says_word
  have G_stock : Kn P w K mg base "_law_stock" 4 ["_law_purse_here"] sp_stock := Kn.says ⟨_, _, ok_stock F6 bi_range G_word G_draw G_pick, b6, k6, g6⟩ says_stock
  have G_lines : Kn P w K mg base "_law_lines" 3 ["_law_purse_here", "_law_stock_here"] sp_lines := Kn.says ⟨_, _, ok_lines F7 bi_range bi_len bi_tuple G_pick G_draw, b7, k7, g7⟩ says_lines
  have G_is_ahead : Kn P w K mg base "_law_is_ahead" 1 ["_law_one", "_law_two"] sp_ahead := Kn.says ⟨_, _, ok_is_ahead F8 bi_isinstance bi_int bi_range bi_min bi_len bi_ord, b8, k8, g8⟩ says_is_ahead
  have G_is_row_ahead : Kn P w K mg base "_law_is_row_ahead" 2 ["_law_one", "_law_two"] sp_rowAhead := Kn.says ⟨_, _, ok_is_row_ahead F9 bi_range bi_min bi_len G_is_ahead, b9, k9, g9⟩ says_is_row_ahead
  have G_in_order : Kn P w K mg base "_law_in_order" 3 ["_law_lines_here"] sp_inOrder := Kn.says ⟨_, _, ok_in_order F10 bi_len G_is_row_ahead, b10, k10, g10⟩ says_in_order
  have G_pair : Kn P w K mg base "_law_pair" 1 ["_law_thing"] sp_rank := Kn.says ⟨_, _, ok_pair F11 bi_isinstance bi_int, b11, k11, g11⟩ says_pair
  have G_are_values_told : Kn P w K mg base "_law_are_values_told" 4 ["_law_stock_here"] sp_valuesTold := Kn.says ⟨_, _, ok_are_values_told F12 bi_repr bi_sorted bi_enumerate GK_value_rank G_pair G_is_ahead G_in_order, b12, k12, g12⟩ says_are_values_told
  have G_are_rows_told : Kn P w K mg base "_law_are_rows_told" 4 ["_law_lines_here"] sp_rowsTold := Kn.says ⟨_, _, ok_are_rows_told F13 bi_tuple bi_repr bi_enumerate bi_sorted G_pair GK_row_rank G_is_row_ahead G_in_order, b13, k13, g13⟩ says_are_rows_told
  exact ok_law F14 (ok_purse F2 bi_len bi_sum) b2 k2 g2 bi_range G_stock G_are_values_told G_are_rows_told G_lines
end K02
open PySem PySem.W PyProof.Rows
set_option maxHeartbeats 0 in
theorem PySem.Challenge.cw_onlywith_k02_ranks_of_values_and_rows_holds : PySem.Challenge.rw_onlywith_k02_ranks_of_values_and_rows.Holds := by
  w_on; o_law; k_head; (case hw => w_witness2)
  k_fill
  refine BV.end_walk (l := PySem.Challenge.rw_onlywith_k02_ranks_of_values_and_rows) (n := 63) (k := 5) (x := "_law_script") (CX := fun _ => L2.CX0) (sp := fun w => K02.spLaw _) rfl (by decide) rfl ⟨rfl, by decide, by decide⟩ (fun w h Y => PySem.W.kIn_of Y) ?F (fun _ _ a ns hl _ hS => ⟨a, ns, rfl, hS, hl, fun _ => rfl⟩) (fun _ _ _ _ _ h => h)
  case F =>
    intro w mg fa h KX G hmg
    refine' K02.all_mk KX G hmg ?a0 ?l0 ?c0 ?k0 ?a1 ?l1 ?c1 ?k1 ?a2 ?l2 ?c2 ?k2 ?a3 ?l3 ?c3 ?k3 ?a4 ?l4 ?c4 ?k4 ?a5 ?l5 ?c5 ?k5 ?a6 ?l6 ?c6 ?k6 ?a7 ?l7 ?c7 ?k7 ?a8 ?l8 ?c8 ?k8 ?a9 ?l9 ?c9 ?k9 ?a10 ?l10 ?c10 ?k10 ?a11 ?l11 ?c11 ?k11 ?a12 ?l12 ?c12 ?k12 ?a13 ?l13 ?c13 ?k13 ?a14 ?l14 ?c14 ?k14 ?z0 ?z1 ?z2 ?z3 ?z4 ?z5 ?z6 ?z7 ?z8 ?z9 ?z10 ?z11
    (case a0 => k_is); (case l0 => k_is); (case c0 => k_is); (case k0 => k_is); (case a1 => k_is); (case l1 => k_is); (case c1 => k_is); (case k1 => k_is); (case a2 => k_is); (case l2 => k_is); (case c2 => k_is); (case k2 => k_is); (case a3 => k_is); (case l3 => k_is); (case c3 => k_is); (case k3 => k_is); (case a4 => k_is); (case l4 => k_is); (case c4 => k_is); (case k4 => k_is); (case a5 => k_is); (case l5 => k_is); (case c5 => k_is); (case k5 => k_is); (case a6 => k_is); (case l6 => k_is); (case c6 => k_is); (case k6 => k_is); (case a7 => k_is); (case l7 => k_is); (case c7 => k_is); (case k7 => k_is); (case a8 => k_is); (case l8 => k_is); (case c8 => k_is); (case k8 => k_is); (case a9 => k_is); (case l9 => k_is); (case c9 => k_is); (case k9 => k_is); (case a10 => k_is); (case l10 => k_is); (case c10 => k_is); (case k10 => k_is); (case a11 => k_is); (case l11 => k_is); (case c11 => k_is); (case k11 => k_is); (case a12 => k_is); (case l12 => k_is); (case c12 => k_is); (case k12 => k_is); (case a13 => k_is); (case l13 => k_is); (case c13 => k_is); (case k13 => k_is); (case a14 => k_is); (case l14 => k_is); (case c14 => k_is); (case k14 => k_is); (case z0 => k_is); (case z1 => k_is); (case z2 => k_is); (case z3 => k_is); (case z4 => k_is); (case z5 => k_is); (case z6 => k_is); (case z7 => k_is); (case z8 => k_is); (case z9 => k_is); (case z10 => k_is); (case z11 => k_is)

